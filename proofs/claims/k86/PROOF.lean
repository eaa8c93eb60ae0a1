import PyProof.Rows.All
import Wide.All
import OpenK.AllK
import Wide.FinOn
import Lean
import PyProof.EqAt
import PyProof.EqKinds
import PyProof.TupleCall
import PySem.Challenge.RW_dialyard_k86_rows_that_cannot_stand
set_option Elab.async false
set_option linter.all false
set_option maxRecDepth 100000
set_option maxHeartbeats 4000000
namespace L2
open PySem PySem.Spec PyProof.Rows
abbrev Key:=Sum Int Str
def keyIs:Key->Value->Bool
 | .inl k,v=>Value.isInt k v
 | .inr x,v=>Value.isStrOf x v
def keyH(w:World):Key->Int
 | .inl k=>hashInt k
 | .inr x=>hashStr w x
theorem keyIs_shape:∀{k:Key}{v:Value},keyIs k v=true->(∃i t,k=Sum.inl i/\v=Value.int i t)∨(∃x t,k=Sum.inr x/\v=Value.str x t)
 | .inl i,v,h=>by
  obtain⟨t,e⟩:=Value.isInt_shape (k:=i) (v:=v) h
  exact .inl ⟨i,t,rfl,e⟩
 | .inr x,v,h=>by
  obtain⟨t,e⟩:=Value.isStrOf_shape (x:=x) (v:=v) h
  exact .inr ⟨x,t,rfl,e⟩
theorem keyIs_int(i:Int)(t:Tok):keyIs (.inl i) (.int i t)=true:=by simp[keyIs,Value.isInt]
theorem keyIs_str(x:Str)(t:Tok):keyIs (.inr x) (.str x t)=true:=by simp[keyIs,Value.isStrOf]
theorem key_ll(a b:Int):decide ((Sum.inl a:Key)=Sum.inl b)=(a==b):=by
 by_cases e:a=b
 ·subst e;simp
 ·have h:¬ (Sum.inl a:Key)=Sum.inl b:=fun q=>e (Sum.inl.inj q)
  rw[decide_eq_false h]
  exact(beq_eq_false_iff_ne.mpr e).symm
theorem key_rr(a b:Str):decide ((Sum.inr a:Key)=Sum.inr b)=decide (a=b):=by
 by_cases e:a=b
 ·subst e;simp
 ·have h:¬ (Sum.inr a:Key)=Sum.inr b:=fun q=>e (Sum.inr.inj q)
  rw[decide_eq_false h,decide_eq_false e]
theorem key_lr(a:Int)(b:Str):decide ((Sum.inl a:Key)=Sum.inr b)=false:=decide_eq_false (fun q=>nomatch q)
theorem key_rl(a:Str)(b:Int):decide ((Sum.inr a:Key)=Sum.inl b)=false:=decide_eq_false (fun q=>nomatch q)
def mixKind(prog:Program)(w:World):PySem.KeyKind prog w Key where
 is:=keyIs
 hash:=keyH w
 inj:=fun v a b ha hb=>by
  rcases keyIs_shape ha with ⟨i,t,rfl,rfl⟩|⟨x,t,rfl,rfl⟩
  ·rcases keyIs_shape hb with ⟨j,u,rfl,e⟩|⟨y,u,rfl,e⟩
   ·injection e with e1 _;rw[e1]
   ·exact nomatch e
  ·rcases keyIs_shape hb with ⟨j,u,rfl,e⟩|⟨y,u,rfl,e⟩
   ·exact nomatch e
   ·injection e with e1 _;rw[e1]
 byValue:=fun k v h=>by
  rcases keyIs_shape h with ⟨i,t,rfl,rfl⟩|⟨x,t,rfl,rfl⟩<;>rfl
 pyHash:=fun hv h=>by
  rcases keyIs_shape hv with ⟨i,t,rfl,rfl⟩|⟨x,t,rfl,rfl⟩
  ·exact wpAny_pyHash_int h
  ·exact wpAny_pyHash_str h
 eqBool:=fun hu hv h=>by
  rcases keyIs_shape hu with ⟨i,t,rfl,rfl⟩|⟨x,t,rfl,rfl⟩
  ·rcases keyIs_shape hv with ⟨j,u,rfl,rfl⟩|⟨y,u,rfl,rfl⟩
   ·rw[key_ll]at h;exact wpAny_eqBool_int h
   ·rw[key_lr]at h;exact SeqAt.EqAt.int_str i t y u _ _ _ _ h
  ·rcases keyIs_shape hv with ⟨j,u,rfl,rfl⟩|⟨y,u,rfl,rfl⟩
   ·rw[key_rl]at h;exact SeqAt.EqAt.str_int x t j u _ _ _ _ h
   ·rw[key_rr]at h;exact wpAny_eqBool_str h
 «strs»:=fun k x t v h=>by
  rcases keyIs_shape h with ⟨i,u,rfl,e⟩|⟨y,u,rfl,e⟩
  ·exact nomatch e
  ·injection e with e1 _
   subst e1
   cases v<;>rfl
theorem mixKind_int(prog:Program)(w:World)(i:Int)(t:Tok):(mixKind prog w).is (.inl i) (.int i t)=true:=keyIs_int i t
theorem mixKind_str(prog:Program)(w:World)(x:Str)(t:Tok):(mixKind prog w).is (.inr x) (.str x t)=true:=keyIs_str x t
end L2
namespace L2
open PySem PySem.Spec PyProof.Rows
inductive V where
 | non|bl (b:Bool)|int (i:Int)|str (x:Str)|byt (b:Array UInt8)|flt (b:UInt64)|ref (a:Addr)|ty (n:String)
 deriving DecidableEq
def RelV:V->Value->Prop
 | .non,u=>u=Value.none
 | .bl b,u=>u=Value.bool b
 | .int i,u=>∃t,u=Value.int i t
 | .str x,u=>∃t,u=Value.str x t
 | .byt b,u=>∃t,u=Value.bytes b t
 | .flt b,u=>∃t,u=Value.float b t
 | .ref a,u=>u=Value.ref a
 | .ty n,u=>u=Value.type n
abbrev Vals:List V->List Value->Prop:=Paired RelV
theorem Vals.length{xs:List V}{us:List Value}(r:Vals xs us):xs.length=us.length:=Paired.length r
theorem Vals.get:∀{xs:List V}{us:List Value}{i:Nat}{x:V},Vals xs us->xs[i]?=some x->∃u,us[i]?=some u/\RelV x u
 | _,_,_,_,.nil,e=>by simp at e
 | _,_,0,_,.cons r _,e=>by simp at e;subst e;exact⟨_,rfl,r⟩
 | _,_,i + 1,x,.cons _ t,e=>by
  obtain⟨u,h1,h2⟩:=Vals.get (i:=i) (x:=x) t (by simpa using e)
  exact⟨u,by simpa using h1,h2⟩
theorem Vals.set{x:V}{u:Value}(r:RelV x u):∀{xs:List V}{us:List Value}(i:Nat),Vals xs us->Vals (xs.set i x) (us.set i u)
 | _,_,_,.nil=>.nil
 | _,_,0,.cons _ t=>.cons r t
 | _,_,i + 1,.cons q t=>.cons q (Vals.set r i t)
theorem Vals.append:∀{xs ys:List V}{us ws:List Value},Vals xs us->Vals ys ws->Vals (xs++ys) (us++ws)
 | _,_,_,_,.nil,s=>s
 | _,_,_,_,.cons r t,s=>.cons r (Vals.append t s)
theorem Vals.take:∀{xs:List V}{us:List Value}(n:Nat),Vals xs us->Vals (xs.take n) (us.take n)
 | _,_,0,_=>.nil
 | _,_,_ + 1,.nil=>.nil
 | _,_,n + 1,.cons r t=>.cons r (Vals.take n t)
theorem Vals.drop:∀{xs:List V}{us:List Value}(n:Nat),Vals xs us->Vals (xs.drop n) (us.drop n)
 | _,_,0,r=>r
 | _,_,_ + 1,.nil=>.nil
 | _,_,n + 1,.cons _ t=>Vals.drop n t
def RelO:Option V->Option Value->Prop
 | some v,some u=>RelV v u
 | none,none=>True
 | _,_=>False
def KV{κ:Type}:List (κ×V)->List (κ×Value)->Prop:=Paired fun (p:κ×V) (q:κ×Value)=>p.1=q.1/\RelV p.2 q.2
def kV:Key->V
 | .inl i=>.int i
 | .inr x=>.str x
inductive HO where
 | lst (xs:List V)
 | tup (xs:List V)
 | dK (kvs:List (Key×V))|dT (kvs:List (List Key×V))
 | set (S:Int->Bool) (n:Nat)
 | ins (C dx:Addr) (fs:List (Str×V))
 | own (x:Addr)
 | xd (fs:List (Str×V))
 | met (f x:Addr)
 | rng (lo hi:Int)
 | frz (o:Obj) (u:HO)
 | tbl (ps:Array Value)
 | ext (φ:Heap->Prop)
abbrev Hp:=Addr->Option HO
def upd(H:Hp)(a:Addr)(o:HO):Hp:=fun b=>if b=a then some o else H b
theorem upd_same{H:Hp}{a:Addr}{o:HO}:upd H a o a=some o:=by unfold upd;rw[if_pos rfl]
theorem upd_ne{H:Hp}{a b:Addr}{o:HO}(h:b≠a):upd H a o b=H b:=by unfold upd;rw[if_neg h]
theorem upd_upd{H:Hp}{a:Addr}{o u:HO}:upd (upd H a o) a u=upd H a u:=by
 funext b;unfold upd;split<;>rfl
theorem ne_of{H:Hp}{a b:Addr}{o u:HO}(h:H a=some o)(h':H b=some u)(d:o≠u):a≠b:=by
 intro e;subst e;rw[h]at h';exact d (Option.some.inj h')
theorem ne_of_none{H:Hp}{a b:Addr}{o:HO}(h:H a=some o)(h':H b=none):a≠b:=by
 intro e;subst e;rw[h]at h';cases h'
section
variable (P:Program) (w:World)
def ObjOk(H:Hp)(h:Heap)(a:Addr):HO->Prop
 | .lst xs=>xs.length<=sizeLine/\∃(its:List Value) (n:Nat),Vals xs its/\h.get? a=some {cls:=.type "list", data:=.seq its.toArray n}
 | .tup xs=>xs.length<=sizeLine/\∃its:List Value,Vals xs its/\IsTup h a its.toArray
 | .dK kvs=>kvs.length<=sizeLine/\(a==sysModules)=false/\∃vs,KV kvs vs/\h.DictOf (mixKind P w) a vs
 | .dT kvs=>kvs.length<=sizeLine/\(a==sysModules)=false/\∃xs:List (List Key×Addr×Value),
   Paired (fun (p:List Key×V) (q:List Key×Addr×Value)=>p.1=q.1/\H q.2.1=some (.tup (p.1.map kV))/\RelV p.2 q.2.2) kvs xs ∧
   ∃o es ep,h.get? a=some o/\o.ExactDict/\o.data=.dict es ep/\es.toList=xs.map (entryOfKey (tupleKind (mixKind P w)))/\(xs.map (·.1)).Nodup
 | .set S n=>h.SetOf (intKind P w) a S n
 | .ins C dx fs=>H dx=some (.own a)/\fs.length<=1000/\dx≠a/\h.get? a=some (PySem.W.instObj C dx) ∧
   ∃mA,h.Ns1 dx mA/\(∀f,RelO (fs.lookup f) (mA f))/\PySem.Within mA (fs.map (·.1))
 | .own _=>∃o,h.get? a=some o
 | .xd fs=>∃mA,h.Ns1 a mA/\∀f,RelO (fs.lookup f) (mA f)
 | .rng lo hi=>∃t u v,h.get? a=some {cls:=.type "range", data:=.fields #[.int lo t,.int hi u,.int 1 v]}
 | .frz o u=>h.get? a=some o/\ObjOk H h a u
 | .tbl ps=>h.get? a=some {cls:=.none,data:=.fields ps}
 | .met f x=>h.get? a=some (PySem.W.methodObj (.ref f) (.ref x))
 | .ext φ=>φ h/\(∃o,h.get? a=some o)/\∀h1 h2:Heap,φ h1->(∀o,h1.get? a=some o->h2.get? a=some o)->φ h2
def HOk(H:Hp)(h:Heap):Prop:=∀a o,H a=some o->ObjOk P w H h a o
end
section
variable {P:Program} {w:World} {H H':Hp} {h h':Heap} {a:Addr} {o:HO}
theorem ObjOk.lt(x:ObjOk P w H h a o):a < h.objs.size:=by
 cases o with
 | lst xs=>obtain⟨_,_,_,_,e⟩:=x;exact Heap.lt_size e
 | tup xs=>obtain⟨_,_,_,p⟩:=x;exact p.lt
 | dK kvs=>obtain⟨_,_,_,_,o,_,_,e,_⟩:=x;exact Heap.lt_size e
 | dT kvs=>obtain⟨_,_,_,_,o,_,_,e,_⟩:=x;exact Heap.lt_size e
 | set S n=>obtain⟨o,_,_,_,e,_⟩:=x;exact Heap.lt_size e
 | ins C dx fs=>obtain⟨_,_,_,e,_⟩:=x;exact Heap.lt_size e
 | own y=>obtain⟨_,e⟩:=x;exact Heap.lt_size e
 | xd fs=>obtain⟨_,⟨_,_,_,e,_⟩,_⟩:=x;exact Heap.lt_size e
 | rng lo hi=>obtain⟨_,_,_,e⟩:=x;exact Heap.lt_size e
 | frz ob u=>obtain⟨e,_⟩:=x;exact Heap.lt_size e
 | tbl ps=>exact Heap.lt_size (show h.get? a=some _ from x)
 | met f y=>exact Heap.lt_size (show h.get? a=some _ from x)
 | ext φ=>obtain⟨_,⟨_,e⟩,_⟩:=x;exact Heap.lt_size e
theorem Paired.mapP{α β:Type}{F G:α->β->Prop}:∀{l₁:List α}{l₂:List β},Paired F l₁ l₂->(∀a b,F a b->G a b)->Paired G l₁ l₂
 | _,_,.nil,_=>.nil
 | _,_,.cons r t,f=>.cons (f _ _ r) (Paired.mapP t f)
theorem ObjOk.stay(x:ObjOk P w H h a o)(k:∀b u,(b=a∨H b=some (.own a))->h.get? b=some u->h'.get? b=some u)
  (ho:∀b,H b=some (.own a)->H' b=some (.own a)) (ht:∀b xs,H b=some (.tup xs)->H' b=some (.tup xs)):ObjOk P w H' h' a o:=by
 induction o with
 | lst xs=>obtain⟨z,its,n,r,e⟩:=x;exact⟨z,its,n,r,k _ _ (.inl rfl) e⟩
 | tup xs=>obtain⟨z,its,r,ob,e,c⟩:=x;exact⟨z,its,r,ob,k _ _ (.inl rfl) e,c⟩
 | dK kvs=>obtain⟨z,y,vs,r,ob,es,ep,e,c⟩:=x;exact⟨z,y,vs,r,ob,es,ep,k _ _ (.inl rfl) e,c⟩
 | dT kvs =>
  obtain⟨z,y,xs,r,ob,es,ep,e,c⟩:=x
  exact⟨z,y,xs,Paired.mapP r fun p q z=>⟨z.1,ht _ _ z.2.1,z.2.2⟩,ob,es,ep,k _ _ (.inl rfl) e,c⟩
 | set S n=>obtain⟨ob,es,ep,t,e,c⟩:=x;exact⟨ob,es,ep,t,k _ _ (.inl rfl) e,c⟩
 | ins C dx fs =>
  obtain⟨d,z,ne,e,mA,⟨od,es,ep,e2,c⟩,r⟩:=x
  exact⟨ho _ d,z,ne,k _ _ (.inl rfl) e,mA,⟨od,es,ep,k _ _ (.inr d) e2,c⟩,r⟩
 | own y=>obtain⟨ob,e⟩:=x;exact⟨ob,k _ _ (.inl rfl) e⟩
 | xd fs=>obtain⟨mA,⟨od,es,ep,e,c⟩,r⟩:=x;exact⟨mA,⟨od,es,ep,k _ _ (.inl rfl) e,c⟩,r⟩
 | rng lo hi=>obtain⟨t,u,v,e⟩:=x;exact⟨t,u,v,k _ _ (.inl rfl) e⟩
 | frz ob u ih=>obtain⟨e,q⟩:=x;exact⟨k _ _ (.inl rfl) e,ih q⟩
 | tbl ps =>
  have e:h.get? a=some {cls:=.none,data:=.fields ps}:=x
  show h'.get? a=some {cls:=.none,data:=.fields ps}
  exact k a _ (.inl rfl) e
 | met f y =>
  have e:h.get? a=some (PySem.W.methodObj (.ref f) (.ref y)):=x
  show h'.get? a=some (PySem.W.methodObj (.ref f) (.ref y))
  exact k a _ (.inl rfl) e
 | ext φ=>obtain⟨p,⟨o,e⟩,st⟩:=x;exact⟨st _ _ p fun o q=>k _ _ (.inl rfl) q,⟨o,k _ _ (.inl rfl) e⟩,st⟩
theorem HOk.lt(x:HOk P w H h)(e:H a=some o):a < h.objs.size:=(x a o e).lt
theorem HOk.fresh(x:HOk P w H h)(e:h.objs.size<=a):H a=none:=by
 cases q:H a with
 | none=>rfl
 | some u=>exact absurd (Nat.lt_of_lt_of_le (x.lt q) e) (Nat.lt_irrefl _)
theorem HOk.kept(x:HOk P w H h)(k:∀b u,h.get? b=some u->h'.get? b=some u):HOk P w H h':=fun a o e =>
 (x a o e).stay (fun b u _ q=>k b u q) (fun _ q=>q) fun _ _ q=>q
theorem HOk.laid(x:HOk P w H h)(k:∀b u,h.get? b=some u->h'.get? b=some u)(hp:h.objs.size<=a)(new:ObjOk P w (upd H a o) h' a o):HOk P w (upd H a o) h':=fun b u e=>by
 have hn:=x.fresh hp
 by_cases hb:b=a
 ·subst hb;rw[upd_same]at e;cases e;exact new
 ·rw[upd_ne hb]at e
  exact(x b u e).stay (fun c v _ q=>k c v q) (fun c q=>by rw[upd_ne (ne_of_none q hn)];exact q) fun c xs q=>by rw[upd_ne (ne_of_none q hn)];exact q
end
def Rd(H:Hp)(a:Addr)(u:HO):Prop:=H a=some u∨∃o,H a=some (.frz o u)
theorem Rd.of{H:Hp}{a:Addr}{u:HO}(h:H a=some u):Rd H a u:=.inl h
theorem Rd.ok{P:Program}{w:World}{H:Hp}{h:Heap}{a:Addr}{u:HO}(r:Rd H a u)(x:HOk P w H h):ObjOk P w H h a u:=by
 rcases r with r|⟨o,r⟩
 ·exact x a u r
 ·obtain⟨_,q⟩:=x a _ r
  exact q
def Mut:Option HO->Prop
 | some (.lst _)=>True
 | some (.dK _)=>True
 | some (.dT _)=>True
 | some (.set _ _)=>True
 | some (.ins _ _ _)=>True
 | some (.ext _)=>True
 | _=>False
section
variable {P:Program} {w:World} {H:Hp} {h h':Heap} {x e:Addr} {o':HO}
theorem HOk.write(ok:HOk P w H h)(mu:Mut (H x))(he:e=x∨H e=some (.own x))(k:∀b u,b≠e->h.get? b=some u->h'.get? b=some u)(heo:∃u,h'.get? e=some u)
  (new:ObjOk P w (upd H x o') h' x o'):HOk P w (upd H x o') h':=fun b u q=>by
 have nown:∀c y,H c=some (.own y)->c≠x:=fun c y r z=>by subst z;rw[r]at mu;exact mu
 have ntup:∀c xs,H c=some (.tup xs)->c≠x:=fun c xs r z=>by subst z;rw[r]at mu;exact mu
 by_cases hb:b=x
 ·subst hb;rw[upd_same]at q;cases q;exact new
 ·rw[upd_ne hb]at q
  by_cases hbe:b=e
  ·have q':H b=some (.own x):=by
    rcases he with z|z
    ·exact absurd (hbe.trans z) hb
    ·rw[hbe];exact z
   rw[q]at q';cases q'
   obtain⟨v,hv⟩:=heo
   exact⟨v,by rw[hbe];exact hv⟩
  ·refine(ok b u q).stay (fun c v hc r=>k c v ?_ r) (fun c r=>by rw[upd_ne (nown c b r)];exact r) fun c xs r=>by rw[upd_ne (ntup c xs r)];exact r
   rcases hc with rfl|hc
   ·exact hbe
   ·rintro rfl
    rcases he with z|z
    ·exact nown c b hc z
    ·rw[hc]at z;cases z;exact hb rfl
end
structure Un(fs ex:List Addr)(H H':Hp)(h h':Heap):Prop where
 keep:∀b o,h.get? b=some o->H b=none->b∉fs->b∉ex->h'.get? b=some o
 slot:∀b o,h.get? b=some o->H b=none->b∈fs->b∉ex->∃sl,h'.get? b=some {o with slots:=sl}
 free:∀b o,h.get? b=some o->H b=none->b∉ex->H' b=none
 there:∀b o,h.get? b=some o->b∉ex->∃o',h'.get? b=some o'
 tups:∀b xs,H b=some (.tup xs)->H' b=some (.tup xs)
 frzs:∀b o u,H b=some (.frz o u)->H' b=some (.frz o u)
 tbls:∀b ps,H b=some (.tbl ps)->∃more,H' b=some (.tbl (ps++more))
section
variable {fs fs' ex ex':List Addr} {H H1 H2:Hp} {h h1 h2 h':Heap} {a x e:Addr} {o:HO}
theorem Un.any(u:Un fs ex H H1 h h1){b:Addr}{ob:Obj}(q:h.get? b=some ob)(n:H b=none)(hx:b∉ex):∃sl,h1.get? b=some {ob with slots:=sl}:=by
 by_cases hb:b∈fs
 ·exact u.slot b ob q n hb hx
 ·exact⟨ob.slots,u.keep b ob q n hb hx⟩
theorem Un.trans(a:Un fs ex H H1 h h1)(b:Un fs ex H1 H2 h1 h2):Un fs ex H H2 h h2 where
 keep:=fun c ob q n hc hx=>b.keep c ob (a.keep c ob q n hc hx) (a.free c ob q n hx) hc hx
 slot:=fun c ob q n hc hx=>by
  obtain⟨sl,e1⟩:=a.slot c ob q n hc hx
  obtain⟨sl',e2⟩:=b.slot c _ e1 (a.free c ob q n hx) hc hx
  exact⟨sl',e2⟩
 free:=fun c ob q n hx=>by
  obtain⟨o',e1⟩:=a.there c ob q hx
  exact b.free c o' e1 (a.free c ob q n hx) hx
 there:=fun c ob q hx=>by
  obtain⟨o',e1⟩:=a.there c ob q hx
  exact b.there c o' e1 hx
 tups:=fun c xs q=>b.tups c xs (a.tups c xs q)
 frzs:=fun c ob xs q=>b.frzs c ob xs (a.frzs c ob xs q)
 tbls:=fun c ps q=>by
  obtain⟨m1,e1⟩:=a.tbls c ps q
  obtain⟨m2,e2⟩:=b.tbls c _ e1
  exact⟨m1++m2,by rw[e2,Array.append_assoc]⟩
theorem Un.kept(k:∀b u,h.get? b=some u->h'.get? b=some u):Un fs ex H H h h' :=
 ⟨fun b ob q _ _ _=>k b ob q,fun b ob q _ _ _=>⟨ob.slots,k b ob q⟩,fun _ _ _ n _=>n,fun b ob q _=>⟨ob,k b ob q⟩,fun _ _ q=>q,fun _ _ _ q=>q,fun _ ps q=>⟨#[],by rw[q];simp⟩⟩
theorem Un.refl:Un fs ex H H h h:=Un.kept fun _ _ q=>q
theorem Un.laid(k:∀b u,h.get? b=some u->h'.get? b=some u)(hp:h.objs.size<=a)(hn:H a=none):Un fs ex H (upd H a o) h h' where
 keep:=fun b u q _ _ _=>k b u q
 slot:=fun b u q _ _ _=>⟨u.slots,k b u q⟩
 free:=fun b u q n _=>by rw[upd_ne (Nat.ne_of_lt (Nat.lt_of_lt_of_le (Heap.lt_size q) hp))];exact n
 there:=fun b u q _=>⟨u,k b u q⟩
 tups:=fun b xs q=>by rw[upd_ne (ne_of_none q hn)];exact q
 frzs:=fun b u xs q=>by rw[upd_ne (ne_of_none q hn)];exact q
 tbls:=fun b ps q=>⟨#[],by rw[upd_ne (ne_of_none q hn),q];simp⟩
theorem Un.write(mu:Mut (H x))(he:e=x∨H e=some (.own x))(k:∀b u,b≠e->h.get? b=some u->h'.get? b=some u)(heo:∃u,h'.get? e=some u):Un fs ex H (upd H x o) h h':=by
 have hx:∀b,H b=none->b≠x:=fun b n z=>by subst z;rw[n]at mu;exact mu
 have hb:∀b,H b=none->b≠e:=fun b n z=>by
  subst z
  rcases he with r|r
  ·exact hx b n r
  ·rw[n]at r;cases r
 have hm:∀b u,H b=some u->¬ Mut (some u)->b≠x:=fun b u q nm z=>by subst z;rw[q]at mu;exact nm mu
 refine⟨fun b u q n _ _=>k b u (hb b n) q,fun b u q n _ _=>⟨u.slots,k b u (hb b n) q⟩,fun b u q n _=>by rw[upd_ne (hx b n)];exact n,fun b u q _=>?_,
  fun b xs q=>by rw[upd_ne (hm b _ q fun z=>z)];exact q,fun b u xs q=>by rw[upd_ne (hm b _ q fun z=>z)];exact q,fun b ps q=>⟨#[],by rw[upd_ne (hm b _ q fun z=>z),q];simp⟩⟩
 by_cases hbe:b=e
 ·subst hbe;exact heo
 ·exact⟨u,k b u hbe q⟩
theorem Un.mono(u:Un fs ex H H1 h h1)(hs:∀b∈fs,b∈fs')(hx:∀b∈ex,b∈ex'):Un fs' ex' H H1 h h1 :=
 ⟨fun b ob q n hb he=>u.keep b ob q n (fun z=>hb (hs b z)) fun z=>he (hx b z),fun _ _ q n _ he=>u.any q n fun z=>he (hx _ z),fun b ob q n he=>u.free b ob q n fun z=>he (hx b z),fun b ob q he=>u.there b ob q fun z=>he (hx b z),u.tups,u.frzs,u.tbls⟩
end
def trk(h:Heap)(H:Hp):List Addr:=(List.range h.objs.size).filter fun a=>(H a).isSome
def hidT(h:Heap)(H:Hp):Heap:=PySem.W.hideAll h (trk h H)
theorem hidT_size(h:Heap)(H:Hp):(hidT h H).objs.size=h.objs.size:=PySem.W.hideAll_size _ _
theorem hidT_get{h:Heap}{H:Hp}{b:Addr}{o:Obj}(e:h.get? b=some o)(n:H b=none):(hidT h H).get? b=some o :=
 PySem.W.hideAll_get _ e fun hm=>by
  have q:(H b).isSome=true:=(List.mem_filter.mp hm).2
  rw[n]at q;simp at q
theorem of_hidT{h:Heap}{H:Hp}{b:Addr}{o:Obj}(e:(hidT h H).get? b=some o):h.get? b=some o/\H b=none:=by
 have e':h.get? b=some o:=PySem.W.of_hideAll (trk h H) e
 refine⟨e',?_⟩
 cases q:H b with
 | none=>rfl
 | some x =>
  have hm:b∈trk h H:=List.mem_filter.mpr ⟨List.mem_range.mpr (Heap.lt_size e'),by simp[q]⟩
  have z:(hidT h H).get? b=none:=PySem.W.hideAll_none (trk h H) hm
  rw[z]at e;cases e
def allNews(g h:Heap)(L:Addr):List (Addr×Obj):=(List.range h.objs.size).filterMap fun a=>if a=L∨(g.get? a).isSome=true then none else (h.get? a).map fun o=>(a,o)
def rest(g h:Heap)(L d:Addr):List (Addr×Obj):=(allNews g h L).filter fun p=>decide (p.1≠d)
end L2
namespace L2
open PySem PySem.Spec PyProof.Rows
structure Mod(K:PySem.W.Frag)(mg:Str->Option Value)(base:Heap):Prop where
 kin:K.In base
 glob:base.Ns mainGlobals mg
 blt:∃mb,base.Ns builtinsNs mb/\∀x:Str,x ≠ "__name__" -> mb x=bootBuiltins x
 nolimit:base.NoLimit
structure Cx where
 prog:Program
 w:World
 K:PySem.W.Frag
 mg:Str->Option Value
 base:Heap
 A:Around
 N:List Str
 s₀:Shared
 H₀:Hp
 env:Env
 outer:List Env
 stack:List Env
 ex:List Addr
 fn:Str->Bool
 calm:Bool
 pn:List (Addr×Obj)
 xe:Value->Shared->Prop
def frs(l:List Env):List Addr:=l.filterMap (·.frame)
abbrev Cx.fs(X:Cx):List Addr:=frs X.outer
def Vis(sc:Scope)(x:Str):Prop:=sc.names.lookup x=some .local∨sc.names.lookup x=some .cell∨sc.names.lookup x=some .free
def Loc(sc:Scope)(x:Str):Prop:=sc.names.lookup x=some .local∨sc.names.lookup x=some .cell
def Look(env:Env)(h:Heap)(m:Str->Option Value)(x:Str)(u:Value):Prop :=
 (env.kindOf x=some .local/\m x=some u)∨((env.kindOf x=some .cell∨env.kindOf x=some .free)/\∃c,env.cells.lookup x=some c/\h.IsCell c (some u))
structure Cx.Ok(X:Cx):Prop where
 mod:Mod X.K X.mg X.base
 kind:X.env.scope.kind=.function
 glob:X.env.globals=mainGlobals
 blt:X.env.builtins=builtinsNs
 above:X.s₀.heap.objs.size<=X.env.locals
 inj:∀x y c,X.env.cells.lookup x=some c->X.env.cells.lookup y=some c->x=y
 has:∀x,(X.env.kindOf x=some .cell∨X.env.kindOf x=some .free)->∃c,X.env.cells.lookup x=some c
 cab:∀x c,X.fn x=true->X.env.cells.lookup x=some c->X.s₀.heap.objs.size<=c
 hd:X.calm=true->X.A.handled=none
 frames:X.A.frames=some X.stack
 stk:X.stack=X.outer∨(X.stack=X.env::X.outer/\X.env.frame=some X.env.locals)
 exf:∀b∈X.ex,b≠X.env.locals/\∀x c,X.env.cells.lookup x=some c->c≠b
 bs:∀b o,X.base.get? b=some o->X.s₀.heap.get? b=some o/\X.H₀ b=none
 bsz:X.base.objs.size<=X.s₀.heap.objs.size
 noex:∀b o,X.base.get? b=some o->b∉X.ex
 exfs:∀b∈X.ex,b∉X.fs
 funs:X.s₀.heap.FunFrames X.base X.outer
 frf:∀b∈X.fs,X.H₀ b=none
structure Inv(X:Cx)(pins:List (Addr×Obj))(σ:List (Option V))(H:Hp)(s:Shared):Prop where
 ok:X.Ok
 os:s.os=X.s₀.os
 bare:AllBare s.gens
 base:Un X.fs X.ex X.H₀ H X.s₀.heap s.heap
 loc:∃m,s.heap.Ns X.env.locals m/\∀(i:Nat)(x:Str)(v:V),X.N[i]?=some x->σ[i]?=some (some v)->Vis X.env.scope x->∃u,RelV v u/\Look X.env s.heap m x u
 cell:∀x c,X.env.cells.lookup x=some c->∃v,s.heap.IsCell c v
 free:H X.env.locals=none
 freeC:∀x c,X.env.cells.lookup x=some c->H c=none
 pin:∀p∈X.pn++pins,s.heap.get? p.1=some p.2/\H p.1=none/\p.1≠X.env.locals/\p.1∉X.fs/\∀v,p.2.data ≠ .cell v
 hok:HOk X.prog X.w H s.heap
 len:σ.length=X.N.length
section
variable {X:Cx} {pins:List (Addr×Obj)} {σ:List (Option V)} {H H':Hp} {s:Shared} {h':Heap}
theorem Cx.Ok.nofr(ok:X.Ok){b:Addr}{o:Obj}(e:X.base.get? b=some o):b∉X.fs:=fun hb=>by
 have:=(ok.funs.mem hb).1
 rw[e]at this;cases this
theorem Inv.bs(I:Inv X pins σ H s):∀b o,X.base.get? b=some o->s.heap.get? b=some o/\H b=none:=fun b o e =>
 ⟨I.base.keep b o (I.ok.bs b o e).1 (I.ok.bs b o e).2 (I.ok.nofr e) (I.ok.noex b o e),I.base.free b o (I.ok.bs b o e).1 (I.ok.bs b o e).2 (I.ok.noex b o e)⟩
theorem Inv.bk(I:Inv X pins σ H s):∀b o,X.base.get? b=some o->s.heap.get? b=some o:=fun b o e=>(I.bs b o e).1
theorem Inv.mod(I:Inv X pins σ H s):Mod X.K X.mg X.base:=I.ok.mod
theorem Inv.kIn(I:Inv X pins σ H s):X.K.In s.heap:=I.ok.mod.kin.keeps I.bk
theorem Inv.nolimit(I:Inv X pins σ H s):s.heap.NoLimit:=I.ok.mod.nolimit.keeps I.bk
theorem Inv.lt(I:Inv X pins σ H s):X.env.locals < s.heap.objs.size:=let ⟨_,hn,_⟩:=I.loc;hn.lt
theorem Inv.sz(I:Inv X pins σ H s):X.s₀.heap.objs.size<=s.heap.objs.size:=Nat.le_trans I.ok.above (Nat.le_of_lt I.lt)
theorem Inv.nofs(I:Inv X pins σ H s){a:Addr}(h:s.heap.objs.size<=a):a∉X.fs:=fun hb=>by
 obtain⟨_,o,ho,_⟩:=I.ok.funs.mem hb
 exact absurd (Nat.lt_of_lt_of_le (Heap.lt_size ho) (Nat.le_trans I.sz h)) (Nat.lt_irrefl _)
theorem Inv.cne(I:Inv X pins σ H s):∀x c,X.env.cells.lookup x=some c->c≠X.env.locals:=fun x c e z=>by
 obtain⟨v,o,ho,hd⟩:=I.cell x c e
 obtain⟨m,⟨o',es,ep,ho',hd',_⟩,_⟩:=I.loc
 rw[z,ho']at ho;cases ho;rw[hd']at hd;cases hd
theorem Inv.funs(I:Inv X pins σ H s):s.heap.FunFrames X.base X.outer:=by
 have all:∀(l:List Env),(∀b∈frs l,b∈X.fs)->X.s₀.heap.FunFrames X.base l->s.heap.FunFrames X.base l:=by
  intro l
  induction l with
  | nil=>intro _ _;trivial
  | cons env r ih =>
   intro hs hl
   obtain⟨hk,⟨L,o,hf,hn,ho,hd⟩,hr⟩:=hl
   have hL:L∈X.fs:=hs L (by unfold frs;rw[List.filterMap_cons,hf];exact List.mem_cons_self)
   obtain⟨sl,e⟩:=I.base.slot L o ho (I.ok.frf L hL) hL fun z=>I.ok.exfs L z hL
   exact⟨hk,⟨L,_,hf,hn,e,hd⟩,ih (fun b hb=>hs b (by unfold frs;rw[List.filterMap_cons,hf];exact List.mem_cons_of_mem _ hb)) hr⟩
 exact all X.outer (fun _ hb=>hb) I.ok.funs
theorem Inv.stack(I:Inv X pins σ H s):s.heap.FunFrames X.base X.stack:=by
 rcases I.ok.stk with e|⟨e,hf⟩
 ·rw[e];exact I.funs
 ·rw[e]
  obtain⟨m,hn,_⟩:=I.loc
  refine .cons (by rw[I.ok.kind];decide) hf hn ?_ I.funs
  exact Heap.get?_none_of_le (Nat.le_trans I.ok.bsz I.ok.above)
theorem Inv.stkSub(I:Inv X pins σ H s):∀b∈frs X.stack,b∈X.env.locals::X.fs:=fun b hb=>by
 rcases I.ok.stk with e|⟨e,hf⟩
 ·rw[e]at hb;exact List.mem_cons_of_mem _ hb
 ·rw[e]at hb
  unfold frs at hb
  rw[List.filterMap_cons,hf]at hb
  exact hb
theorem Inv.stkFree(I:Inv X pins σ H s):∀b∈frs X.stack,H b=none:=fun b hb=>by
 rcases List.mem_cons.mp (I.stkSub b hb) with e|hb
 ·rw[e];exact I.free
 ·obtain⟨_,o,ho,_⟩:=I.ok.funs.mem hb
  exact I.base.free b o ho (I.ok.frf b hb) fun z=>I.ok.exfs b z hb
theorem Inv.step{g':Array GenState}{t':Nat}{d':Drawn}{ch:List Addr}(I:Inv X pins σ H s)
  (hch:∀b∈ch,(b∈X.ex∨X.s₀.heap.objs.size<=b)/\b≠X.env.locals/\(∀x c,X.env.cells.lookup x=some c->c≠b)/\∀p∈X.pn++pins,p.1≠b)
  (keep:∀b o,b≠X.env.locals->b∉X.fs->b∉ch->s.heap.get? b=some o->H b=none->h'.get? b=some o)
  (slot:∀b o,b≠X.env.locals->b∈X.fs->b∉ch->s.heap.get? b=some o->H b=none->∃sl,h'.get? b=some {o with slots:=sl}) (free:∀b o,b∉ch->s.heap.get? b=some o->H b=none->H' b=none)
  (there:∀b o,b∉ch->s.heap.get? b=some o->∃o',h'.get? b=some o')
  (tups:∀b xs,H b=some (.tup xs)->H' b=some (.tup xs)) (frzs:∀b o u,H b=some (.frz o u)->H' b=some (.frz o u)) (tbls:∀b ps,H b=some (.tbl ps)->∃more,H' b=some (.tbl (ps++more)))
  (ns:∀m,s.heap.Ns X.env.locals m->h'.Ns X.env.locals m) (hok:HOk X.prog X.w H' h') (hg:AllBare g') :
  Inv X pins σ H' {s with heap:=h',gens:=g',drawn:=d',toks:=t' }:=by
 have neL:∀b o,X.s₀.heap.get? b=some o->b≠X.env.locals:=fun b o e=>Nat.ne_of_lt (Nat.lt_of_lt_of_le (Heap.lt_size e) I.ok.above)
 have neC:∀b o,X.s₀.heap.get? b=some o->b∉X.ex->b∉ch:=fun b o e hx hb=>by
  rcases (hch b hb).1 with z|z
  ·exact hx z
  ·exact absurd (Nat.lt_of_lt_of_le (Heap.lt_size e) z) (Nat.lt_irrefl _)
 have cellK:∀x c,X.env.cells.lookup x=some c->∀v,s.heap.IsCell c v->h'.IsCell c v:=fun x c e v ⟨o,ho,hd⟩=>by
  have nch:c∉ch:=fun z=>(hch c z).2.2.1 x c e rfl
  by_cases hc:c∈X.fs
  ·obtain⟨sl,q⟩:=slot c o (I.cne x c e) hc nch ho (I.freeC x c e)
   exact⟨_,q,hd⟩
  ·exact⟨o,keep c o (I.cne x c e) hc nch ho (I.freeC x c e),hd⟩
 refine⟨I.ok,I.os,hg,⟨fun b o e n hb hx=>?_,fun b o e n hb hx=>?_,fun b o e n hx=>?_,fun b o e hx=>?_,fun b xs e=>tups b xs (I.base.tups b xs e),fun b o xs e=>frzs b o xs (I.base.frzs b o xs e),fun b ps e=>?_⟩,?_,fun x c e=>?_,?_,fun x c e=>?_,fun p hp=>?_,hok,I.len⟩
 ·exact keep b o (neL b o e) hb (neC b o e hx) (I.base.keep b o e n hb hx) (I.base.free b o e n hx)
 ·obtain⟨sl,e1⟩:=I.base.slot b o e n hb hx
  obtain⟨sl',e2⟩:=slot b _ (neL b o e) hb (neC b o e hx) e1 (I.base.free b o e n hx)
  exact⟨sl',e2⟩
 ·obtain⟨o',e1⟩:=I.base.there b o e hx
  exact free b o' (neC b o e hx) e1 (I.base.free b o e n hx)
 ·obtain⟨o',e1⟩:=I.base.there b o e hx
  exact there b o' (neC b o e hx) e1
 ·obtain⟨m1,e1⟩:=I.base.tbls b ps e
  obtain⟨m2,e2⟩:=tbls b _ e1
  exact⟨m1++m2,by rw[e2,Array.append_assoc]⟩
 ·obtain⟨m,hn,hl⟩:=I.loc
  refine⟨m,ns m hn,fun i x v e1 e2 e3=>?_⟩
  obtain⟨u,r,l⟩:=hl i x v e1 e2 e3
  refine⟨u,r,?_⟩
  rcases l with l|⟨k,c,e,z⟩
  ·exact .inl l
  ·exact .inr ⟨k,c,e,cellK x c e _ z⟩
 ·obtain⟨v,z⟩:=I.cell x c e
  exact⟨v,cellK x c e v z⟩
 ·obtain⟨m,⟨o,_,_,ho,_⟩,_⟩:=I.loc
  exact free _ o (fun z=>(hch _ z).2.1 rfl) ho I.free
 ·obtain⟨v,o,ho,hd⟩:=I.cell x c e
  exact free c o (fun z=>(hch c z).2.2.1 x c e rfl) ho (I.freeC x c e)
 ·obtain⟨e,n,ne,nf,d⟩:=I.pin p hp
  have nch:p.1∉ch:=fun z=>(hch p.1 z).2.2.2 p hp rfl
  exact⟨keep p.1 p.2 ne nf nch e n,free p.1 p.2 nch e n,ne,nf,d⟩
theorem Inv.un{t':Nat}(I:Inv X pins σ H s)(u:Un X.fs [] H H' s.heap h')(hok:HOk X.prog X.w H' h'):Inv X pins σ H' {s with heap:=h',toks:=t' }:=by
 obtain⟨m,⟨o,es,ep,ho,r⟩,_⟩:=id I.loc
 obtain⟨sl,hL⟩:=u.any ho I.free (by simp)
 exact I.step (g':=s.gens) (d':=s.drawn) (ch:=[]) (fun _ z=>nomatch z) (fun b o _ hb _ e n=>u.keep b o e n hb (by simp)) (fun b o _ hb _ e n=>u.slot b o e n hb (by simp)) (fun b o _ e n=>u.free b o e n (by simp)) (fun b o _ e=>u.there b o e (by simp)) u.tups u.frzs u.tbls (fun m' hm=>by
  obtain⟨o',es',ep',ho',r'⟩:=hm
  rw[ho]at ho';cases ho'
  exact⟨_,es',ep',hL,r'⟩) hok I.bare
theorem Inv.call{g':Array GenState}{t':Nat}{d':Drawn}{ch:List Addr}(I:Inv X pins σ H s)(u:Un (frs X.stack) ch H H' s.heap h')(hok:HOk X.prog X.w H' h')(hg:AllBare g')
  (hch:∀b∈ch,(b∈X.ex∨X.s₀.heap.objs.size<=b)/\b≠X.env.locals/\(∀x c,X.env.cells.lookup x=some c->c≠b)/\∀p∈X.pn++pins,p.1≠b) :
  Inv X pins σ H' {s with heap:=h',gens:=g',drawn:=d',toks:=t' }:=by
 obtain⟨m,⟨o,es,ep,ho,r⟩,_⟩:=id I.loc
 obtain⟨sl,hL⟩:=u.any ho I.free fun z=>(hch _ z).2.1 rfl
 exact I.step (ch:=ch) hch (fun b o hL hb hc e n=>u.keep b o e n (fun z=>(List.mem_cons.mp (I.stkSub b z)).elim hL hb) hc) (fun b o _ _ hc e n=>u.any e n hc) (fun b o hc e n=>u.free b o e n hc) (fun b o hc e=>u.there b o e hc) u.tups u.frzs u.tbls (fun m' hm=>by
  obtain⟨o',es',ep',ho',r'⟩:=hm
  rw[ho]at ho';cases ho'
  exact⟨_,es',ep',hL,r'⟩) hok hg
theorem Inv.turned{t':Nat}{it:Addr}(I:Inv X pins σ H s)(k:∀b o,b≠it->s.heap.get? b=some o->h'.get? b=some o)(hn:H it=none)(hL:it≠X.env.locals)
  (h1:it∈X.ex∨X.s₀.heap.objs.size<=it) (h2:∀x c,X.env.cells.lookup x=some c->c≠it) (h3:∀p∈X.pn++pins,p.1≠it):Inv X pins σ H {s with heap:=h',toks:=t' }:=by
 have nit:∀b u,H b=some u->b≠it:=fun b u e z=>by rw[z,hn]at e;cases e
 refine I.step (g':=s.gens) (d':=s.drawn) (ch:=[it]) (fun b hb=>?_) (fun b o _ _ hc e _=>k b o (fun z=>hc (by simp[z])) e) (fun b o _ _ hc e _=>⟨o.slots,k b o (fun z=>hc (by simp[z])) e⟩) (fun _ _ _ _ n=>n)
  (fun b o hc e=>⟨o,k b o (fun z=>hc (by simp[z])) e⟩) (fun _ _ e=>e) (fun _ _ _ e=>e) (fun b ps e=>⟨#[],by rw[e];simp⟩) (fun m hm=>?_) (fun b u e=>?_) I.bare
 ·have e:b=it:=by simpa using hb
  subst e
  exact⟨h1,hL,h2,h3⟩
 ·obtain⟨o,es,ep,ho,r⟩:=hm
  exact⟨o,es,ep,k _ o (Ne.symm hL) ho,r⟩
 ·refine(I.hok b u e).stay (fun c v hc q=>k c v ?_ q) (fun _ q=>q) fun _ _ q=>q
  rcases hc with z|z
  ·rw[z];exact nit b u e
  ·exact nit c _ z
theorem Inv.tok(I:Inv X pins σ H s)(t:Nat):Inv X pins σ H {s with toks:=t}:=I.un (h':=s.heap) (t':=t) Un.refl I.hok
theorem Inv.kept{t':Nat}(I:Inv X pins σ H s)(k:∀b u,s.heap.get? b=some u->h'.get? b=some u):Inv X pins σ H {s with heap:=h',toks:=t' }:=I.un (Un.kept k) (I.hok.kept k)
theorem Inv.laid{a:Addr}{o:HO}{t':Nat}(I:Inv X pins σ H s)(k:∀b u,s.heap.get? b=some u->h'.get? b=some u)(hp:s.heap.objs.size<=a)(new:ObjOk X.prog X.w (upd H a o) h' a o) :
  Inv X pins σ (upd H a o) {s with heap:=h',toks:=t' }:=I.un (Un.laid k hp (I.hok.fresh hp)) (I.hok.laid k hp new)
theorem Inv.write{x e:Addr}{o:HO}{t':Nat}(I:Inv X pins σ H s)(mu:Mut (H x))(he:e=x∨H e=some (.own x))(k:∀b u,b≠e->s.heap.get? b=some u->h'.get? b=some u)(heo:∃u,h'.get? e=some u)
  (new:ObjOk X.prog X.w (upd H x o) h' x o):Inv X pins σ (upd H x o) {s with heap:=h',toks:=t' }:=I.un (Un.write mu he k heo) (I.hok.write mu he k heo new)
theorem Inv.pins_of{pins':List (Addr×Obj)}(I:Inv X pins σ H s)(h:∀p∈pins',s.heap.get? p.1=some p.2/\H p.1=none/\p.1≠X.env.locals/\p.1∉X.fs/\∀v,p.2.data ≠ .cell v):Inv X pins' σ H s :=
 ⟨I.ok,I.os,I.bare,I.base,I.loc,I.cell,I.free,I.freeC,fun p hp=>(List.mem_append.mp hp).elim (fun z=>I.pin p (List.mem_append_left _ z)) (h p),I.hok,I.len⟩
theorem nodup_ix{N:List Str}(hN:N.Nodup){i j:Nat}{x:Str}(a:N[i]?=some x)(b:N[j]?=some x):i=j:=by
 obtain⟨h1,e1⟩:=List.getElem?_eq_some_iff.mp a
 obtain⟨h2,e2⟩:=List.getElem?_eq_some_iff.mp b
 exact(List.getElem_inj hN).mp (e1.trans e2.symm)
theorem store_ok2{M:Model}{A:Around}{E:Value->Shared->Prop}{i:Nat}{x:Str}{v:V}{u:Value}{Q:Unit->Shared->Prop}(I:Inv X pins σ H s)(hN:X.N.Nodup)(hi:X.N[i]?=some x)(hx:Loc X.env.scope x)(r:RelV v u)
  (h:∀s',Inv X pins (σ.set i (some v)) H s'->(∃a,Heap.SameBut a s.heap s'.heap/\(a=X.env.locals∨X.env.cells.lookup x=some a))->Q () s') (hf:X.fn x=true∨X.env.scope.names.lookup x=some .local:=by first|exact .inl rfl|exact .inr rfl|assumption):wpAny M A (storeName X.env x u) Q E s:=by
 obtain⟨m,hn,hl⟩:=id I.loc
 have hcls:(X.env.scope.kind == .class||(X.env.scope.kind == .module&&X.env.locals != X.env.globals))=false:=by rw[I.ok.kind];rfl
 have hiσ:i < σ.length:=by rw[I.len];exact(List.getElem?_eq_some_iff.mp hi).1
 have cne:=I.cne
 have tracked:∀{a:Addr}{h':Heap},(∃o,s.heap.get? a=some o/\H a=none)->Heap.SameBut a s.heap h'->HOk X.prog X.w H h':=fun {a h'} ha hs b ob e=>by
  obtain⟨_,_,hfree⟩:=ha
  refine(I.hok b ob e).stay (fun c w' hc q=>(hs.2 c ?_).trans q) (fun _ q=>q) fun _ _ q=>q
  rintro rfl
  rcases hc with rfl|hc
  ·rw[hfree]at e;cases e
  ·rw[hfree]at hc;cases hc
 rcases hx with hk|hk
 ·refine wpAny_storeName_local hk hn (fun h' hn' hs=>?_) hcls
  obtain⟨oL,_,_,hoL,_⟩:=id hn
  refine h _ ⟨I.ok,I.os,I.bare,⟨fun b o e n hb hx=>?_,fun b o e n hb hx=>?_,I.base.free,fun b o e hx=>?_,I.base.tups,I.base.frzs,I.base.tbls⟩,⟨_,hn',fun j y v' e1 e2 e3=>?_⟩,fun y c e=>?_,I.free,I.freeC,fun p hp=>?_,tracked ⟨oL,hoL,I.free⟩ hs,by simpa using I.len⟩ ⟨_,hs,.inl rfl⟩
  ·exact(hs.2 b (Nat.ne_of_lt (Nat.lt_of_lt_of_le (Heap.lt_size e) I.ok.above))).trans (I.base.keep b o e n hb hx)
  ·obtain⟨sl,e1⟩:=I.base.slot b o e n hb hx
   exact⟨sl,(hs.2 b (Nat.ne_of_lt (Nat.lt_of_lt_of_le (Heap.lt_size e) I.ok.above))).trans e1⟩
  ·obtain⟨o',e1⟩:=I.base.there b o e hx
   exact⟨o',(hs.2 b (Nat.ne_of_lt (Nat.lt_of_lt_of_le (Heap.lt_size e) I.ok.above))).trans e1⟩
  ·by_cases hj:j=i
   ·subst hj
    rw[hi]at e1;cases e1
    rw[List.getElem?_set_self hiσ]at e2
    cases e2
    exact⟨u,r,.inl ⟨hk,by simp⟩⟩
   ·rw[List.getElem?_set_ne (Ne.symm hj)]at e2
    obtain⟨u',r',q⟩:=hl j y v' e1 e2 e3
    refine⟨u',r',?_⟩
    rcases q with ⟨k,e⟩|⟨k,c,e,z⟩
    ·refine .inl ⟨k,?_⟩
     have:y≠x:=fun e=>hj (nodup_ix hN e1 (e ▸ hi))
     simp[this,e]
    ·exact .inr ⟨k,c,e,z.sameBut hs (cne y c e)⟩
  ·obtain⟨w',z⟩:=I.cell y c e
   exact⟨w',z.sameBut hs (cne y c e)⟩
  ·obtain⟨e,n,ne,nf,d⟩:=I.pin p hp
   exact⟨(hs.2 p.1 ne).trans e,n,ne,nf,d⟩
 ·have hfn:X.fn x=true:=by
   rcases hf with z|z
   ·exact z
   ·rw[z]at hk;cases hk
  obtain⟨c,hc⟩:=I.ok.has x (.inl hk)
  obtain⟨w',z⟩:=I.cell x c hc
  refine wpAny_storeName_cell I.ok.kind hk hc z (fun h' hc' hs=>?_)
  obtain⟨oc,hoc,hocd⟩:=id z
  refine h {s with heap:=h' } ⟨I.ok,I.os,I.bare,⟨fun b o e n hb hx=>?_,fun b o e n hb hx=>?_,I.base.free,fun b o e hx=>?_,I.base.tups,I.base.frzs,I.base.tbls⟩,⟨m,hn.sameBut hs (Ne.symm (cne x c hc)),fun j y v' e1 e2 e3=>?_⟩,fun y c' e=>?_,I.free,I.freeC,fun p hp=>?_,tracked ⟨oc,hoc,I.freeC x c hc⟩ hs,by simpa using I.len⟩ ⟨c,hs,.inr hc⟩
  ·exact(hs.2 b (Nat.ne_of_lt (Nat.lt_of_lt_of_le (Heap.lt_size e) (I.ok.cab x c hfn hc)))).trans (I.base.keep b o e n hb hx)
  ·obtain⟨sl,e1⟩:=I.base.slot b o e n hb hx
   exact⟨sl,(hs.2 b (Nat.ne_of_lt (Nat.lt_of_lt_of_le (Heap.lt_size e) (I.ok.cab x c hfn hc)))).trans e1⟩
  ·obtain⟨o',e1⟩:=I.base.there b o e hx
   exact⟨o',(hs.2 b (Nat.ne_of_lt (Nat.lt_of_lt_of_le (Heap.lt_size e) (I.ok.cab x c hfn hc)))).trans e1⟩
  ·by_cases hj:j=i
   ·subst hj
    rw[hi]at e1;cases e1
    rw[List.getElem?_set_self hiσ]at e2
    cases e2
    exact⟨u,r,.inr ⟨.inl hk,c,hc,hc'⟩⟩
   ·rw[List.getElem?_set_ne (Ne.symm hj)]at e2
    obtain⟨u',r',q⟩:=hl j y v' e1 e2 e3
    refine⟨u',r',?_⟩
    rcases q with q|⟨k,c',e,z'⟩
    ·exact .inl q
    ·refine .inr ⟨k,c',e,z'.sameBut hs ?_⟩
     rintro rfl
     exact hj (nodup_ix hN e1 (I.ok.inj _ _ _ e hc ▸ hi))
  ·by_cases hcc:c'=c
   ·subst hcc;exact⟨_,hc'⟩
   ·obtain⟨w2,z2⟩:=I.cell y c' e
    exact⟨w2,z2.sameBut hs hcc⟩
  ·obtain⟨e,n,ne,nf,d⟩:=I.pin p hp
   refine⟨(hs.2 p.1 ?_).trans e,n,ne,nf,d⟩
   intro q
   rw[q,hoc]at e
   have q':oc=p.2:=Option.some.inj e
   exact d w' (by rw[← q'];exact hocd)
theorem store_ok{M:Model}{A:Around}{E:Value->Shared->Prop}{i:Nat}{x:Str}{v:V}{u:Value}{Q:Unit->Shared->Prop}(I:Inv X pins σ H s)(hN:X.N.Nodup)(hi:X.N[i]?=some x)(hx:Loc X.env.scope x)(r:RelV v u)
  (h:∀s',Inv X pins (σ.set i (some v)) H s'->Q () s') (hf:X.fn x=true∨X.env.scope.names.lookup x=some .local:=by first|exact .inl rfl|exact .inr rfl|assumption):wpAny M A (storeName X.env x u) Q E s :=
 store_ok2 I hN hi hx r (fun s' I' _=>h s' I') hf
theorem Inv.call'{s':Shared}{ch:List Addr}(I:Inv X pins σ H s)(ho:s'.os=s.os)(u:Un (frs X.stack) ch H H' s.heap s'.heap)(hok:HOk X.prog X.w H' s'.heap)(hg:AllBare s'.gens)
  (hch:∀b∈ch,(b∈X.ex∨X.s₀.heap.objs.size<=b)/\b≠X.env.locals/\(∀x c,X.env.cells.lookup x=some c->c≠b)/\∀p∈X.pn++pins,p.1≠b):Inv X pins σ H' s':=by
 obtain⟨h',g',d',t',o'⟩:=s'
 have e:o'=s.os:=ho
 subst e
 exact I.call (g':=g') (t':=t') (d':=d') u hok hg hch
end
abbrev XK:=Value->Option Addr->Hp->Prop
abbrev St:=List (Option V)
abbrev VK:=V->Hp->Prop
abbrev TE:=St->Hp->VK->Prop
abbrev TT:=St->Hp->(Bool->Hp->Prop)->Prop
abbrev TA:=St->Hp->(List V->Hp->Prop)->Prop
structure Ends where
 nx:St->Hp->Prop
 rt:VK
 bk:St->Hp->Prop:=fun _ _=>False
 ct:St->Hp->Prop:=fun _ _=>False
abbrev TS:=Ends->St->Hp->Prop
def EP(X:Cx)(pins:List (Addr×Obj))(σ:St)(Q:VK)(u:Value)(s':Shared):Prop:=∃v H',Inv X pins σ H' s'/\RelV v u/\Q v H'
def TP(X:Cx)(pins:List (Addr×Obj))(σ:St)(Q:Bool->Hp->Prop)(b:Bool)(s':Shared):Prop:=∃H',Inv X pins σ H' s'/\Q b H'
def AP(X:Cx)(pins:List (Addr×Obj))(σ:St)(Q:List V->Hp->Prop)(us:List Value)(s':Shared):Prop:=∃vs H',Inv X pins σ H' s'/\Vals vs us/\Q vs H'
def SP(X:Cx)(pins:List (Addr×Obj))(D:Ends)(f:Flow)(s':Shared):Prop :=
 match f with
 | .next=>∃σ' H',Inv X pins σ' H' s'/\D.nx σ' H'
 | .brk=>∃σ' H',Inv X pins σ' H' s'/\D.bk σ' H'
 | .cont=>∃σ' H',Inv X pins σ' H' s'/\D.ct σ' H'
 | .ret u=>∃v σ' H',Inv X pins σ' H' s'/\RelV v u/\D.rt v H'
def PE(X:Cx)(e:Expr)(t:TE):Prop :=
 ∀(pins:List (Addr×Obj))(s:Shared)(σ:St)(H:Hp)(Q:VK),Inv X pins σ H s->t σ H Q->wpAny (model X.prog X.w) X.A (eval e X.env) (EP X pins σ Q) X.xe s
def PT(X:Cx)(e:Expr)(t:TT):Prop :=
 ∀(pins:List (Addr×Obj))(s:Shared)(σ:St)(H:Hp)(Q:Bool->Hp->Prop),Inv X pins σ H s->t σ H Q->wpAny (model X.prog X.w) X.A (isTrue e X.env (eval e X.env)) (TP X pins σ Q) X.xe s
def PW(X:Cx)(e:Expr)(t:TT):Prop :=
 ∀(whole:Sem Value)(pins:List (Addr×Obj))(s:Shared)(σ:St)(H:Hp)(Q:Bool->Hp->Prop),Inv X pins σ H s->t σ H Q->wpAny (model X.prog X.w) X.A (isTrue e X.env whole) (TP X pins σ Q) X.xe s
theorem PW.pt{X:Cx}{e:Expr}{t:TT}(h:PW X e t):PT X e t:=h _
def PA(X:Cx)(es:List Expr)(t:TA):Prop :=
 ∀(pos:Pos)(pins:List (Addr×Obj))(s:Shared)(σ:St)(H:Hp)(Q:List V->Hp->Prop),Inv X pins σ H s->t σ H Q->wpAny (model X.prog X.w) X.A (spliced (backTo pos (starEach es X.env))) (AP X pins σ Q) X.xe s
def PS(X:Cx)(st:Stmt)(t:TS):Prop :=
 ∀(pins:List (Addr×Obj))(s:Shared)(σ:St)(H:Hp)(D:Ends),Inv X pins σ H s->t D σ H->wpAny (model X.prog X.w) X.A (exec st X.env) (SP X pins D) X.xe s
def PSs(X:Cx)(st:List Stmt)(t:TS):Prop :=
 ∀(pins:List (Addr×Obj))(s:Shared)(σ:St)(H:Hp)(D:Ends),Inv X pins σ H s->t D σ H->wpAny (model X.prog X.w) X.A (execs st X.env) (SP X pins D) X.xe s
theorem thn{α:Type}{t:Sem α}{Q Q':α->Shared->Prop}{M:Model}{A:Around}{E:Value->Shared->Prop}{s:Shared}(h:wpAny M A t Q E s)(hQ:∀a s,Q a s->Q' a s):wpAny M A t Q' E s:=wpAny_mono h hQ fun _ _ x=>x
end L2
namespace L2
open PySem PySem.Spec PyProof.Rows
section
variable {X:Cx}
def tVar(i:Nat):TE:=fun σ H Q=>∃v,σ[i]?=some (some v)/\Q v H
def tC(v:V):TE:=fun _ H Q=>Q v H
theorem pe_var{i:Nat}{x:Str}{pos:Pos}(hN:X.N[i]?=some x)(hv:Vis X.env.scope x) (hd:(x==("__debug__" : Str))=false:=by decide) (hcd:(x==("__classdict__" : Str))=false:=by decide):PE X (.Name x pos) (tVar i):=by
 intro pins s σ H Q I h
 obtain⟨v,e,h⟩:=h
 obtain⟨m,hn,hl⟩:=I.loc
 obtain⟨u,r,l⟩:=hl i x v hN e hv
 have fin:EP X pins σ Q u s:=⟨v,H,I,r,h⟩
 rcases l with ⟨hk,hm⟩|⟨hk,c,hc,hcell⟩
 ·exact wpAny_Name (wpAny_loadName_local I.ok.kind hk hn hm fin) hd
 ·rcases hk with hk|hk
  ·exact wpAny_Name (wpAny_loadName_cell I.ok.kind hk hc hcell fin) hd
  ·exact wpAny_Name (wpAny_loadName_free I.ok.kind hk hc hcell fin hcd) hd
theorem pe_int{i j pos}:PE X (.Constant (.int i) j pos) (tC (.int i)):=fun _ _ _ H _ I h=>wpAny_Constant_int ⟨.int i,H,I.tok _,⟨_,rfl⟩,h⟩
theorem pe_bl{b j pos}:PE X (.Constant (.bool b) j pos) (tC (.bl b)):=fun _ _ _ H _ I h=>Constant_bool ⟨.bl b,H,I,rfl,h⟩
theorem pe_non{j pos}:PE X (.Constant .none j pos) (tC .non):=fun _ _ _ H _ I h=>Constant_none ⟨.non,H,I,rfl,h⟩
theorem pe_str{x j pos}:PE X (.Constant (.str x) j pos) (tC (.str x)):=fun _ _ _ H _ I h=>Calls.Constant_str ⟨.str x,H,I.tok _,⟨_,rfl⟩,h⟩
def Gl(X:Cx)(x:Str):Prop:=X.env.kindOf x=some .globalImplicit
theorem ld_glob{E:Value->Shared->Prop}{pins:List (Addr×Obj)}{s:Shared}{σ:St}{H:Hp}{x:Str}{u:Value}{pos:Pos}{Q:Value->Shared->Prop}(I:Inv X pins σ H s)(hg:Gl X x)(hm:X.mg x=some u)(h:Q u s)
  (hd:(x==("__debug__" : Str))=false:=by decide):wpAny (model X.prog X.w) X.A (eval (.Name x pos) X.env) Q E s :=
 Calls.Name_function_global I.ok.kind hg (Calls.loadGlobal_global (by rw[I.ok.glob];exact I.mod.glob.keeps I.bk) hm h) hd
theorem ld_blt{E:Value->Shared->Prop}{pins:List (Addr×Obj)}{s:Shared}{σ:St}{H:Hp}{x:Str}{u:Value}{pos:Pos}{Q:Value->Shared->Prop}(I:Inv X pins σ H s)(hg:Gl X x)(hm:X.mg x=none)(hv:bootBuiltins x=some u)(h:Q u s)
  (hn:x ≠ "__name__" := by decide) (hd:(x==("__debug__" : Str))=false:=by decide):wpAny (model X.prog X.w) X.A (eval (.Name x pos) X.env) Q E s:=by
 obtain⟨mb,h1,h2⟩:=I.mod.blt
 exact Calls.Name_function_global I.ok.kind hg (Calls.loadGlobal_builtin (by rw[I.ok.glob];exact I.mod.glob.keeps I.bk) hm (by rw[I.ok.blt];exact h1.keeps I.bk) ((h2 x hn).trans hv) h) hd
theorem pe_glob{x:Str}{v:V}{u:Value}{pos:Pos}(hg:Gl X x)(hm:X.mg x=some u)(r:RelV v u) (hd:(x==("__debug__" : Str))=false:=by decide):PE X (.Name x pos) (tC v) :=
 fun _ _ _ H _ I h=>ld_glob I hg hm ⟨v,H,I,r,h⟩ hd
theorem pe_bltn{x:Str}{v:V}{u:Value}{pos:Pos}(hg:Gl X x)(hm:X.mg x=none)(hv:bootBuiltins x=some u)(r:RelV v u) (hn:x ≠ "__name__" := by decide) (hd:(x==("__debug__" : Str))=false:=by decide):PE X (.Name x pos) (tC v) :=
 fun _ _ _ H _ I h=>ld_blt I hg hm hv ⟨v,H,I,r,h⟩ hn hd
variable {a b:Expr} {ta tb:TE} {pos:Pos}
def tB(t:TE):TT:=fun σ H Q=>t σ H fun x H1=>∃c,x=.bl c/\Q c H1
theorem pt_val{e:Expr}{t:TE}(h:PE X e t)(he:∀whole,isTrue e X.env whole=(do let v ← whole;standAt e.pos;holding [v] (truthy v)):=by intro _;rfl):PT X e (tB t):=by
 intro pins s σ H Q I hw
 refine isTrue_plain (thn (h pins s σ H _ I hw) fun v s1 ⟨x,H1,I1,r1,q1⟩=>?_) (he _)
 obtain⟨d,rfl,q⟩:=q1
 cases r1
 exact wpAny_truthy_bool ⟨H1,I1,q⟩
variable {tA tB':TT} {rest:List Expr}
def tAnd(t u:TT):TT:=fun σ H Q=>t σ H fun c H1=>if c=true then u σ H1 Q else Q false H1
def tOr(t u:TT):TT:=fun σ H Q=>t σ H fun c H1=>if c=true then Q true H1 else u σ H1 Q
def tNot(t:TT):TT:=fun σ H Q=>t σ H fun c H1=>Q (!c) H1
theorem pw_and1(ha:PT X a tA):PW X (.BoolOp .And [a] pos) tA:=by
 intro wh pins s σ H Q I h
 refine isTrue_and (thn (ha pins s σ H Q I h) fun c s1 e=>?_)
 cases c with
 | true=>exact isTrue_and_nil e
 | false=>exact e
theorem pw_or1(ha:PT X a tA):PW X (.BoolOp .Or [a] pos) tA:=by
 intro wh pins s σ H Q I h
 refine isTrue_or (thn (ha pins s σ H Q I h) fun c s1 e=>?_)
 cases c with
 | false=>exact isTrue_or_nil e
 | true=>exact e
theorem pw_and(ha:PT X a tA)(hb:PW X (.BoolOp .And (b::rest) pos) tB'):PW X (.BoolOp .And (a::b::rest) pos) (tAnd tA tB'):=by
 intro wh pins s σ H Q I h
 refine isTrue_and (thn (ha pins s σ H _ I h) fun c s1 ⟨H1,I1,q1⟩=>?_)
 cases c with
 | true=>exact hb wh pins s1 σ H1 Q I1 q1
 | false=>exact⟨H1,I1,q1⟩
theorem pw_or(ha:PT X a tA)(hb:PW X (.BoolOp .Or (b::rest) pos) tB'):PW X (.BoolOp .Or (a::b::rest) pos) (tOr tA tB'):=by
 intro wh pins s σ H Q I h
 refine isTrue_or (thn (ha pins s σ H _ I h) fun c s1 ⟨H1,I1,q1⟩=>?_)
 cases c with
 | true=>exact⟨H1,I1,q1⟩
 | false=>exact hb wh pins s1 σ H1 Q I1 q1
theorem pt_not(ha:PT X a tA):PT X (.UnaryOp .Not a pos) (tNot tA):=by
 intro pins s σ H Q I h
 exact isTrue_not (ha pins s σ H (fun c H1=>Q (!c) H1) I h)
def tAndV(ta tb:TE):TE:=fun σ H Q=>ta σ H fun x H1=>∃c,x=.bl c/\if c=true then tb σ H1 Q else Q (.bl false) H1
def tOrV(ta tb:TE):TE:=fun σ H Q=>ta σ H fun x H1=>∃c,x=.bl c/\if c=true then Q (.bl true) H1 else tb σ H1 Q
def tNotV(ta:TE):TE:=fun σ H Q=>ta σ H fun x H1=>∃c,x=.bl c/\Q (.bl (!c)) H1
theorem pe_one{op}{t:TE}(h:PE X a t):PE X (.BoolOp op [a] pos) t:=fun pins s σ H Q I hw=>BoolOp_one (h pins s σ H Q I hw)
theorem pe_and(ha:PE X a ta)(hb:PE X (.BoolOp .And (b::rest) pos) tb):PE X (.BoolOp .And (a::b::rest) pos) (tAndV ta tb):=by
 intro pins s σ H Q I h
 refine BoolOp_and (thn (ha pins s σ H _ I h) fun v s1 ⟨x,H1,I1,r1,q1⟩=>?_)
 obtain⟨c,rfl,q1⟩:=q1
 cases r1
 refine wpAny_truthy_bool ?_
 cases c with
 | true=>exact hb pins s1 σ H1 Q I1 q1
 | false=>exact⟨.bl false,H1,I1,rfl,q1⟩
theorem pe_or(ha:PE X a ta)(hb:PE X (.BoolOp .Or (b::rest) pos) tb):PE X (.BoolOp .Or (a::b::rest) pos) (tOrV ta tb):=by
 intro pins s σ H Q I h
 refine BoolOp_or (thn (ha pins s σ H _ I h) fun v s1 ⟨x,H1,I1,r1,q1⟩=>?_)
 obtain⟨c,rfl,q1⟩:=q1
 cases r1
 refine wpAny_truthy_bool ?_
 cases c with
 | false=>exact hb pins s1 σ H1 Q I1 q1
 | true=>exact⟨.bl true,H1,I1,rfl,q1⟩
theorem pe_not(ha:PE X a ta):PE X (.UnaryOp .Not a pos) (tNotV ta):=by
 intro pins s σ H Q I h
 refine UnaryOp_ (thn (ha pins s σ H _ I h) fun v s1 ⟨x,H1,I1,r1,q1⟩=>?_)
 obtain⟨c,rfl,q1⟩:=q1
 cases r1
 exact not_of (wpAny_truthy_bool ⟨.bl (!c),H1,I1,rfl,q1⟩)
def tIf(t:TT)(ta tb:TE):TE:=fun σ H Q=>t σ H fun c H1=>if c=true then ta σ H1 Q else tb σ H1 Q
theorem pe_ifExp{c:Expr}(hc:PT X c tA)(ha:PE X a ta)(hb:PE X b tb):PE X (.IfExp c a b pos) (tIf tA ta tb):=by
 intro pins s σ H Q I h
 refine wpAny_IfExp (thn (hc pins s σ H _ I h) fun d s1 ⟨H1,I1,q1⟩=>?_)
 cases d with
 | true=>exact ha pins s1 σ H1 Q I1 q1
 | false=>exact hb pins s1 σ H1 Q I1 q1
end
end L2
namespace L2
open PySem PySem.Spec PyProof.Rows
def SqL(K:PySem.W.Frag)(H:Hp)(a:Addr)(xs:List V):Prop :=
 Rd H a (.lst xs) ∨
  ∃(o:Obj) (its:Array Value) (n:Nat),K.lookup a=some o/\o.cls=.type "list" /\ o.dict=none/\o.data=.seq its n/\its.size<=sizeLine/\Vals xs its.toList
def SqT(K:PySem.W.Frag)(H:Hp)(a:Addr)(xs:List V):Prop :=
 Rd H a (.tup xs) ∨
  ∃(o:Obj) (its:Array Value) (n:Nat),K.lookup a=some o/\o.cls=.type "tuple" /\ o.data=.seq its n/\its.size<=sizeLine/\Vals xs its.toList
def absV:Value->Option V
 | .none=>some .non
 | .bool b=>some (.bl b)
 | .int i _=>some (.int i)
 | .str x _=>some (.str x)
 | .bytes b _=>some (.byt b)
 | .float b _=>some (.flt b)
 | .ref a=>some (.ref a)
 | .type n=>some (.ty n)
 | _=>none
theorem RelV.abs{x:V}{u:Value}(r:RelV x u):absV u=some x:=by
 cases x with
 | non=>cases r;rfl
 | bl _=>cases r;rfl
 | int _=>obtain⟨t,rfl⟩:=r;rfl
 | str _=>obtain⟨t,rfl⟩:=r;rfl
 | byt _=>obtain⟨t,rfl⟩:=r;rfl
 | flt _=>obtain⟨t,rfl⟩:=r;rfl
 | ref _=>cases r;rfl
 | ty _=>cases r;rfl
theorem RelV.inj{x y:V}{u:Value}(r:RelV x u)(q:RelV y u):x=y:=Option.some.inj (r.abs.symm.trans q.abs)
theorem Vals.inj:∀{xs ys:List V}{us:List Value},Vals xs us->Vals ys us->xs=ys
 | _,_,_,.nil,.nil=>rfl
 | _,_,_,.cons r t,.cons r' t'=>by rw[r.inj r',Vals.inj t t']
section
variable {X:Cx} {pins:List (Addr×Obj)} {σ:St} {H:Hp} {s:Shared} {a:Addr} {xs ys:List V}
theorem SqL.of{K:PySem.W.Frag}(h:H a=some (.lst xs)):SqL K H a xs:=.inl (.inl h)
theorem SqT.of{K:PySem.W.Frag}(h:H a=some (.tup xs)):SqT K H a xs:=.inl (.inl h)
theorem Inv.list(I:Inv X pins σ H s)(h:SqL X.K H a xs):∃its:List Value,Vals xs its/\PlainL s.heap a its.toArray/\xs.length<=sizeLine:=by
 rcases h with h|⟨o,its,n,hk,hc,hd,hs,hz,r⟩
 ·obtain⟨z,its,n,r,e⟩:=h.ok I.hok
  exact⟨its,r,⟨_,n,e,rfl,rfl,rfl⟩,z⟩
 ·refine⟨its.toList,r,⟨o,n,I.kIn a o hk,hc,hd,by simpa using hs⟩,?_⟩
  have e:=r.length
  simp only[Array.length_toList]at e
  omega
theorem Inv.tuple(I:Inv X pins σ H s)(h:SqT X.K H a xs):∃its:List Value,Vals xs its/\IsTup s.heap a its.toArray/\xs.length<=sizeLine:=by
 rcases h with h|⟨o,its,n,hk,hc,hs,hz,r⟩
 ·obtain⟨z,its,r,p⟩:=h.ok I.hok
  exact⟨its,r,p,z⟩
 ·refine⟨its.toList,r,⟨o,I.kIn a o hk,hc,n,by simpa using hs⟩,?_⟩
  have e:=r.length
  simp only[Array.length_toList]at e
  omega
theorem Inv.list_inj(I:Inv X pins σ H s)(h:SqL X.K H a xs)(h':SqL X.K H a ys):xs=ys:=by
 obtain⟨its,r,⟨o,n,e,_,_,d⟩,_⟩:=I.list h
 obtain⟨its',r',⟨o',n',e',_,_,d'⟩,_⟩:=I.list h'
 rw[e]at e';cases e'
 rw[d]at d'
 injection d' with d1 _
 have:its=its':=by simpa using congrArg Array.toList d1
 subst this
 exact r.inj r'
theorem Inv.tuple_inj(I:Inv X pins σ H s)(h:SqT X.K H a xs)(h':SqT X.K H a ys):xs=ys:=by
 obtain⟨its,r,⟨o,e,_,n,d⟩,_⟩:=I.tuple h
 obtain⟨its',r',⟨o',e',_,n',d'⟩,_⟩:=I.tuple h'
 rw[e]at e';cases e'
 rw[d]at d'
 injection d' with d1 _
 have:its=its':=by simpa using congrArg Array.toList d1
 subst this
 exact r.inj r'
end
abbrev Cx.wish(X:Cx)(E:Value->Shared->Prop):Cx:={X with xe:=E}
abbrev Cx.nox(X:Cx):Cx:=X.wish fun _ _=>False
theorem Cx.Ok.wish{X:Cx}(ok:X.Ok)(E:Value->Shared->Prop):(X.wish E).Ok :=
 ⟨ok.mod,ok.kind,ok.glob,ok.blt,ok.above,ok.inj,ok.has,ok.cab,ok.hd,ok.frames,ok.stk,ok.exf,ok.bs,ok.bsz,ok.noex,ok.exfs,ok.funs,ok.frf⟩
theorem Cx.Ok.unwish{X:Cx}{E:Value->Shared->Prop}(ok:(X.wish E).Ok):X.Ok :=
 ⟨ok.mod,ok.kind,ok.glob,ok.blt,ok.above,ok.inj,ok.has,ok.cab,ok.hd,ok.frames,ok.stk,ok.exf,ok.bs,ok.bsz,ok.noex,ok.exfs,ok.funs,ok.frf⟩
section
variable {X:Cx} {pins:List (Addr×Obj)} {σ:St} {H:Hp} {s:Shared} {E:Value->Shared->Prop}
theorem Inv.wish(I:Inv X pins σ H s)(E:Value->Shared->Prop):Inv (X.wish E) pins σ H s:=⟨I.ok.wish E,I.os,I.bare,I.base,I.loc,I.cell,I.free,I.freeC,I.pin,I.hok,I.len⟩
theorem Inv.unwish(I:Inv (X.wish E) pins σ H s):Inv X pins σ H s:=⟨I.ok.unwish,I.os,I.bare,I.base,I.loc,I.cell,I.free,I.freeC,I.pin,I.hok,I.len⟩
theorem SP.unwish{D:Ends}{f:Flow}{s':Shared}(h:SP (X.wish E) pins D f s'):SP X pins D f s':=by
 cases f with
 | next=>obtain⟨σ',H',I,q⟩:=h;exact⟨σ',H',I.unwish,q⟩
 | brk=>obtain⟨σ',H',I,q⟩:=h;exact⟨σ',H',I.unwish,q⟩
 | cont=>obtain⟨σ',H',I,q⟩:=h;exact⟨σ',H',I.unwish,q⟩
 | ret u=>obtain⟨v,σ',H',I,r,q⟩:=h;exact⟨v,σ',H',I.unwish,r,q⟩
theorem PE.nox{e:Expr}{t:TE}(h:PE X.nox e t):PE X e t:=fun pins s σ H Q I hw =>
 wpAny_mono (h pins s σ H Q (I.wish _) hw) (fun _ _ ⟨v,H',I',r,q⟩=>⟨v,H',I'.unwish,r,q⟩) fun _ _ z=>False.elim z
theorem PT.nox{e:Expr}{t:TT}(h:PT X.nox e t):PT X e t:=fun pins s σ H Q I hw =>
 wpAny_mono (h pins s σ H Q (I.wish _) hw) (fun _ _ ⟨H',I',q⟩=>⟨H',I'.unwish,q⟩) fun _ _ z=>False.elim z
theorem PSs.nox{st:List Stmt}{t:TS}(h:PSs X.nox st t):PSs X st t:=fun pins s σ H D I hw =>
 wpAny_mono (h pins s σ H D (I.wish _) hw) (fun _ _ q=>q.unwish) fun _ _ z=>False.elim z
end
section
variable {X:Cx} {st:Stmt} {rest:List Stmt} {t u:TS} {e:Expr} {te:TE} {pos:Pos}
def tNext:TS:=fun D σ H=>D.nx σ H
def tSeq(t u:TS):TS:=fun D σ H=>t {D with nx:=u D} σ H
theorem pss_nil:PSs X [] tNext:=fun _ _ σ H _ I h=>wpAny_execs_nil ⟨σ,H,I,h⟩
theorem pss_cons(h1:PS X st t)(h2:PSs X rest u):PSs X (st::rest) (tSeq t u):=by
 intro pins s σ H D I h
 refine wpAny_execs_cons (thn (h1 pins s σ H {D with nx:=u D} I h) fun f s1 q=>?_)
 cases f with
 | next =>
  obtain⟨σ',H',I',q⟩:=q
  exact h2 pins s1 σ' H' D I' q
 | ret v=>exact q
 | brk=>exact q
 | cont=>exact q
theorem pss_one(h1:PS X st t):PSs X [st] t:=by
 intro pins s σ H D I h
 refine wpAny_execs_cons (thn (h1 pins s σ H D I h) fun f s1 q=>?_)
 cases f with
 | next=>exact wpAny_execs_nil q
 | ret v=>exact q
 | brk=>exact q
 | cont=>exact q
theorem Inv.quiet{pins:List (Addr×Obj)}{σ:St}{H:Hp}{s:Shared}(I:Inv X pins σ H s):interactive X.env=false:=by simp[interactive,I.ok.kind]
def tDrop(te:TE):TS:=fun D σ H=>te σ H fun _ H1=>D.nx σ H1
theorem ps_expr(he:PE X e te)(hs:swapsWith e none pos.line X.env=pure false:=by rfl):PS X (.Expr e pos) (tDrop te):=by
 intro pins s σ H D I h
 exact wpAny_Expr_any (thn (he pins s σ H _ I h) fun v s1 ⟨x,H1,I1,r1,q1⟩=>⟨σ,H1,I1,q1⟩) I.quiet hs
def tRet(te:TE):TS:=fun D σ H=>te σ H D.rt
theorem ps_ret(he:PE X e te):PS X (.Return (some e) pos) (tRet te):=by
 intro pins s σ H D I h
 exact wpAny_Return_some (thn (he pins s σ H _ I h) fun v s1 ⟨x,H1,I1,r1,q1⟩=>⟨x,σ,H1,I1,r1,q1⟩)
def tIfS(c:TT)(t u:TS):TS:=fun D σ H=>c σ H fun b H1=>if b=true then t D σ H1 else u D σ H1
theorem ps_if{c:Expr}{a b:List Stmt}{tc:TT}(hc:PT X c tc)(ha:PSs X a t)(hb:PSs X b u):PS X (.If c a b pos) (tIfS tc t u):=by
 intro pins s σ H D I h
 refine wpAny_If (thn (hc pins s σ H _ I h) fun d s1 ⟨H1,I1,q1⟩=>?_)
 cases d with
 | true=>exact ha pins s1 σ H1 D I1 q1
 | false=>exact hb pins s1 σ H1 D I1 q1
end
abbrev TG:=V->St->Hp->(St->Hp->Prop)->Prop
abbrev TGs:=List V->St->Hp->(St->Hp->Prop)->Prop
def PG(X:Cx)(target:Expr)(t:TG):Prop :=
 ∀(pins:List (Addr×Obj))(s:Shared)(σ:St)(H:Hp)(v:V)(u:Value)(Q:St->Hp->Prop),Inv X pins σ H s->RelV v u->t v σ H Q →
  wpAny (model X.prog X.w) X.A (assign target X.env u) (fun _ s'=>∃σ' H',Inv X pins σ' H' s'/\Q σ' H') X.xe s
def PGs(X:Cx)(ts:List Expr)(t:TGs):Prop :=
 ∀(pins:List (Addr×Obj))(s:Shared)(σ:St)(H:Hp)(vs:List V)(us:List Value)(Q:St->Hp->Prop),Inv X pins σ H s->Vals vs us->t vs σ H Q →
  wpAny (model X.prog X.w) X.A (assignInOrder ((assignEach ts X.env).map (·.2)) us) (fun _ s'=>∃σ' H',Inv X pins σ' H' s'/\Q σ' H') X.xe s
section
variable {X:Cx} {pos:Pos}
def gName(i:Nat):TG:=fun v σ H Q=>Q (σ.set i (some v)) H
theorem pg_name{i:Nat}{x:Str}(hN:X.N.Nodup)(hi:X.N[i]?=some x)(hx:Loc X.env.scope x)(hf:X.fn x=true∨X.env.scope.names.lookup x=some .local:=by first|exact .inl rfl|exact .inr rfl|assumption):PG X (.Name x pos) (gName i):=by
 intro pins s σ H v u Q I r h
 exact wpAny_assign_Name (store_ok I hN hi hx r (fun s' I'=>⟨_,H,I',h⟩) hf)
def gNil:TGs:=fun vs σ H Q=>vs=[]/\Q σ H
def gCons(t:TG)(u:TGs):TGs:=fun vs σ H Q=>∃v r,vs=v::r/\t v σ H fun σ' H'=>u r σ' H' Q
theorem pgs_nil:PGs X [] gNil:=by
 intro pins s σ H vs us Q I r h
 obtain⟨e,h⟩:=h
 subst e
 cases r
 exact assignInOrder_nil ⟨σ,H,I,h⟩
theorem pgs_cons{e:Expr}{es:List Expr}{t:TG}{u:TGs}(h1:PG X e t)(h2:PGs X es u)
  (hs:(assignEach (e::es) X.env).map (·.2)=assign e X.env::(assignEach es X.env).map (·.2):=by rfl):PGs X (e::es) (gCons t u):=by
 intro pins s σ H vs us Q I r h
 obtain⟨v,vr,e1,h⟩:=h
 subst e1
 cases r with
 | cons r rr =>
  rw[hs]
  refine assignInOrder_cons (thn (h1 pins s σ H _ _ _ I r h) fun _ s1 ⟨σ1,H1,I1,q1⟩=>?_)
  exact h2 pins s1 σ1 H1 _ _ Q I1 rr q1
def gTup(K:PySem.W.Frag)(n:Nat)(t:TGs):TG:=fun v σ H Q=>∃a xs,v=.ref a/\SqT K H a xs/\xs.length=n/\t xs σ H Q
theorem pg_tup{es:List Expr}{k:Nat}{t:TGs}{n:Nat}(hc:X.calm=true)(h:PGs X es t)
  (hn:(assignEach es X.env).length=n:=by rfl) (hst:(assignEach es X.env).findIdx? (·.1)=none:=by rfl):PG X (.Tuple es k pos) (gTup X.K n t):=by
 intro pins s σ H v u Q I r hw
 obtain⟨a,xs,e1,hq,hl,hw⟩:=hw
 subst e1
 cases r
 obtain⟨its,rv,ht,hz⟩:=I.tuple hq
 refine assign_Tuple_tuple (I.ok.hd hc) ht (by simp[hn,← hl,rv.length]) hst fun h' hx=>?_
 have I1:Inv X pins σ H {s with heap:=h' }:=I.kept (t':=s.toks) fun b o e=>hx b o (Nat.ne_of_lt (Heap.lt_size e)) e
 exact h pins _ σ H xs _ Q I1 (by simpa using rv) hw
def tAsg(te:TE)(g:TG):TS:=fun D σ H=>te σ H fun x H1=>g x σ H1 D.nx
theorem ps_asg{tg e:Expr}{te:TE}{g:TG}(he:PE X e te)(hg:PG X tg g)(hs:swapsWithSole [tg] e pos.line X.env=pure false:=by rfl)(hw:swappedStores [tg] e X.env=pure none:=by rfl)
  (h1:(assignEach [tg] X.env).map (·.2)=[assign tg X.env]:=by rfl):PS X (.Assign [tg] e pos) (tAsg te g):=by
 intro pins s σ H D I h
 refine wpAny_Assign_stores (thn (he pins s σ H _ I h) fun v s1 ⟨x,H1,I1,r1,q1⟩=>?_) hs hw
 rw[h1]
 exact thn (hg pins s1 σ H1 x v _ I1 r1 q1) fun _ s2 q=>q
theorem ps_set{i:Nat}{x:Str}{e:Expr}{te:TE}{pos':Pos}(hN:X.N.Nodup)(hi:X.N[i]?=some x)(hx:Loc X.env.scope x)(he:PE X e te)(hs:swapsWith e (some (.Name x pos')) pos.line X.env=pure false:=by rfl)(hf:X.fn x=true∨X.env.scope.names.lookup x=some .local:=by first|exact .inl rfl|exact .inr rfl|assumption) :
  PS X (.Assign [.Name x pos'] e pos) (tAsg te (gName i)):=by
 intro pins s σ H D I h
 refine wpAny_Assign_Name (thn (he pins s σ H _ I h) fun v s1 ⟨y,H1,I1,r1,q1⟩=>?_) hs
 exact store_ok I1 hN hi hx r1 (fun s2 I2=>⟨_,H1,I2,q1⟩) hf
end
section
variable {X:Cx} {pos:Pos}
end
structure It where
 go:Nat->Hp->Prop
 yld:Nat->Hp->V->Hp->Prop
 stop:Nat->Hp->Prop
def FpOk(X:Cx)(pins:List (Addr×Obj))(H:Hp)(b:Addr):Prop :=
 H b=none/\b≠X.env.locals/\b∉X.fs/\(b∈X.ex∨X.s₀.heap.objs.size<=b)/\(∀x c,X.env.cells.lookup x=some c->c≠b)/\∀p∈X.pn++pins,p.1≠b
theorem Inv.fpOk{X:Cx}{pins:List (Addr×Obj)}{σ:St}{H H':Hp}{s:Shared}{b:Addr}(I:Inv X pins σ H s)(hb:s.heap.objs.size<=b)(hn:H' b=none):FpOk X pins H' b:=by
 refine⟨hn,Nat.ne_of_gt (Nat.lt_of_lt_of_le I.lt hb),I.nofs hb,.inr (Nat.le_trans I.sz hb),fun x c e z=>?_,fun p hp z=>?_⟩
 ·obtain⟨v,q⟩:=I.cell x c e
  exact absurd (Nat.lt_of_lt_of_le q.lt (by rw[z];exact hb)) (Nat.lt_irrefl _)
 ·exact absurd (Nat.lt_of_lt_of_le (Heap.lt_size (I.pin p hp).1) (by rw[z];exact hb)) (Nat.lt_irrefl _)
structure Turn(P:Program)(w:World)(K:PySem.W.Frag)(tg:Expr)(J:It)(fp:List Addr)(it:Addr)(tn:Nat->Heap->Prop):Prop where
 mem:it∈fp
 obj:∀i h,tn i h->∀b∈fp,∃o,h.get? b=some o/\∀v,o.data ≠ .cell v
 keep:∀i h h',tn i h->(∀b∈fp,∀o,h.get? b=some o->h'.get? b=some o)->tn i h'
 item:∀(X:Cx),X.prog=P->X.w=w->X.K=K->X.calm=true->∀(i:Nat)(pins:List (Addr×Obj))(s:Shared)(σ:St)(H:Hp)(E:Value->Shared->Prop),Inv X pins σ H s->(∀b∈fp,FpOk X pins H b)->tn i s.heap->J.go i H →
  wpAny (model P w) X.A (pyNext (.ref it)) (fun r s1=>∃u,r=some u ∧
   wpAny (model P w) X.A (letOwnedTupleGo tg (.ref it) u) (fun _ s2=>∃x H',Inv X pins σ H' s2/\RelV x u/\J.yld i H x H'/\tn (i + 1) s2.heap/\∀b∈fp,H' b=none) E s1) E s
 done:∀(X:Cx),X.prog=P->X.w=w->X.K=K->X.calm=true->∀(i:Nat)(pins:List (Addr×Obj))(s:Shared)(σ:St)(H:Hp)(E:Value->Shared->Prop),Inv X pins σ H s->(∀b∈fp,FpOk X pins H b)->tn i s.heap->J.stop i H →
  wpAny (model P w) X.A (pyNext (.ref it)) (fun r s1=>r=none/\Inv X pins σ H s1) E s
 self:∀(A:Around)(i:Nat)(s:Shared)(Q:Value->Shared->Prop)(E:Value->Shared->Prop),tn i s.heap->Q (.ref it) s->wpAny (model P w) A (pyIter (.ref it)) Q E s
abbrev TI:=St->Hp->(It->Hp->Prop)->Prop
def PIE(X:Cx)(pins:List (Addr×Obj))(σ:St)(tg:Expr)(R:It->Hp->Prop)(itv:Value)(s2:Shared):Prop :=
 ∃(it:Addr) (fp:List Addr) (tn:Nat->Heap->Prop) (J:It) (H':Hp),itv=.ref it/\Inv X pins σ H' s2/\Turn X.prog X.w X.K tg J fp it tn/\tn 0 s2.heap/\(∀b∈fp,FpOk X pins H' b)/\R J H'
def PI(X:Cx)(tg iter:Expr)(wi:TI):Prop :=
 ∀(pins:List (Addr×Obj))(s:Shared)(σ:St)(H:Hp)(R:It->Hp->Prop),Inv X pins σ H s->wi σ H R →
  wpAny (model X.prog X.w) X.A (eval iter X.env) (fun v s1=>wpAny (model X.prog X.w) X.A (pyIter v) (PIE X pins σ tg R) X.xe s1) X.xe s
theorem go_of {M:Model} {A:Around} {E:Value->Shared->Prop} {s:Shared} {tg:Expr} {it:Addr} {u:Value} {o:Obj} {n:String} {vs:Array Value} {Q:Unit->Shared->Prop} (ho:s.heap.get? it=some o) (hc:o.cls=.type n) (hd:o.data=.fields vs)
    (hn:["enumerate", "zip", "dict_itemiterator", "dict_reverseitemiterator", "odict_iterator", "itertools.zip_longest", "itertools.pairwise"].contains n=false) (hQ:Q () s):wpAny M A (letOwnedTupleGo tg (.ref it) u) Q E s:=by
  unfold letOwnedTupleGo
  cases tg <;> first
    | exact wpAny_pure hQ
    | (cases u<;>first
        | exact wpAny_pure hQ
        | (refine wpAny_bind (wpAny_load ho ?_)
           rw[hc,hd]
           show wpAny M A (if (["enumerate", "zip", "dict_itemiterator", "dict_reverseitemiterator", "odict_iterator", "itertools.zip_longest", "itertools.pairwise"].contains n&&vs[0]?==some (rawInt _))=true then _ else _) Q E s
           rw[if_neg (by intro h;rw[hn,Bool.false_and]at h;cases h)]
           exact wpAny_pure hQ))
def Itl(K:PySem.W.Frag)(a:Addr):It :=
 ⟨fun i H=>∃xs x,SqL K H a xs/\xs[i]?=some x,fun i H x H'=>H'=H/\∀xs,SqL K H a xs->xs[i]?=some x,fun i H=>∃xs,SqL K H a xs/\xs.length<=i⟩
def Itt(K:PySem.W.Frag)(a:Addr):It :=
 ⟨fun i H=>∃xs x,SqT K H a xs/\xs[i]?=some x,fun i H x H'=>H'=H/\∀xs,SqT K H a xs->xs[i]?=some x,fun i H=>∃xs,SqT K H a xs/\xs.length<=i⟩
def Itr(lo:Int)(n:Nat):It:=⟨fun i _=>i < n,fun i H x H'=>H'=H/\x=.int (lo + i),fun i _=>n<=i⟩
theorem turn_list{P:Program}{w:World}{K:PySem.W.Frag}{tg:Expr}(a it:Addr):Turn P w K tg (Itl K a) [it] it (fun i h=>h.IsListIter it a i) where
 mem:=by simp
 obj:=fun i h st b hb=>by
  have e:b=it:=by simpa using hb
  subst e
  obtain⟨o,e,c,d⟩:=st
  exact⟨o,e,fun v z=>by rw[d]at z;cases z⟩
 keep:=fun i h h' st k=>st.at fun o e=>k it (by simp) o e
 item:=by
  intro X hP hw hK hc i pins s σ H E I hf st hg
  subst hP hw hK
  obtain⟨xs,x,hq,hx⟩:=hg
  obtain⟨its,rv,p,hz⟩:=I.list hq
  obtain⟨u,hu,ru⟩:=rv.get hx
  obtain⟨f0,f1,f2,f3,f4,f5⟩:=hf it (by simp)
  refine wpAny_pyNext_list_item st p.isList (x:=u) (by simpa using hu) fun h' st' sb=>?_
  have I1:Inv X pins σ H {s with heap:=h' }:=I.turned (t':=s.toks) (fun b o hb e=>(sb.2 b hb).trans e) f0 f1 f3 f4 f5
  obtain⟨o,e,c,d⟩:=id st'
  exact⟨u,rfl,go_of (s:={s with heap:=h' }) e c d (by decide) ⟨x,H,I1,ru,⟨rfl,fun ys hy=>by rw[I.list_inj hy hq];exact hx⟩,st',fun b hb=>(hf b hb).1⟩⟩
 done:=by
  intro X hP hw hK hc i pins s σ H E I hf st hg
  subst hP hw hK
  obtain⟨xs,hq,hx⟩:=hg
  obtain⟨its,rv,p,hz⟩:=I.list hq
  obtain⟨f0,f1,f2,f3,f4,f5⟩:=hf it (by simp)
  have hl:=rv.length
  exact wpAny_pyNext_list_end (I.ok.hd hc) st p.isList (by simp;omega) fun h' eb=>⟨rfl,I.turned (t':=s.toks) (fun b o hb e=>eb b o hb e) f0 f1 f3 f4 f5⟩
 self:=fun _ _ _ _ _ st h=>wpAny_pyIter_listiter st h
theorem turn_tuple{P:Program}{w:World}{K:PySem.W.Frag}{tg:Expr}(a it:Addr):Turn P w K tg (Itt K a) [it] it (fun i h=>h.IsTupleIter it a i) where
 mem:=by simp
 obj:=fun i h st b hb=>by
  have e:b=it:=by simpa using hb
  subst e
  obtain⟨o,e,c,d⟩:=st
  exact⟨o,e,fun v z=>by rw[d]at z;cases z⟩
 keep:=fun i h h' st k=>st.at fun o e=>k it (by simp) o e
 item:=by
  intro X hP hw hK hc i pins s σ H E I hf st hg
  subst hP hw hK
  obtain⟨xs,x,hq,hx⟩:=hg
  obtain⟨its,rv,p,hz⟩:=I.tuple hq
  obtain⟨u,hu,ru⟩:=rv.get hx
  obtain⟨f0,f1,f2,f3,f4,f5⟩:=hf it (by simp)
  refine wpAny_pyNext_tuple_item st (show s.heap.IsTuple a its.toArray from p) (x:=u) (by simpa using hu) fun h' st' sb=>?_
  have I1:Inv X pins σ H {s with heap:=h' }:=I.turned (t':=s.toks) (fun b o hb e=>(sb.2 b hb).trans e) f0 f1 f3 f4 f5
  obtain⟨o,e,c,d⟩:=id st'
  exact⟨u,rfl,go_of (s:={s with heap:=h' }) e c d (by decide) ⟨x,H,I1,ru,⟨rfl,fun ys hy=>by rw[I.tuple_inj hy hq];exact hx⟩,st',fun b hb=>(hf b hb).1⟩⟩
 done:=by
  intro X hP hw hK hc i pins s σ H E I hf st hg
  subst hP hw hK
  obtain⟨xs,hq,hx⟩:=hg
  obtain⟨its,rv,p,hz⟩:=I.tuple hq
  obtain⟨f0,f1,f2,f3,f4,f5⟩:=hf it (by simp)
  have hl:=rv.length
  exact wpAny_pyNext_tuple_end (I.ok.hd hc) st (show s.heap.IsTuple a its.toArray from p) (by simp;omega) fun h' eb=>⟨rfl,I.turned (t':=s.toks) (fun b o hb e=>eb b o hb e) f0 f1 f3 f4 f5⟩
 self:=fun _ _ _ _ _ st h=>wpAny_pyIter_tupleiter st h
theorem turn_range{P:Program}{w:World}{K:PySem.W.Frag}{tg:Expr}(it:Addr)(lo:Int)(n:Nat):Turn P w K tg (Itr lo n) [it] it (fun i h=>IsRangeIter h it (lo + (i:Nat) * 1) ((n:Int) - (i:Nat)) 1) where
 mem:=by simp
 obj:=fun i h st b hb=>by
  have e:b=it:=by simpa using hb
  subst e
  exact⟨_,st,fun v z=>by
   have z':Data.fields _=Data.cell v:=z
   cases z'⟩
 keep:=fun i h h' st k=>k it (by simp) _ st
 item:=by
  intro X hP hw hK hc i pins s σ H E I hf st hg
  subst hP hw hK
  obtain⟨f0,f1,f2,f3,f4,f5⟩:=hf it (by simp)
  have W:=Walks.range (prog:=X.prog) (w:=X.w) (I.ok.hd hc) it lo 1 n
  refine W.item i s _ _ hg st fun v h' tk hv st' kk=>?_
  obtain⟨t,rfl⟩:=hv
  have I1:Inv X pins σ H {s with heap:=h',toks:=tk}:=I.turned (fun b o hb e=>kk b o (by simpa using hb) e) f0 f1 f3 f4 f5
  refine⟨_,rfl,go_of (s:={s with heap:=h',toks:=tk}) (n := "range_iterator") st' rfl rfl (by decide) ⟨.int (lo + i),H,I1,⟨t,?_⟩,⟨rfl,rfl⟩,st',fun b hb=>(hf b hb).1⟩⟩
  rw[Int.mul_one]
 done:=by
  intro X hP hw hK hc i pins s σ H E I hf st hg
  subst hP hw hK
  obtain⟨f0,f1,f2,f3,f4,f5⟩:=hf it (by simp)
  exact wpAny_pyNext_range_end (I.ok.hd hc) st (by have:n<=i:=hg;omega) fun h' eb=>⟨rfl,I.turned (t':=s.toks) (fun b o hb e=>eb b o hb e) f0 f1 f3 f4 f5⟩
 self:=fun _ _ _ _ _ st h=>wpAny_pyIter_rangeiter st h
end L2
namespace L2
open PySem PySem.Spec PyProof.Rows
section
variable {X:Cx} {tg:Expr}
theorem range_it{pins:List (Addr×Obj)}{σ:St}{H:Hp}{s:Shared}{R:It->Hp->Prop}{E:Value->Shared->Prop}{lo hi:Int}{t u v:Tok}{tk:Nat}(I:Inv X pins σ H s)(h1:-(2 ^ 62)<=lo)(h2:lo < 2 ^ 62)(h3:-(2 ^ 62)<=hi)(h4:hi < 2 ^ 62)
  (q:R (Itr lo (hi - lo).toNat) H):wpAny (model X.prog X.w) X.A (pyIter (.ref s.heap.objs.size)) (PIE X pins σ tg R) E {s with heap:=s.heap.push {cls:=.type "range", data:=.fields #[.int lo t,.int hi u,.int 1 v]},toks:=tk}:=by
 refine wpAny_pyIter_range (IsRange.new ..) (small_one h1 h2 h3 h4) ?_
 have I1:Inv X pins σ H {s with heap:=s.heap.push {cls:=.type "range", data:=.fields #[.int lo t,.int hi u,.int 1 v]},toks:=tk}:=I.kept fun b o e=>Heap.get?_push_of_some _ e
 refine⟨(s.heap.push {cls:=.type "range", data:=.fields #[.int lo t,.int hi u,.int 1 v]}).objs.size,[(s.heap.push {cls:=.type "range", data:=.fields #[.int lo t,.int hi u,.int 1 v]}).objs.size],_,_,H,rfl,
  I1.kept (t':=tk) fun b o e=>Heap.get?_push_of_some _ e,turn_range _ lo (hi - lo).toNat,?_,fun b hb=>?_,q⟩
 ·have e1:lo + ((0:Nat):Int) * 1=lo:=by simp
  have e2:(((hi - lo).toNat:Nat):Int) - ((0:Nat):Int)=Builtin.Range.rangeSize lo hi 1:=by rw[rangeSize_one];split<;>omega
  show IsRangeIter _ _ (lo + ((0:Nat):Int) * 1) ((((hi - lo).toNat:Nat):Int) - ((0:Nat):Int)) 1
  rw[e1,e2]
  exact Heap.get?_push_size _ rfl
 ·have e:b=(s.heap.push {cls:=.type "range", data:=.fields #[.int lo t,.int hi u,.int 1 v]}).objs.size:=by simpa using hb
  subst e
  exact I1.fpOk (Nat.le_refl _) (I1.hok.fresh (Nat.le_refl _))
def iRng1(ta:TA):TI:=fun σ H R=>ta σ H fun vs H1=>∃j:Int,vs=[.int j] /\ -(2 ^ 62)<=j/\j < 2 ^ 62/\R (Itr 0 j.toNat) H1
theorem pi_range1{a:Expr}{ta:TA}{p pos:Pos} (hg:Gl X "range") (hm:X.mg "range" = none) (ha:PA X [a] ta) (hs:starEach [a] X.env=[(false,eval a X.env)]:=by rfl):PI X tg (.Call (.Name "range" p) [a] [] pos) (iRng1 ta):=by
 intro pins s σ H R I h
 refine Call_ (ld_blt I hg hm boot_range (PyProof.Rows.callWith_type1 (thn (ha pos pins s σ H _ I h) fun us s1 ⟨vs,H1,I1,r1,q1⟩=>?_) hs rfl))
 obtain⟨j,e,q1,q2,q⟩:=q1
 subst e
 cases r1 with
 | cons r rr =>
  cases rr
  obtain⟨t,rfl⟩:=r
  exact call_range_1 (range_it I1 (by omega) (by omega) q1 q2 (by simpa using q))
def tFor(wi:TI)(g:TG)(tb:TS):TS:=fun D σ H=>wi σ H fun J H1=>∃W:Nat->Nat->St->Hp->Prop,(∃m,W 0 m σ H1)/\∀i m σ H,W i m σ H →
 (J.stop i H/\D.nx σ H)∨(J.go i H/\∃N:St->Hp->Prop,(∀σ' H',N σ' H'->∃m',m' < m/\W (i + 1) m' σ' H')/\∀x H',J.yld i H x H'->g x σ H' fun σ2 H2=>tb {D with nx:=N,ct:=N,bk:=D.nx} σ2 H2)
def pinsAt(fp:List Addr)(h:Heap):List (Addr×Obj):=fp.filterMap fun b=>(h.get? b).map fun o=>(b,o)
theorem mem_pinsAt{fp:List Addr}{h:Heap}{b:Addr}{o:Obj}(hb:b∈fp)(e:h.get? b=some o):(b,o)∈pinsAt fp h:=List.mem_filterMap.mpr ⟨b,hb,by rw[e];rfl⟩
theorem of_pinsAt{fp:List Addr}{h:Heap}{p:Addr×Obj}(hp:p∈pinsAt fp h):p.1∈fp/\h.get? p.1=some p.2:=by
 obtain⟨b,hb,e⟩:=List.mem_filterMap.mp hp
 cases q:h.get? b with
 | none=>rw[q]at e;cases e
 | some o =>
  rw[q]at e
  have e':(b,o)=p:=Option.some.inj e
  subst e'
  exact⟨hb,q⟩
theorem Inv.pinned{pins:List (Addr×Obj)}{σ:St}{H:Hp}{s:Shared}{fp:List Addr}(I:Inv X pins σ H s)(hf:∀b∈fp,FpOk X pins H b)(ho:∀b∈fp,∃o,s.heap.get? b=some o/\∀v,o.data ≠ .cell v):Inv X (pins++pinsAt fp s.heap) σ H s :=
 I.pins_of fun p hp=>(List.mem_append.mp hp).elim (fun z=>I.pin p (List.mem_append_right _ z)) fun z=>by
  obtain⟨hb,e⟩:=of_pinsAt z
  obtain⟨f0,f1,f2,_⟩:=hf p.1 hb
  obtain⟨o,e',d⟩:=ho p.1 hb
  rw[e]at e';cases e'
  exact⟨e,f0,f1,f2,d⟩
theorem Inv.unpinned{pins pl:List (Addr×Obj)}{σ:St}{H:Hp}{s:Shared}(I:Inv X (pins++pl) σ H s):Inv X pins σ H s:=I.pins_of fun p hp=>I.pin p (List.mem_append_right _ (List.mem_append_left _ hp))
theorem ps_for{iter:Expr}{body:List Stmt}{wi:TI}{g:TG}{tb:TS}{pos:Pos}(hp:PassesOwn (model X.prog X.w) X.A X.env X.xe)(hc:X.calm=true)(hi:PI X tg iter wi)(hg:PG X tg g)(hb:PSs X body tb)
  (hs:∀x,foldedSetIterable iter X.env x=pure x:=by intro _;rfl):PS X (.For tg iter body [] pos) (tFor wi g tb):=by
 intro pins s σ H D I h
 refine wpAny_For (thn (hi pins s σ H _ I h) fun v s1 h1=>thn h1 fun itv s2 h2=>?_) hs
 obtain⟨it,fp,tn,J,H2,e,I2,T,st2,f2,W,⟨m0,w0⟩,turn⟩:=h2
 subst e
 have stat:∀{H':Hp},(∀b∈fp,H' b=none)->∀b∈fp,FpOk X pins H' b:=fun hn b hb=>⟨hn b hb,(f2 b hb).2⟩
 refine codeAny_forLoop_any (fun n s'=>∃i σ' H',Inv X pins σ' H' s'/\tn i s'.heap/\(∀b∈fp,H' b=none)/\W i n σ' H') ?_ m0 ⟨0,σ,H2,I2,st2,fun b hb=>(f2 b hb).1,w0⟩
 rintro n s3 ⟨i,σ3,H3,I3,st3,fr3,w3⟩
 rcases turn i n σ3 H3 w3 with ⟨stop,qn⟩|⟨go,N,hN,step⟩
 ·refine wpAny_passesOwn hp (thn (T.done X rfl rfl rfl hc i pins s3 σ3 H3 X.xe I3 (stat fr3) st3 stop) fun r s4 ⟨hr,I4⟩=>?_)
  subst hr
  exact wpAny_execs_nil ⟨σ3,H3,I4,qn⟩
 ·refine wpAny_passesOwn hp (thn (T.item X rfl rfl rfl hc i pins s3 σ3 H3 X.xe I3 (stat fr3) st3 go) fun r s4 ⟨u,hr,h4⟩=>?_)
  subst hr
  refine wpAny_passesOwn hp (thn h4 fun _ s5 ⟨x,H5,I5,r5,y5,st5,fr5⟩=>?_)
  have I5':=I5.pinned (stat fr5) (T.obj _ _ st5)
  refine wpAny_passesOwn hp (thn (hg _ s5 σ3 H5 x u _ I5' r5 (step x H5 y5)) fun _ s6 ⟨σ6,H6,I6,q6⟩=>?_)
  refine wpAny_passesOwn hp (thn (hb _ s6 σ6 H6 _ I6 q6) fun f s7 q7=>?_)
  have again:∀{σ7:St}{H7:Hp},Inv X (pins++pinsAt fp s5.heap) σ7 H7 s7->N σ7 H7->∃m,m < n/\∃i σ' H',Inv X pins σ' H' s7/\tn i s7.heap/\(∀b∈fp,H' b=none)/\W i m σ' H':=fun {σ7 H7} I7 n7=>by
   obtain⟨m',hm,w7⟩:=hN σ7 H7 n7
   refine⟨m',hm,i + 1,σ7,H7,I7.unpinned,T.keep _ _ _ st5 fun b hb o e=>(I7.pin (b,o) (List.mem_append_right _ (List.mem_append_right _ (mem_pinsAt hb e)))).1,fun b hb=>?_,w7⟩
   obtain⟨o,e,d⟩:=T.obj _ _ st5 b hb
   exact(I7.pin (b,o) (List.mem_append_right _ (List.mem_append_right _ (mem_pinsAt hb e)))).2.1
  cases f with
  | next=>obtain⟨σ7,H7,I7,n7⟩:=q7;exact again I7 n7
  | cont=>obtain⟨σ7,H7,I7,n7⟩:=q7;exact again I7 n7
  | brk=>obtain⟨σ7,H7,I7,q7⟩:=q7;exact⟨σ7,H7,I7.unpinned,q7⟩
  | ret v=>obtain⟨x7,σ7,H7,I7,r7,q7⟩:=q7;exact⟨x7,σ7,H7,I7.unpinned,r7,q7⟩
end
end L2
namespace L2
open PySem PySem.Spec PyProof.Rows
abbrev R2:=V->V->Hp->VK->Prop
def OpR(X:Cx)(f:Value->Value->Sem Value)(r:R2):Prop :=
 ∀(pins:List (Addr×Obj))(s:Shared)(σ:St)(H:Hp)(x y:V)(v u:Value)(Q:VK),Inv X pins σ H s->RelV x v->RelV y u->r x y H Q →
  wpAny (model X.prog X.w) X.A (f v u) (EP X pins σ Q) X.xe s
def UnR(X:Cx)(f:Value->Sem Value)(r:V->Hp->VK->Prop):Prop :=
 ∀(pins:List (Addr×Obj))(s:Shared)(σ:St)(H:Hp)(x:V)(v:Value)(Q:VK),Inv X pins σ H s->RelV x v->r x H Q →
  wpAny (model X.prog X.w) X.A (f v) (EP X pins σ Q) X.xe s
def CallR(X:Cx)(f:Value)(r:List V->Hp->VK->Prop):Prop :=
 ∀(pins:List (Addr×Obj))(s:Shared)(σ:St)(H:Hp)(xs:List V)(us:List Value)(Q:VK),Inv X pins σ H s->Vals xs us->r xs H Q →
  wpAny (model X.prog X.w) X.A (call f us) (EP X pins σ Q) X.xe s
def tOp(r:R2)(ta tb:TE):TE:=fun σ H Q=>ta σ H fun x H1=>tb σ H1 fun y H2=>r x y H2 Q
def tUn(r:V->Hp->VK->Prop)(ta:TE):TE:=fun σ H Q=>ta σ H fun x H1=>r x H1 Q
def rI(C:Int->Int->Prop)(g:Int->Int->V):R2:=fun x y H Q=>∃i j,x=.int i/\y=.int j/\C i j/\Q (g i j) H
def rI0(g:Int->Int->V):R2:=fun x y H Q=>∃i j,x=.int i/\y=.int j/\Q (g i j) H
def rU(g:Int->V):V->Hp->VK->Prop:=fun x H Q=>∃i,x=.int i/\Q (g i) H
section
variable {X:Cx} {a b c:Expr} {ta tb tc:TE} {pos:Pos}
theorem binT(ha:PE X a ta)(hb:PE X b tb){pins:List (Addr×Obj)}{s:Shared}{σ:St}{H:Hp}{R:V->V->Hp->Prop}(I:Inv X pins σ H s)
  (h:ta σ H fun x H1=>tb σ H1 fun y H2=>R x y H2) {Q:Value->Shared->Prop} {f:Value->Value->Sem Value}
  (hf:∀v u s2 x y H2,Inv X pins σ H2 s2->RelV x v->RelV y u->R x y H2->wpAny (model X.prog X.w) X.A (f v u) Q X.xe s2) :
  wpAny (model X.prog X.w) X.A (eval a X.env) (fun v s₁=>wpAny (model X.prog X.w) X.A (eval b X.env) (fun u s₂=>wpAny (model X.prog X.w) X.A (f v u) Q X.xe s₂) X.xe s₁) X.xe s:=by
 refine thn (ha pins s σ H _ I h) fun v s1 ⟨x,H1,I1,r1,q1⟩=>?_
 refine thn (hb pins s1 σ H1 _ I1 q1) fun u s2 ⟨y,H2,I2,r2,q2⟩=>?_
 exact hf v u s2 x y H2 I2 r1 r2 q2
theorem pe_op{op:Operator}{r:R2}(ho:OpR X (binaryOp op) r)(ha:PE X a ta)(hb:PE X b tb):PE X (.BinOp a op b pos) (tOp r ta tb):=by
 intro pins s σ H Q I h
 exact wpAny_BinOp (binT ha hb I h fun v u s2 x y H2 I2 rx ry q=>ho pins s2 σ H2 x y v u Q I2 rx ry q)
theorem pe_un{op:UnaryOp}{r:V->Hp->VK->Prop}(ho:UnR X (unaryOp op) r)(ha:PE X a ta):PE X (.UnaryOp op a pos) (tUn r ta):=by
 intro pins s σ H Q I h
 exact UnaryOp_ (thn (ha pins s σ H _ I h) fun v s1 ⟨x,H1,I1,r1,q1⟩=>ho pins s1 σ H1 x v Q I1 r1 q1)
theorem opI{f:Value->Value->Sem Value}{C:Int->Int->Prop}{g:Int->Int->Int}
  (rule:∀(i j:Int)(t u:Tok)(s:Shared)(Q:Value->Shared->Prop)(E:Value->Shared->Prop),C i j->Q (.int (g i j) s.toks) {s with toks:=s.toks + 1}->wpAny (model X.prog X.w) X.A (f (.int i t) (.int j u)) Q E s) :
  OpR X f (rI C fun i j=>.int (g i j)):=by
 intro pins s σ H x y v u Q I rx ry h
 obtain⟨i,j,rfl,rfl,hc,q⟩:=h
 obtain⟨t,rfl⟩:=rx
 obtain⟨t',rfl⟩:=ry
 exact rule i j t t' s _ _ hc ⟨.int (g i j),H,I.tok _,⟨_,rfl⟩,q⟩
theorem opI0{f:Value->Value->Sem Value}{g:Int->Int->Int}
  (rule:∀(i j:Int)(t u:Tok)(s:Shared)(Q:Value->Shared->Prop)(E:Value->Shared->Prop),Q (.int (g i j) s.toks) {s with toks:=s.toks + 1}->wpAny (model X.prog X.w) X.A (f (.int i t) (.int j u)) Q E s) :
  OpR X f (rI0 fun i j=>.int (g i j)):=by
 intro pins s σ H x y v u Q I rx ry h
 obtain⟨i,j,rfl,rfl,q⟩:=h
 obtain⟨t,rfl⟩:=rx
 obtain⟨t',rfl⟩:=ry
 exact rule i j t t' s _ _ ⟨.int (g i j),H,I.tok _,⟨_,rfl⟩,q⟩
theorem opB0{f:Value->Value->Sem Value}{g:Int->Int->Bool}
  (rule:∀(i j:Int)(t u:Tok)(s:Shared)(Q:Value->Shared->Prop)(E:Value->Shared->Prop),Q (.bool (g i j)) s->wpAny (model X.prog X.w) X.A (f (.int i t) (.int j u)) Q E s) :
  OpR X f (rI0 fun i j=>.bl (g i j)):=by
 intro pins s σ H x y v u Q I rx ry h
 obtain⟨i,j,rfl,rfl,q⟩:=h
 obtain⟨t,rfl⟩:=rx
 obtain⟨t',rfl⟩:=ry
 exact rule i j t t' s _ _ ⟨.bl (g i j),H,I,rfl,q⟩
def CPow(i j:Int):Prop:=0<=j/\j<=1000000/\i.natAbs < 2 ^ 64
def CMul(i j:Int):Prop:=(-(2 ^ 64) < i/\i < 2 ^ 64)∨(-(2 ^ 64) < j/\j < 2 ^ 64)
theorem CMul.ok{i j:Int}(h:CMul i j):IntMulOk i j:=by
 rcases h with ⟨h1,h2⟩|⟨h1,h2⟩
 ·exact .of_left (intBits_le_64 h1 h2)
 ·exact .of_right (intBits_le_64 h1 h2)
theorem op_add:OpR X (binaryOp .Add) (rI0 fun i j=>.int (i + j)):=opI0 fun _ _ _ _ _ _ _ q=>add_int q
theorem op_sub:OpR X (binaryOp .Sub) (rI0 fun i j=>.int (i - j)):=opI0 fun _ _ _ _ _ _ _ q=>sub_int q
theorem op_modN:OpR X (binaryOp .Mod) (rI (fun _ j=>j≠0) fun i j=>.int (i.fmod j)):=opI fun _ _ _ _ _ _ _ hc q=>mod_int' hc q
theorem op_pow:OpR X (binaryOp .Pow) (rI CPow fun i j=>.int (i ^ j.toNat)):=opI fun _ _ _ _ _ _ _ hc q=>pow_int_small hc.1 hc.2.1 hc.2.2 q
theorem unI{f:Value->Sem Value}{g:Int->Int}
  (rule:∀(i:Int)(t:Tok)(s:Shared)(Q:Value->Shared->Prop)(E:Value->Shared->Prop),Q (.int (g i) s.toks) {s with toks:=s.toks + 1}->wpAny (model X.prog X.w) X.A (f (.int i t)) Q E s) :
  UnR X f (rU fun i=>.int (g i)):=by
 intro pins s σ H x v Q I rx h
 obtain⟨i,rfl,q⟩:=h
 obtain⟨t,rfl⟩:=rx
 exact rule i t s _ _ ⟨.int (g i),H,I.tok _,⟨_,rfl⟩,q⟩
theorem un_neg:UnR X (unaryOp .USub) (rU fun i=>.int (-i)):=unI fun _ _ _ _ _ q=>neg_int q
end
section
variable {X:Cx} {a b c:Expr} {ta tb tc:TE} {pos:Pos}
theorem fin_bl{pins:List (Addr×Obj)}{σ:St}{H:Hp}{s:Shared}{Q:VK}{k k':Bool}(I:Inv X pins σ H s)(q:Q (.bl k) H)(e:k=k'):EP X pins σ Q (.bool k') s:=by
 subst e
 exact⟨.bl k,H,I,rfl,q⟩
theorem op_lt:OpR X (compareOp .Lt) (rI0 fun i j=>.bl (decide (i < j))):=opB0 fun _ _ _ _ _ _ _ q=>lt_int q
theorem op_le:OpR X (compareOp .LtE) (rI0 fun i j=>.bl (decide (i<=j))):=opB0 fun _ _ _ _ _ _ _ q=>le_int q
theorem op_gt:OpR X (compareOp .Gt) (rI0 fun i j=>.bl (decide (j < i))):=opB0 fun _ _ _ _ _ _ _ q=>gt_int q
theorem op_ge:OpR X (compareOp .GtE) (rI0 fun i j=>.bl (decide (j<=i))):=opB0 fun _ _ _ _ _ _ _ q=>ge_int q
theorem op_isN:OpR X (compareOp .Is) (fun x y H Q=>y=.non/\Q (.bl (decide (x=.non))) H):=by
 intro pins s σ H x y v u Q I rx ry h
 obtain⟨rfl,q⟩:=h
 cases ry
 refine is_none_gen (fin_bl I q ?_)
 cases x<;>first
  | (cases rx;rfl)
  | (obtain⟨t,rfl⟩:=rx;rfl)
theorem op_notN:OpR X (compareOp .IsNot) (fun x y H Q=>y=.non/\Q (.bl (!decide (x=.non))) H):=by
 intro pins s σ H x y v u Q I rx ry h
 obtain⟨rfl,q⟩:=h
 cases ry
 refine isnot_none_gen (fin_bl I q ?_)
 cases x<;>first
  | (cases rx;rfl)
  | (obtain⟨t,rfl⟩:=rx;rfl)
theorem OpR.or{f:Value->Value->Sem Value}{r r':R2}(h:OpR X f r)(h':OpR X f r'):OpR X f (fun x y H Q=>r x y H Q∨r' x y H Q):=by
 intro pins s σ H x y v u Q I rx ry q
 rcases q with q|q
 ·exact h pins s σ H x y v u Q I rx ry q
 ·exact h' pins s σ H x y v u Q I rx ry q
theorem nomark(b:Expr){op:CmpOp}(h:op ≠ .In:=by decide)(h2:op ≠ .NotIn:=by decide):behindInMarks op b=false:=by
 have e1:(op==CmpOp.In)=false:=by cases op<;>first|rfl|exact absurd rfl h
 have e2:(op==CmpOp.NotIn)=false:=by cases op<;>first|rfl|exact absurd rfl h2
 cases b<;>simp[behindInMarks,e1,e2]
theorem pe_cmpR{op:CmpOp}{r:R2}(ho:OpR X (compareOp op) r)(ha:PE X a ta)(hb:PE X b tb)(hm:behindInMarks op b=false):PE X (.Compare a [op] [b] pos) (tOp r ta tb):=by
 intro pins s σ H Q I h
 exact wpAny_Compare1 (binT ha hb I h fun v u s2 x y H2 I2 rx ry q=>ho pins s2 σ H2 x y v u Q I2 rx ry q) hm
def tTest(t:TE):TT:=fun σ H Q=>t σ H fun x H'=>∃k,x=.bl k/\Q k H'
theorem pt_cmpR{op:CmpOp}{r:R2}(ho:OpR X (compareOp op) r)(ha:PE X a ta)(hb:PE X b tb)(hm:behindInMarks op b=false):PT X (.Compare a [op] [b] pos) (tTest (tOp r ta tb)):=by
 intro pins s σ H Q I h
 refine wpAny_isTrue_Compare1 (thn (ha pins s σ H _ I h) fun v s1 ⟨x,H1,I1,r1,q1⟩=>thn (hb pins s1 σ H1 _ I1 q1) fun u s2 ⟨y,H2,I2,r2,q2⟩ =>
  thn (ho pins s2 σ H2 x y v u _ I2 r1 r2 q2) fun c s3 ⟨z,H3,I3,r3,k,e,q3⟩=>?_) hm
 subst e
 cases r3
 exact wpAny_truthy_bool ⟨H3,I3,q3⟩
def tChain(r r':R2)(ta tb tc:TE):TE:=fun σ H Q=>ta σ H fun x H1=>tb σ H1 fun y H2=>r x y H2 fun z H3=>∃k,z=.bl k ∧
 (if k=true then tc σ H3 fun w' H4=>r' y w' H4 Q else Q (.bl false) H3)
theorem pe_chain{op op':CmpOp}{r r':R2}(ho:OpR X (compareOp op) r)(ho':OpR X (compareOp op') r')(ha:PE X a ta)(hb:PE X b tb)(hc:PE X c tc)
  (hm:lastMarks [op,op'] [b,c]=false:=by with_unfolding_all rfl):PE X (.Compare a [op,op'] [b,c] pos) (tChain r r' ta tb tc):=by
 intro pins s σ H Q I h
 refine Compare_chain (thn (ha pins s σ H _ I h) fun v s1 ⟨x,H1,I1,r1,q1⟩=>chain_link (thn (hb pins s1 σ H1 _ I1 q1) fun u s2 ⟨y,H2,I2,r2,q2⟩ =>
  thn (ho pins s2 σ H2 x y v u _ I2 r1 r2 q2) fun d s3 ⟨z,H3,I3,r3,k,e,q3⟩=>?_)) hm
 subst e
 cases r3
 refine wpAny_truthy_bool ?_
 cases k with
 | false=>exact ite_ff ⟨.bl false,H3,I3,rfl,q3⟩
 | true=>exact ite_tt (chain_last (thn (hc pins s3 σ H3 _ I3 q3) fun w' s4 ⟨z',H4,I4,r4,q4⟩=>ho' pins s4 σ H4 y z' u w' Q I4 r2 r4 q4))
theorem pt_chain{op op':CmpOp}{r r':R2}(ho:OpR X (compareOp op) r)(ho':OpR X (compareOp op') r')(ha:PE X a ta)(hb:PE X b tb)(hc:PE X c tc)
  (hm:lastMarks [op,op'] [b,c]=false:=by with_unfolding_all rfl):PT X (.Compare a [op,op'] [b,c] pos) (tTest (tChain r r' ta tb tc)):=by
 intro pins s σ H Q I h
 refine isTrue_chain (thn (ha pins s σ H _ I h) fun v s1 ⟨x,H1,I1,r1,q1⟩=>test_link (thn (hb pins s1 σ H1 _ I1 q1) fun u s2 ⟨y,H2,I2,r2,q2⟩ =>
  thn (ho pins s2 σ H2 x y v u _ I2 r1 r2 q2) fun d s3 ⟨z,H3,I3,r3,k,e,q3⟩=>?_)) hm
 subst e
 cases r3
 refine wpAny_truthy_bool ?_
 cases k with
 | false =>
  obtain⟨k',e',q'⟩:=q3
  cases e'
  exact ite_ff ⟨H3,I3,q'⟩
 | true =>
  refine ite_tt (test_last (thn (hc pins s3 σ H3 _ I3 q3) fun w' s4 ⟨z',H4,I4,r4,q4⟩=>thn (ho' pins s4 σ H4 y z' u w' _ I4 r2 r4 q4) fun d' s5 ⟨z2,H5,I5,r5,k2,e2,q5⟩=>?_))
  subst e2
  cases r5
  exact wpAny_truthy_bool ⟨H5,I5,q5⟩
theorem line63:(sizeLine:Nat) < 2 ^ 63:=by rw[sizeLine_eq];decide
theorem op_add_str:OpR X (binaryOp .Add) (fun x y H Q=>∃i j,x=.str i/\y=.str j/\i.length + j.length<=sizeLine/\Q (.str (i++j)) H):=by
 intro pins s σ H x y v u Q I rx ry h
 obtain⟨i,j,rfl,rfl,hz,q⟩:=h
 obtain⟨t,rfl⟩:=rx
 obtain⟨t',rfl⟩:=ry
 exact add_str (fun t' tk=>⟨.str (i++j),H,I.tok _,⟨_,rfl⟩,q⟩) hz
theorem vals1{x:V}{us:List Value}(r:Vals [x] us):∃u,us=[u]/\RelV x u:=by
 cases r with
 | cons r1 r2=>cases r2;exact⟨_,rfl,r1⟩
theorem vals2{x y:V}{us:List Value}(r:Vals [x,y] us):∃u w',us=[u,w']/\RelV x u/\RelV y w':=by
 cases r with
 | cons r1 r2 =>
  cases r2 with
  | cons r3 r4=>cases r4;exact⟨_,_,rfl,r1,r3⟩
theorem call_max2(hc:X.calm=true):CallR X (.builtin "max") (fun xs H Q=>∃i j,xs=[.int i,.int j]/\Q (.int (if j > i then j else i)) H):=by
 intro pins s σ H xs us Q I r h
 obtain⟨i,j,rfl,q⟩:=h
 obtain⟨u,w',rfl,⟨t,rfl⟩,⟨t',rfl⟩⟩:=vals2 r
 refine max_two_ints (I.ok.hd hc) fun h' tk k=>⟨_,H,I.kept k,?_,q⟩
 by_cases hj:j > i
 ·rw[if_pos hj,if_pos hj];exact⟨_,rfl⟩
 ·rw[if_neg hj,if_neg hj];exact⟨_,rfl⟩
theorem call_int1:CallR X (.type "int") (fun xs H Q=>(∃i,xs=[.int i]/\Q (.int i) H)∨∃k,xs=[.bl k]/\Q (.int (if k then 1 else 0)) H):=by
 intro pins s σ H xs us Q I r h
 rcases h with ⟨i,rfl,q⟩|⟨k,rfl,q⟩
 ·obtain⟨u,rfl,t,rfl⟩:=vals1 r
  exact call_int_int ⟨.int i,H,I,⟨_,rfl⟩,q⟩
 ·obtain⟨u,rfl,r1⟩:=vals1 r
  cases r1
  exact call_int_bool ⟨.int (if k then 1 else 0),H,I.tok _,⟨_,rfl⟩,q⟩
end
end L2
namespace L2
open PySem PySem.Spec PyProof.Rows
structure ObjM(h:Heap)(x dx C:Addr)(mA:Str->Option Value):Prop where
 obj:h.get? x=some (PySem.W.instObj C dx)
 ns:h.Ns1 dx mA
 ne:dx≠x
theorem lookIn_ns{h:Heap}{dx:Addr}{mA:Str->Option Value}(n:h.Ns1 dx mA):∃od,h.get? dx=some od/\∀name,PySem.W.lookIn name od=some (mA name):=by
 obtain⟨o,es,ep,ho,hd,hk,_,hm⟩:=n
 refine⟨o,ho,fun name=>?_⟩
 have e:=hm name
 unfold nsFind findBy at e
 rw[← Array.find?_toList]at e
 unfold PySem.W.lookIn
 rw[hd]
 dsimp only
 split
 ·rename_i y q
  rw[q]at e
  exact congrArg some e
 ·rename_i q
  rw[q]at e
  have a:es.toList.any (·.refKey)=false:=by
   rw[List.any_eq_false]
   intro y hy
   obtain⟨z,t,hkey⟩:=hk y (Array.mem_toList_iff.mp hy)
   simp[DictEntry.refKey,hkey]
  have a':¬ es.toList.any (·.refKey)=true:=by rw[a];exact Bool.false_ne_true
  rw[if_neg a']
  exact congrArg some e
theorem ObjM.look{h:Heap}{x dx C:Addr}{mA:Str->Option Value}(I:ObjM h x dx C mA):∃od,PySem.W.InstAt h x (PySem.W.instObj C dx) C (some od)/\∀name,PySem.W.lookIn name od=some (mA name) :=
 let ⟨od,ho,hl⟩:=lookIn_ns I.ns
 ⟨od,⟨I.obj,rfl,rfl,ho⟩,hl⟩
section
variable {prog:Program} {w:World} {A:Around} {E:Value->Shared->Prop} {s:Shared} {K:PySem.W.Frag} {x dx C f:Addr} {mA:Str->Option Value} {name:Str} {v:Value}
end
theorem RelO.some_of{v:V}{o:Option Value}(r:RelO (some v) o):∃u,o=some u/\RelV v u:=by
 cases o with
 | none=>exact(show False from r).elim
 | some u=>exact⟨u,rfl,r⟩
section
variable {P:Program} {w:World} {H H':Hp} {h h':Heap} {a C dx:Addr} {fs fs':List (Str×V)}
end
structure Cls(K:PySem.W.Frag)(C:Addr):Prop where
 pg:PySem.W.plainGet K C Str.empty=true
 hd:PySem.W.hasDictIn K C=true
 po:PySem.W.plainOver K C=true
 sa:PySem.W.findIn K (.ref C) "__setattr__" = some (some (.builtin "object.__setattr__"))
theorem Cls.get{K:PySem.W.Frag}{C:Addr}(c:Cls K C)(f:Str):PySem.W.plainGet K C f=true:=c.pg
structure Con(K:PySem.W.Frag)(C:Addr)(f:Str)(v:V)(u:Value):Prop where
 at_:PySem.W.findIn K (.ref C) f=some (some u)
 rel:RelV v u
 get:PySem.W.specialIn K u "__get__" = some none
 cp:PySem.W.copiedNames.contains f=false
structure Meth(K:PySem.W.Frag)(C:Addr)(m:Str)(f:Addr):Prop where
 at_:PySem.W.findIn K (.ref C) m=some (some (.ref f))
 fn:PySem.W.isFn K (.ref f)=true
 kp:PySem.W.keepIn K (.ref f)=true
section
variable {X:Cx} {pins:List (Addr×Obj)} {σ:St} {H:Hp} {s:Shared} {a C dx:Addr} {fs:List (Str×V)} {f:Str} {v:V} {A:Around} {E:Value->Shared->Prop}
theorem Inv.made(I:Inv X pins σ H s):Inv X pins σ (upd (upd H s.heap.objs.size (.own (s.heap.objs.size + 1))) (s.heap.objs.size + 1) (.ins C s.heap.objs.size []))
  {s with heap:=(s.heap.push PySem.W.emptyDict).push (PySem.W.instObj C s.heap.objs.size)}:=by
 have e1:(s.heap.push PySem.W.emptyDict).get? s.heap.objs.size=some PySem.W.emptyDict:=Heap.get?_push_size s.heap rfl
 have e2:((s.heap.push PySem.W.emptyDict).push (PySem.W.instObj C s.heap.objs.size)).get? (s.heap.objs.size + 1)=some (PySem.W.instObj C s.heap.objs.size):=by
  have:=Heap.get?_push_size (s.heap.push PySem.W.emptyDict) (o:=PySem.W.instObj C s.heap.objs.size) rfl
  rwa [Heap.size_push]at this
 have e3:(s.heap.push PySem.W.emptyDict).Ns s.heap.objs.size (fun _=>none):=⟨PySem.W.emptyDict,#[],_,e1,rfl,(fun e he=>absurd he (by simp)),fun _=>rfl⟩
 have I1:=I.laid (a:=s.heap.objs.size) (o:=.own (s.heap.objs.size + 1)) (h':=s.heap.push PySem.W.emptyDict) (t':=s.toks) (fun b u q=>Heap.get?_push_of_some _ q) (Nat.le_refl _) ⟨_,e1⟩
 refine I1.laid (a:=s.heap.objs.size + 1) (o:=.ins C s.heap.objs.size []) (t':=s.toks) (fun b u q=>Heap.get?_push_of_some _ q) (Nat.le_of_eq (Heap.size_push _ _)) ?_
 have ne:s.heap.objs.size≠s.heap.objs.size + 1:=Nat.ne_of_lt (Nat.lt_succ_self _)
 refine⟨by rw[upd_ne ne,upd_same],Nat.zero_le _,ne,e2,fun _=>none,(Heap.Ns1.of_empty e3).at fun o q=>Heap.get?_push_of_some _ q,fun _=>True.intro,fun y hy=>absurd rfl hy⟩
theorem attr_of{prog:Program}{w:World}{env:Env}{e:Expr}{f:Str}{pos:Pos}{s:Shared}{Q:Value->Shared->Prop}(hb:attributeBase e f env (eval e env)=eval e env)
  (h:wpAny (model prog w) A (eval e env) (fun o s₁=>wpAny (model prog w) A (getAttr o f true) Q E s₁) E s):wpAny (model prog w) A (eval (.Attribute e f pos) env) Q E s :=
 Attribute_any_ h (by rw[arm_eval_Attribute,hb])
end
section
variable {X:Cx} {o e value:Expr} {f:Str} {pos pos' tpos:Pos} {ta tv:TE}
end
section
variable {X:Cx} {pins:List (Addr×Obj)} {σ:St} {H:Hp} {s:Shared} {A:Around} {E:Value->Shared->Prop} {Q:Value->Shared->Prop} {c:Value} {b:Bool}
inductive TyOf (K:PySem.W.Frag) (H:Hp):V->Value->Prop where
 | non:TyOf K H .non (.type "NoneType")
 | bl (x:Bool):TyOf K H (.bl x) (.type "bool")
 | int (i:Int):TyOf K H (.int i) (.type "int")
 | str (x:Str):TyOf K H (.str x) (.type "str")
 | flt (x:UInt64):TyOf K H (.flt x) (.type "float")
 | lst {a:Addr} {xs:List V} (e:H a=some (.lst xs)):TyOf K H (.ref a) (.type "list")
 | frz {a:Addr} {o:Obj} {xs:List V} (e:H a=some (.frz o (.lst xs))):TyOf K H (.ref a) (.type "list")
 | tup {a:Addr} {xs:List V} (e:H a=some (.tup xs)):TyOf K H (.ref a) (.type "tuple")
 | dK {a:Addr} {kvs:List (Key×V)} (e:H a=some (.dK kvs)):TyOf K H (.ref a) (.type "dict")
 | dT {a:Addr} {kvs:List (List Key×V)} (e:H a=some (.dT kvs)):TyOf K H (.ref a) (.type "dict")
 | ins {a C dx:Addr} {fs:List (Str×V)} (e:H a=some (.ins C dx fs)) (cl:Cls K C) (ha:PySem.W.findIn K (.ref C) "__class__" = some (some (.builtin "object.__class__")))
   (hn:PySem.W.specialIn K (.builtin "object.__class__") "__get__" = some (some (.builtin "getset_descriptor.__get__"))) (htk:PySem.W.takesIn K (.builtin "object.__class__")=some true)
   (hm:PySem.W.mroIn K C (.type "object")=some true):TyOf K H (.ref a) (.ref C)
end
end L2
namespace L2
open PySem PySem.Spec PyProof.Rows
structure Room(k:Nat)(A:Around):Prop where
 hd:A.handled=none
 dp:A.depth + 3 * k + 5 < recursionLimit
 un:A.units + 16 * k + 200 < cLine
theorem Room.mono{j k:Nat}{A:Around}(r:Room k A)(h:j<=k):Room j A:=⟨r.hd,by have:=r.dp;omega,by have:=r.un;omega⟩
theorem Room.deeper{k:Nat}{A:Around}(r:Room (k + 1) A)(env:Env):Room k (A.deeper env) :=
 ⟨r.hd,by have:=r.dp;show A.depth + 1 + 3 * k + 5 < _;omega,by have:=r.un;show A.units + 3 + 16 * k + 200 < _;omega⟩
theorem Room.in1{k:Nat}{A:Around}(r:Room (k + 1) A):Room k A.in1 :=
 ⟨r.hd,by have:=r.dp;show A.depth + 3 * k + 5 < _;omega,by have:=r.un;show A.units + 1 + 16 * k + 200 < _;omega⟩
theorem make_depth{A:Around}{C:Addr}{us:List Value}{kw:List (Str×Value)}:(A.under (.builtin "type.__call__" ⟨.ref C::us,kw⟩)).depth=A.depth + 1:=by
 first|rfl|simp[Around.under,Code.weight,Code.isCreation,Code.isGuard,Code.isCaller,Code.frames,Code.isFrame,guardIds]
theorem make_units{A:Around}{C:Addr}{us:List Value}{kw:List (Str×Value)}:(A.under (.builtin "type.__call__" ⟨.ref C::us,kw⟩)).units=A.units + 1:=by
 first|rfl|simp[Around.under,Code.cUnits,Code.frames,Code.isFrame]
theorem Room.make{k:Nat}{A:Around}(r:Room (k + 1) A)(C:Addr)(us:List Value)(kw:List (Str×Value)):Room k (A.under (.builtin "type.__call__" ⟨.ref C::us,kw⟩)) :=
 ⟨r.hd,by have:=r.dp;rw[make_depth];omega,by have:=r.un;rw[make_units];omega⟩
theorem Room.depth{k:Nat}{A:Around}(r:Room k A):A.depth < recursionLimit:=by have:=r.dp;omega
theorem Room.units{k:Nat}{A:Around}(r:Room k A):A.units + 64 < cLine:=by have:=r.un;omega
def tNil:TA:=fun _ H Q=>Q [] H
def tCons(ta:TE)(tr:TA):TA:=fun σ H Q=>ta σ H fun x H1=>tr σ H1 fun xs H2=>Q (x::xs) H2
section
variable {X:Cx} {e:Expr} {es:List Expr} {te:TE} {t:TA} {pos:Pos}
theorem pa_nil:PA X [] tNil:=fun _ _ _ _ H Q I h=>Calls.spliced_nil ⟨[],H,I,.nil,h⟩
theorem pa_cons(ha:PE X e te)(hr:PA X es t)(hs:starEach (e::es) X.env=(false,eval e X.env)::starEach es X.env:=by rfl):PA X (e::es) (tCons te t):=by
 intro pos pins s σ H Q I h
 rw[hs]
 show wpAny _ _ (spliced ((false,eval e X.env)::backTo pos (starEach es X.env))) _ _ s
 refine Calls.spliced_cons (thn (ha pins s σ H _ I h) fun u s1 ⟨x,H1,I1,r1,q1⟩=>?_)
 exact thn (hr pos pins s1 σ H1 _ I1 q1) fun us s2 ⟨xs,H2,I2,r2,q2⟩=>⟨x::xs,H2,I2,.cons r1 r2,q2⟩
def tTup(t:TA):TE:=fun σ H Q=>t σ H fun xs H1=>xs.length<=sizeLine/\∀p,H1 p=none->Q (.ref p) (upd H1 p (.tup xs))
def tLst(t:TA):TE:=fun σ H Q=>t σ H fun xs H1=>xs.length<=sizeLine/\∀p,H1 p=none->Q (.ref p) (upd H1 p (.lst xs))
theorem pe_tup{x1}(h:PA X es t):PE X (.Tuple es x1 pos) (tTup t):=by
 intro pins s σ H Q I hq
 refine wpAny_Tuple_spliced (thn (h pos pins s σ H _ I hq) fun us s1 ⟨xs,H1,I1,r,z,q⟩=>⟨by rw[← r.length];exact z,?_⟩)
 have hf:H1 s1.heap.objs.size=none:=I1.hok.fresh (Nat.le_refl _)
 refine⟨.ref s1.heap.objs.size,upd H1 s1.heap.objs.size (.tup xs),I1.laid (t':=s1.toks) (fun b u e=>Heap.get?_push_of_some _ e) (Nat.le_refl _) ?_,rfl,q _ hf⟩
 exact⟨z,us,r,⟨_,Heap.get?_push_size _ rfl,rfl,_,rfl⟩⟩
theorem pe_lst(h:PA X es t):PE X (.List es pos) (tLst t):=by
 intro pins s σ H Q I hq
 refine wpAny_List_spliced (thn (h pos pins s σ H _ I hq) fun us s1 ⟨xs,H1,I1,r,z,q⟩=>⟨by rw[← r.length];exact z,?_⟩)
 have hf:H1 s1.heap.objs.size=none:=I1.hok.fresh (Nat.le_refl _)
 refine⟨.ref s1.heap.objs.size,upd H1 s1.heap.objs.size (.lst xs),I1.laid (t':=s1.toks) (fun b u e=>Heap.get?_push_of_some _ e) (Nat.le_refl _) ?_,rfl,q _ hf⟩
 exact⟨z,us,0,r,Heap.get?_push_size _ rfl⟩
end
abbrev Sp:=List V->Hp->VK->XK->Prop
abbrev CXT:=List Env->Hp->Shared->XK->Value->Shared->Prop
structure Env0(P:Program)(w:World)(K:PySem.W.Frag)(mg:Str->Option Value)(base:Heap)(A:Around)(outer:List Env)(s:Shared)(H:Hp):Prop where
 frames:A.frames=some outer
 mod:Mod K mg base
 bs:∀b o,base.get? b=some o->s.heap.get? b=some o/\H b=none
 bsz:base.objs.size<=s.heap.objs.size
 funs:s.heap.FunFrames base outer
 frf:∀b∈frs outer,H b=none
 hok:HOk P w H s.heap
 bare:AllBare s.gens
def CE(outer:List Env)(P:Program)(w:World)(H:Hp)(s:Shared)(Q:VK)(u:Value)(s':Shared):Prop :=
 ∃v H',s'.os=s.os/\AllBare s'.gens/\Un (frs outer) [] H H' s.heap s'.heap/\HOk P w H' s'.heap/\RelV v u/\Q v H'
def CR(CX:CXT)(outer:List Env)(P:Program)(w:World)(H:Hp)(s:Shared)(Q:VK)(E:XK)(r:Result)(s':Shared):Prop :=
 match r with
 | .ok (.ret u)=>CE outer P w H s Q u s'
 | .ok _=>False
 | .error e=>CX outer H s E e s'
structure FnOk(P:Program)(w:World)(K:PySem.W.Frag)(mg:Str->Option Value)(base:Heap)(CX:CXT)(k:Nat)(f:Addr)(fd:FuncData)(ps:List Str)(sp:Sp):Prop where
 len:∀vs H Q E,sp vs H Q E->vs.length=ps.length
 run:∀(A:Around)(outer:List Env)(s:Shared)(H:Hp)(args:Args)(us:List Value)(vs:List V)(Q:VK)(E:XK),Room k A->Env0 P w K mg base A outer s H->BindsTo s fd args (ps.zip us)->Vals vs us->sp vs H Q E →
  codeAny (model P w) A (.call (.ref f) args) (CR CX outer P w H s Q E) s
theorem FnOk.mono{P:Program}{w:World}{K:PySem.W.Frag}{mg:Str->Option Value}{base:Heap}{CX:CXT}{j k:Nat}{f:Addr}{fd:FuncData}{ps:List Str}{sp:Sp}(F:FnOk P w K mg base CX j f fd ps sp)(h:j<=k) :
  FnOk P w K mg base CX k f fd ps sp:=⟨F.len,fun A outer s H args us vs Q E hr=>F.run A outer s H args us vs Q E (hr.mono h)⟩
theorem Env0.make{P:Program}{w:World}{K:PySem.W.Frag}{mg:Str->Option Value}{base:Heap}{A:Around}{outer:List Env}{s:Shared}{H:Hp}(e:Env0 P w K mg base A outer s H)(C:Addr)(us:List Value)(kw:List (Str×Value)) :
  Env0 P w K mg base (A.under (.builtin "type.__call__" ⟨.ref C::us,kw⟩)) outer s H:=⟨by first|exact e.frames|(simpa [Around.under,Code.envs,Code.isFrame,pushEnvs] using e.frames),e.mod,e.bs,e.bsz,e.funs,e.frf,e.hok,e.bare⟩
theorem Env0.in1{P:Program}{w:World}{K:PySem.W.Frag}{mg:Str->Option Value}{base:Heap}{A:Around}{outer:List Env}{s:Shared}{H:Hp}(e:Env0 P w K mg base A outer s H) :
  Env0 P w K mg base A.in1 outer s H:=⟨e.frames,e.mod,e.bs,e.bsz,e.funs,e.frf,e.hok,e.bare⟩
section
variable {X:Cx} {pins:List (Addr×Obj)} {σ:St} {H:Hp} {s s':Shared}
theorem Inv.env0(I:Inv X pins σ H s):Env0 X.prog X.w X.K X.mg X.base X.A X.stack s H :=
 ⟨I.ok.frames,I.ok.mod,I.bs,Nat.le_trans I.ok.bsz I.sz,I.stack,I.stkFree,I.hok,I.bare⟩
theorem Inv.after{Q:VK}{u:Value}(I:Inv X pins σ H s)(h:CE X.stack X.prog X.w H s Q u s'):EP X pins σ Q u s':=by
 obtain⟨v,H',os,bare,un,hok,r,q⟩:=h
 obtain⟨hh,g,d,t,os'⟩:=s'
 obtain rfl:os'=s.os:=os
 exact⟨v,H',I.call (h':=hh) (g':=g) (d':=d) (t':=t) (ch:=[]) un hok bare (fun b z=>absurd z (by simp)),r,q⟩
end
def tCall(sp:Sp)(dvs:List V)(E:XK)(t:TA):TE:=fun σ H Q=>t σ H fun vs H1=>sp (vs++dvs) H1 Q E
def Binds(K:PySem.W.Frag)(fd:FuncData)(ps:List Str)(ds:List Value):Prop :=
 ∀(s:Shared)(us:List Value),K.In s.heap->(us++ds).length=ps.length->BindsTo s fd ⟨us,[]⟩ (ps.zip (us++ds))
theorem Binds.all{K:PySem.W.Frag}{fd:FuncData}{ps:List Str}(h:∀us:List Value,us.length=ps.length->bindArgs fd ⟨us,[]⟩=pure (ps.zip us)):Binds K fd ps []:=fun s us _ hl=>by
 rw[List.append_nil]at hl ⊢
 exact .of_eq (h us hl)
def Passes(CX:CXT)(X:Cx)(E:XK):Prop:=∀(pins:List (Addr×Obj))(σ:St)(H:Hp)(s:Shared)(e:Value)(s':Shared),Inv X pins σ H s->CX X.stack H s E e s'->X.xe e s'
section
variable {X:Cx} {CX:CXT} {k:Nat} {f C:Addr} {fd:FuncData} {ps:List Str} {sp:Sp} {dvs:List V} {ds:List Value} {E:XK} {x m:Str} {p pos apos:Pos} {e o:Expr} {es:List Expr} {ta:TE} {t:TA}
theorem run_fn{pins:List (Addr×Obj)}{σ:St}{H:Hp}{s:Shared}{Q:VK}{us:List Value}{vs:List V}(F:FnOk X.prog X.w X.K X.mg X.base CX k f fd ps sp)(hr:Room k X.A)(hb:Binds X.K fd ps ds)(hd:Vals dvs ds)(hx:Passes CX X E)
  (I:Inv X pins σ H s) (r:Vals vs us) (h:sp (vs++dvs) H Q E):wpAny (model X.prog X.w) X.A (call (.ref f) us) (EP X pins σ Q) X.xe s:=by
 have r2:Vals (vs++dvs) (us++ds):=r.append hd
 have hl:(us++ds).length=ps.length:=by rw[← r2.length];exact F.len _ _ _ _ h
 refine wpAny_call (codeAny_mono (F.run X.A X.stack s H ⟨us,[]⟩ (us++ds) (vs++dvs) Q E hr I.env0 (hb s us I.kIn hl) r2 h) fun r s' hq=>?_)
 cases r with
 | error e=>exact hx pins σ H s e s' I hq
 | ok fl =>
  cases fl with
  | ret u=>exact I.after hq
  | next=>exact False.elim hq
  | brk=>exact False.elim hq
  | cont=>exact False.elim hq
theorem pe_call(F:FnOk X.prog X.w X.K X.mg X.base CX k f fd ps sp)(hr:Room k X.A)(hg:Gl X x)(hm:X.mg x=some (.ref f))(hk:PySem.W.keepIn X.K (.ref f)=true)(hb:Binds X.K fd ps ds)(hd:Vals dvs ds)(hx:Passes CX X E)
  (ha:PA X (e::es) t) (hdb:(x==("__debug__" : Str))=false:=by decide) (he:starEach (e::es) X.env=(false,eval e X.env)::starEach es X.env:=by rfl) (hpl:(backTo pos (starEach es X.env)).any (·.1)=false:=by rfl) :
  PE X (.Call (.Name x p) (e::es) [] pos) (tCall sp dvs E t):=by
 intro pins s σ H Q I h
 refine wpAny_Call_Name_kw (ld_glob I hg hm ?_ hdb)
 refine PySem.W.callWith_K (h₀:=X.base) I.ok.mod.kin hk (thn (ha pos pins s σ H _ I h) fun us s1 ⟨vs,H1,I1,r,q⟩=>⟨I1.kIn,?_⟩) he hpl
 exact run_fn F hr hb hd hx I1 r q
structure Mk(K:PySem.W.Frag)(C f:Addr):Prop where
 makes:PySem.W.makesIn K C=true
 init:PySem.W.findIn K (.ref C) "__init__" = some (some (.ref f))
 fn:PySem.W.isFn K (.ref f)=true
 kp:PySem.W.keepIn K (.ref C)=true
end
section
variable {X:Cx} {CX:CXT} {k:Nat} {f C:Addr} {fd:FuncData} {ps ks:List Str} {sp:Sp} {E:XK} {x m:Str} {p pos apos kpos:Pos} {e o:Expr} {es:List Expr} {kws:List Keyword} {te ta:TE} {t tk:TA} {nm:Option Str}
structure KBinds(K:PySem.W.Frag)(fd:FuncData)(ps ks:List Str)(g:List Value->List Value->List Value)(gV:List V->List V->List V):Prop where
 to:∀(s:Shared)(us ws:List Value),K.In s.heap->(g us ws).length=ps.length->BindsTo s fd ⟨us,ks.zip ws⟩ (ps.zip (g us ws))
 rel:∀{vs:List V}{us:List Value}{zs:List V}{ws:List Value},Vals vs us->Vals zs ws->Vals (gV vs zs) (g us ws)
variable {g:List Value->List Value->List Value} {gV:List V->List V->List V}
end
structure FnScope(N P:List Str)(sc:Scope):Prop where
 kind:sc.kind=.function
 co:sc.isCoroutine=false
 gen:sc.isGenerator=false
 nd:N.Nodup
 pre:N.take P.length=P
 par:∀x∈P,sc.names.lookup x=some .local∨sc.names.lookup x=some .cell
 nofree:∀y∈sc.names,y.2 ≠ .free
theorem bindL_out{kindOf:Str->Option NameKind}{x:Str}:∀{binds:List (Str×Value)}{m:Str->Option Value},(∀v,(x,v)∉binds)->bindL kindOf binds m x=m x
 | [],_,_=>rfl
 | (n,v)::r,m,h=>by
  unfold bindL
  rw[bindL_out fun w hw=>h w (List.mem_cons_of_mem _ hw)]
  split
  ·have:x≠n:=by rintro rfl;exact h v List.mem_cons_self
   simp[this]
  ·rfl
theorem bindC_out{kindOf:Str->Option NameKind}{x:Str}:∀{binds:List (Str×Value)}{m:Str->Option Value},(∀v,(x,v)∉binds)->bindC kindOf binds m x=m x
 | [],_,_=>rfl
 | (n,v)::r,m,h=>by
  unfold bindC
  rw[bindC_out fun w hw=>h w (List.mem_cons_of_mem _ hw)]
  split
  ·rfl
  ·have:x≠n:=by rintro rfl;exact h v List.mem_cons_self
   simp[this]
theorem bindL_get{kindOf:Str->Option NameKind}{x:Str}{v:Value}:∀{P:List Str}{vs:List Value}{i:Nat}{m:Str->Option Value},P.Nodup->P[i]?=some x->vs[i]?=some v->kindOf x=some .local →
  bindL kindOf (P.zip vs) m x=some v
 | [],_,_,_,_,h,_,_=>by simp at h
 | _::_,[],_,_,_,_,h,_=>by simp at h
 | p::P,w::vs,0,m,nd,h1,h2,hk=>by
  simp at h1 h2;subst h1;subst h2
  show bindL kindOf ((p,w)::P.zip vs) m p=_
  unfold bindL
  rw[bindL_out fun v hv=>(List.nodup_cons.mp nd).1 (List.of_mem_zip hv).1,if_pos hk]
  simp
 | p::P,w::vs,i + 1,m,nd,h1,h2,hk=>by
  show bindL kindOf ((p,w)::P.zip vs) m x=_
  unfold bindL
  exact bindL_get (i:=i) (List.nodup_cons.mp nd).2 (by simpa using h1) (by simpa using h2) hk
theorem bindC_get{kindOf:Str->Option NameKind}{x:Str}{v:Value}:∀{P:List Str}{vs:List Value}{i:Nat}{m:Str->Option Value},P.Nodup->P[i]?=some x->vs[i]?=some v->kindOf x≠some .local →
  bindC kindOf (P.zip vs) m x=some v
 | [],_,_,_,_,h,_,_=>by simp at h
 | _::_,[],_,_,_,_,h,_=>by simp at h
 | p::P,w::vs,0,m,nd,h1,h2,hk=>by
  simp at h1 h2;subst h1;subst h2
  show bindC kindOf ((p,w)::P.zip vs) m p=_
  unfold bindC
  rw[bindC_out fun v hv=>(List.nodup_cons.mp nd).1 (List.of_mem_zip hv).1,if_neg hk]
  simp
 | p::P,w::vs,i + 1,m,nd,h1,h2,hk=>by
  show bindC kindOf ((p,w)::P.zip vs) m x=_
  unfold bindC
  exact bindC_get (i:=i) (List.nodup_cons.mp nd).2 (by simpa using h1) (by simpa using h2) hk
def start(N:List Str)(vs:List V):St:=vs.map some++List.replicate (N.length - vs.length) none
def cxOf(CX:CXT)(P:Program)(w:World)(K:PySem.W.Frag)(mg:Str->Option Value)(base:Heap)(N:List Str)(qual:Str)(scope:Scope)(f:Addr)(cd:Value)(A:Around)(outer:List Env)(s:Shared)(H:Hp)(E:XK):Cx where
 prog:=P
 w:=w
 K:=K
 mg:=mg
 base:=base
 A:=A.deeper (envOfC qual scope s.heap.objs.size f cd)
 N:=N
 s₀:=s
 H₀:=H
 env:=envOfC qual scope s.heap.objs.size f cd
 outer:=outer
 stack:=envOfC qual scope s.heap.objs.size f cd::outer
 ex:=[]
 calm:=true
 fn:=fun _=>true
 pn:=[]
 xe:=fun e s'=>wpAny (model P w) (A.deeper (envOfC qual scope s.heap.objs.size f cd)) (leaving (envOfC qual scope s.heap.objs.size f cd) e) (fun _ s''=>CX outer H s E e s'') (fun e' s''=>CX outer H s E e' s'') s'
theorem cell_has{sc:Scope}{n:Nat}{x:Str}(h:sc.names.lookup x=some .cell):∃c,(cellsFrom n sc.names []).lookup x=some c:=by
 have q:=PySem.W.cellsFrom_some sc.names n [] (.inl h)
 exact Option.isSome_iff_exists.mp q
theorem inv_start{CX:CXT}{P:Program}{w:World}{K:PySem.W.Frag}{mg:Str->Option Value}{base:Heap}{N ps:List Str}{qual:Str}{scope:Scope}{f:Addr}{cd:Value}{A:Around}{outer:List Env}{s s1:Shared}{H:Hp}{E:XK}{us:List Value}{vs:List V}
  (S:FnScope N ps scope) (hd:A.handled=none) (e0:Env0 P w K mg base A outer s H) (hl:vs.length=ps.length) (r:Vals vs us)
  (x:InCallC s s.heap.objs.size (bindL (envOfC qual scope s.heap.objs.size f cd).kindOf (ps.zip us) fun _=>none) (cellsFrom (s.heap.objs.size + 1) scope.names []) (bindC (envOfC qual scope s.heap.objs.size f cd).kindOf (ps.zip us) fun _=>none) s1) :
  Inv (cxOf CX P w K mg base N qual scope f cd A outer s H E) [] (start N vs) H s1:=by
 have hpl:ps.length<=N.length:=by have:=congrArg List.length S.pre;rw[List.length_take]at this;omega
 obtain⟨h1,tk,rfl,hk⟩:=x.done
 have noA:∀b:Addr,b∉(cxOf CX P w K mg base N qual scope f cd A outer s H E).ex:=fun b z=>absurd (show b∈([]:List Addr) from z) (by simp)
 refine⟨⟨e0.mod,S.kind,rfl,rfl,Nat.le_refl _,fun y z c h1 h2=>?_,fun y hy=>?_,fun y c _ h=>?_,fun _=>hd,Around.frames_deeper e0.frames,.inr ⟨rfl,rfl⟩,fun b z=>absurd z (noA b),e0.bs,e0.bsz,fun b _ _=>noA b,fun b z=>absurd z (noA b),e0.funs,e0.frf⟩,
  rfl,e0.bare,Un.kept hk,⟨_,x.toInCall.ns,fun i y v h1 h2 h3=>?_⟩,fun y c h=>⟨_,x.cell y c h⟩,e0.hok.fresh (Nat.le_refl _),fun y c h=>?_,fun p hp=>absurd (show p∈([]:List (Addr×Obj)) from hp) (by simp),e0.hok.kept hk,?_⟩
 ·exact name_of_addr x.apart (PySem.mem_of_lookup h1) (PySem.mem_of_lookup h2)
 ·have hy:scope.names.lookup y=some .cell∨scope.names.lookup y=some .free:=hy
  rcases hy with hy|hy
  ·exact cell_has hy
  ·exact absurd rfl (S.nofree _ (PySem.mem_of_lookup hy))
 ·exact Nat.le_of_lt (x.above y c (PySem.mem_of_lookup h))
 ·have hi:i < vs.length:=by
   unfold start at h2
   by_cases hi:i < vs.length
   ·exact hi
   ·rw[List.getElem?_append_right (by simpa using hi)]at h2
    rw[List.getElem?_replicate]at h2
    split at h2<;>cases h2
  have ha:vs[i]?=some v:=by
   unfold start at h2
   rw[List.getElem?_append_left (by simpa using hi),List.getElem?_map]at h2
   cases e:vs[i]? with
   | none=>rw[e]at h2;cases h2
   | some a=>rw[e]at h2;cases h2;rfl
  obtain⟨u,hu,rv⟩:=r.get ha
  have hp:ps[i]?=some y:=by
   rw[← S.pre,List.getElem?_take_of_lt (by omega)];exact h1
  have ndP:ps.Nodup:=by rw[← S.pre];exact S.nd.sublist (List.take_sublist _ _)
  refine⟨u,rv,?_⟩
  rcases S.par y (List.mem_of_getElem? hp) with k|k
  ·exact .inl ⟨k,bindL_get ndP hp hu k⟩
  ·obtain⟨c,e⟩:=cell_has (n:=s.heap.objs.size + 1) k
   refine .inr ⟨.inl k,c,e,?_⟩
   have q:=x.cell y c e
   rw[bindC_get ndP hp hu (by show scope.names.lookup y≠_;rw[k];decide)]at q
   exact q
 ·exact e0.hok.fresh (Nat.le_of_lt (x.above y c (PySem.mem_of_lookup h)))
 ·unfold start
  show _=N.length
  rw[List.length_append,List.length_map,List.length_replicate]
  omega
theorem fn_of{CX:CXT}{P:Program}{w:World}{K:PySem.W.Frag}{mg:Str->Option Value}{base:Heap}{k:Nat}{f:Addr}{name qual:Str}{params:Arguments}{body:List Stmt}{scope:Scope}{dV kV doc pm cdv ct oc:Value}{an od:Option Addr}
  {osl:Array (Option Value)} {N ps:List Str} {sp:Sp} (lk:K.lookup f=some ⟨oc,od,.func (PySem.W.fnOf name qual params body scope dV kV doc pm an cdv ct),osl⟩) (hcd:PySem.W.codeIn K cdv qual=true) (S:FnScope N ps scope)
  (len:∀vs H Q E,sp vs H Q E->vs.length=ps.length)
  (hbody:∀(A:Around)(outer:List Env)(s:Shared)(H:Hp)(vs:List V)(Q:VK)(E:XK),Room k (A.deeper (envOfC qual scope s.heap.objs.size f cdv))->sp vs H Q E →
   ∃t,PSs (cxOf CX P w K mg base N qual scope f cdv A outer s H E) body t/\t {nx:=fun _ H'=>Q .non H',rt:=Q} (start N vs) H) :
  FnOk P w K mg base CX (k + 1) f (PySem.W.fnOf name qual params body scope dV kV doc pm an cdv ct) ps sp:=by
 refine⟨len,fun A outer s H args us vs Q E hr e0 hb r hsp=>?_⟩
 have hl:=len _ _ _ _ hsp
 have KX:K.In s.heap:=e0.mod.kin.keeps fun b o e=>(e0.bs b o e).1
 have lim:s.heap.NoLimit:=e0.mod.nolimit.keeps fun b o e=>(e0.bs b o e).1
 have hkind:∀y∈ps.zip us,scope.names.lookup y.1=some .local∨(scope.names.lookup y.1=some .cell/\((cellsFrom (s.heap.objs.size + 1) scope.names []).lookup y.1).isSome=true):=fun ⟨n,v⟩ hy=>by
  rcases S.par n (List.of_mem_zip hy).1 with q|q
  ·exact .inl q
  ·exact .inr ⟨q,PySem.W.cellsFrom_some _ _ _ (.inl q)⟩
 refine codeAny_call_function hr.depth (KX _ _ lk) rfl S.co S.gen rfl (PySem.W.codeRec_of KX hcd) (hb _ _ _ _ ?_)
 refine wpAny_newFunctionEnv_cells S.kind hkind fun env he s1 x=>?_
 subst he
 refine⟨lim.keeps x.toInCall.keep,codeAny_func ?_⟩
 obtain⟨t,ht,hq⟩:=hbody A outer s H vs Q E (hr.deeper _) hsp
 have I:Inv (cxOf CX P w K mg base N qual scope f cdv A outer s H E) [] (start N vs) H s1:=inv_start S hr.hd e0 hl r x
 refine wpAny_mono (ht [] s1 (start N vs) H _ I hq) (fun fl s' hs=>?_) fun e s' hs=>hs
 have fin:∀{σ':St}{H':Hp}{v:V}{u:Value},Inv (cxOf CX P w K mg base N qual scope f cdv A outer s H E) [] σ' H' s'->RelV v u->Q v H'->CE outer P w H s Q u s' :=
  fun {σ' H' v u} J rv q=>⟨v,H',J.os,J.bare,J.base,J.hok,rv,q⟩
 cases fl with
 | ret u =>
  obtain⟨v,σ',H',J,rv,q⟩:=hs
  exact fin J rv q
 | next =>
  obtain⟨σ',H',J,q⟩:=hs
  exact fin (v:=V.non) (u:=Value.none) J rfl q
 | brk =>
  obtain⟨_,_,_,q⟩:=hs
  exact False.elim q
 | cont =>
  obtain⟨_,_,_,q⟩:=hs
  exact False.elim q
end L2
namespace L2
open PySem PySem.Spec PyProof.Rows
section
variable {X:Cx} {x:Str} {p pos:Pos} {e:Expr} {es:List Expr} {t:TA} {id T:String} {r:List V->Hp->VK->Prop}
def tCB(r:List V->Hp->VK->Prop)(t:TA):TE:=fun σ H Q=>t σ H fun vs H1=>r vs H1 Q
theorem pe_callB(hc:CallR X (.builtin id) r)(hg:Gl X x)(hm:X.mg x=none)(hv:bootBuiltins x=some (.builtin id))(ha:PA X (e::es) t) (hn:x ≠ "__name__" := by decide) (hdb:(x==("__debug__" : Str))=false:=by decide)
  (he:starEach (e::es) X.env=(false,eval e X.env)::starEach es X.env:=by rfl) (hpl:(backTo pos (starEach es X.env)).any (·.1)=false:=by rfl):PE X (.Call (.Name x p) (e::es) [] pos) (tCB r t):=by
 intro pins s σ H Q I h
 refine wpAny_Call_Name_kw (ld_blt I hg hm hv ?_ hn hdb)
 exact PyProof.Rows.callWith_builtin1 (thn (ha pos pins s σ H _ I h) fun us s1 ⟨vs,H1,I1,r1,q1⟩=>hc pins s1 σ H1 vs us Q I1 r1 q1) he hpl
theorem pe_callTy(hc:CallR X (.type T) r)(hg:Gl X x)(hm:X.mg x=none)(hv:bootBuiltins x=some (.type T))(ha:PA X (e::es) t) (hn:x ≠ "__name__" := by decide) (hdb:(x==("__debug__" : Str))=false:=by decide)
  (he:starEach (e::es) X.env=(false,eval e X.env)::starEach es X.env:=by rfl) (hpl:(backTo pos (starEach es X.env)).any (·.1)=false:=by rfl):PE X (.Call (.Name x p) (e::es) [] pos) (tCB r t):=by
 intro pins s σ H Q I h
 refine wpAny_Call_Name_kw (ld_blt I hg hm hv ?_ hn hdb)
 exact PyProof.Rows.callWith_type1 (thn (ha pos pins s σ H _ I h) fun us s1 ⟨vs,H1,I1,r1,q1⟩=>hc pins s1 σ H1 vs us Q I1 r1 q1) he hpl
end
end L2
namespace HT
open PySem PyProof.Rows
section
open PySem.SeqAt
open PySem.AutoSeq1 (wpAny_loadPart')
open PySem.MeetsSeq PySem.MeetsSeq2 PySem.MeetsSeq3
end
section
variable {prog:Program} {w:World} {A:Around} {E:Value->Shared->Prop} {s:Shared}
def sIx(n d:Nat):Option Int->Nat
 | none=>d
 | some v=>if v < 0 then (v + (n:Int)).toNat else min v.toNat n
theorem sIx_none(n d:Nat):sIx n d none=d:=rfl
theorem sIx_nat(n d k:Nat):sIx n d (some (k:Int))=min k n:=by
 show (if (k:Int) < 0 then ((k:Int) + (n:Int)).toNat else min (k:Int).toNat n)=min k n
 rw[if_neg (by omega),Int.toNat_natCast]
theorem sIx_le(n d:Nat)(hd:d<=n)(o:Option Int):sIx n d o<=n:=by
 cases o with
 | none=>exact hd
 | some v =>
  show (if v < 0 then (v + (n:Int)).toNat else min v.toNat n)<=n
  by_cases hv:v < 0
  ·rw[if_pos hv];omega
  ·rw[if_neg hv];exact Nat.min_le_right _ _
theorem clip_eq(v:Int)(n d:Nat):(if v < 0 then max (v + (n:Int)) 0 else min v (n:Int))=((sIx n d (some v):Nat):Int):=by
 show (if v < 0 then max (v + (n:Int)) 0 else min v (n:Int))=(((if v < 0 then (v + (n:Int)).toNat else min v.toNat n):Nat):Int)
 by_cases hv:v < 0
 ·simp only[if_pos hv];omega
 ·simp only[if_neg hv];omega
theorem adjust_gen(lo hi:Option Int)(n:Nat):Builtin.Slice.sliceAdjust lo hi 1 (n:Int)=(((sIx n 0 lo:Nat):Int),((sIx n n hi:Nat):Int)):=by
 have h1:¬ ((1:Int) < 0):=by omega
 unfold Builtin.Slice.sliceAdjust
 simp only[h1,if_false]
 refine Prod.ext ?_ ?_
 ·cases lo with
  | none=>rfl
  | some v=>exact clip_eq v n 0
 ·cases hi with
  | none=>rfl
  | some v=>exact clip_eq v n n
theorem places_gen(i j:Nat):Builtin.Slice.slicePlaces (i:Int) (j:Int) 1=j - i:=by
 unfold Builtin.Slice.slicePlaces
 have h1:(1:Int) > 0:=by omega
 simp only[h1,if_true,Int.ediv_one]
 split<;>omega
theorem slicePart_{v:Value}{o:Option Int}{Q:Option Int->Shared->Prop}(p:IsPart v o)(h:Q o s):wpAny (model prog w) A (Builtin.Slice.slicePartIndex v) Q E s:=by
 cases p with
 | none=>exact slicePart_none h
 | int i t=>exact slicePart_int h
theorem sliceApplied_gen{sl:Addr}{vl vu:Value}{lo hi:Option Int}{n:Nat}{Q:Int×Int×Nat->Shared->Prop}(hs:s.heap.IsSliceOf sl vl vu .none)(pl:IsPart vl lo)(pu:IsPart vu hi)
  (h:Q (((sIx n 0 lo:Nat):Int),1,sIx n n hi - sIx n 0 lo) s):wpAny (model prog w) A (Builtin.Slice.sliceApplied (.ref sl) (pure (n:Int))) Q E s:=by
 obtain⟨os,hos,hcs,hds⟩:=id hs
 unfold Builtin.Slice.sliceApplied Builtin.Slice.sliceFields
 refine wpAny_bind (wpAny_bind (wpAny_field hos hds (x:=vl) rfl (wpAny_bind (wpAny_field hos hds (x:=vu) rfl (wpAny_bind (wpAny_field hos hds (x:=.none) rfl (wpAny_pure ?_)))))))
 refine wpAny_bind (slicePart_none ?_)
 show wpAny _ _ (if ((1:Int)==0)=true then _ else _) _ _ s
 rw[if_neg (by decide)]
 refine wpAny_bind (slicePart_ pl (wpAny_bind (slicePart_ pu (wpAny_bind (wpAny_pure ?_)))))
 show wpAny _ _ (match Builtin.Slice.sliceAdjust lo hi 1 (n:Int) with|(lo,hi)=>pure (lo,(1:Int),Builtin.Slice.slicePlaces lo hi 1)) _ _ s
 rw[adjust_gen lo hi n]
 show wpAny _ _ (pure (((sIx n 0 lo:Nat):Int),(1:Int),Builtin.Slice.slicePlaces ((sIx n 0 lo:Nat):Int) ((sIx n n hi:Nat):Int) 1)) _ _ s
 rw[places_gen]
 exact wpAny_pure h
theorem pick_gen(xs:Array Value)(i k:Nat):((List.range k).filterMap fun (m:Nat)=>xs[((i:Int) + (m:Int) * 1).toNat]?).toArray=((xs.toList.drop i).take k).toArray:=by
 have e:(fun (m:Nat)=>xs[((i:Int) + (m:Int) * 1).toNat]?)=fun m=>xs[i + m]?:=by
  funext m
  have:((i:Int) + (m:Int) * 1).toNat=i + m:=by omega
  rw[this]
 rw[e]
 have:=pick_run xs i k
 rw[List.filterMap_map]at this
 have e2:((fun x=>xs[x]?) ∘ fun x=>i + x)=fun m=>xs[i + m]?:=rfl
 rw[e2]at this
 rw[this]
theorem getItem_tuple_cut{t sl:Addr}{items:Array Value}{vl vu:Value}{lo hi:Option Int}{Q:Value->Shared->Prop}(ht:IsTup s.heap t items)(hs:s.heap.IsSliceOf sl vl vu .none)(pl:IsPart vl lo)(pu:IsPart vu hi)
  (hw:¬ (sIx items.size 0 lo=0/\sIx items.size items.size hi=items.size))
  (h:Q (.ref s.heap.objs.size) {s with heap:=s.heap.push {cls:=.type "tuple", data:=.seq ((items.toList.drop (sIx items.size 0 lo)).take (sIx items.size items.size hi - sIx items.size 0 lo)).toArray} })
  (hsz:items.size<=sizeLine):wpAny (model prog w) A (getItem (.ref t) (.ref sl)) Q E s:=by
 have htake:sizeOk (.seq ((items.toList.drop (sIx items.size 0 lo)).take (sIx items.size items.size hi - sIx items.size 0 lo)).toArray):=by
  show ((items.toList.drop (sIx items.size 0 lo)).take (sIx items.size items.size hi - sIx items.size 0 lo)).toArray.size<=sizeLine
  rw[List.size_toArray,List.length_take,List.length_drop,Array.length_toList]
  omega
 have hj:sIx items.size items.size hi<=items.size:=sIx_le _ _ (Nat.le_refl _) hi
 obtain⟨os,hos,hcs,hds⟩:=id hs
 have hTs:s.TypeIs (.ref sl) "slice" := ⟨os,hos,hcs⟩
 unfold getItem
 try with_reducible refine wpAny_holding ?_
 first|refine wpAny_bind (wpAny_pure ?_)|skip
 refine wpAny_bind (wpAny_sequenceKey ht.typeIs (by decide) ?_)
 refine wpAny_bind (wpAny_callSpecial?_slot (name:=Str.ofString "__getitem__") ht.typeIs PyProof.Rows.slot_tuple_getitem
  (wpAny_call_entry PyProof.Rows.slot_tuple_getitem ht.typeIs entry_tuple_getitem ?_ (args_tuple_getitem _ _)))
 show wpAny _ _ (Builtin.Tuple.tupleItemsOf (.ref t) >>= _) _ _ s
 refine wpAny_bind (tupleItemsOf_ ht ?_)
 refine wpAny_bind (wpAny_typeOf hTs ?_)
 rw[if_pos (by decide)]
 refine wpAny_bind (sliceApplied_gen hs pl pu ?_)
 have hno:¬ ((((sIx items.size 0 lo:Nat):Int)==0&&(1:Int)==1&&(sIx items.size items.size hi - sIx items.size 0 lo)==items.size)=true):=by
  intro q
  rw[Bool.and_eq_true,Bool.and_eq_true]at q
  have q1:((sIx items.size 0 lo:Nat):Int)=0:=eq_of_beq q.1.1
  have q2:sIx items.size items.size hi - sIx items.size 0 lo=items.size:=eq_of_beq q.2
  exact hw ⟨by omega,by omega⟩
 show wpAny _ _ (if (((sIx items.size 0 lo:Nat):Int)==0&&(1:Int)==1&&(sIx items.size items.size hi - sIx items.size 0 lo)==items.size)=true then _ else _) _ _ s
 rw[if_neg hno,pick_gen]
 first
  | exact wpAny_bind (m:=Builtin.Tuple.tupleExact _) (wpAny_newObj_type (wpAny_pure ⟨_,rfl,wpAny_pure h⟩) htake)
  | exact wpAny_bind (m:=Builtin.Tuple.tupleExact _) (wpAny_newObj_type (wpAny_bind (wpAny_pure (wpAny_pure ⟨_,rfl,wpAny_pure h⟩))) htake)
  | exact wpAny_bind (wpAny_bind (m:=Builtin.Tuple.tupleExact _) (wpAny_newObj_type (wpAny_pure (wpAny_pure ⟨_,rfl,wpAny_pure h⟩)) htake))
  | exact wpAny_bind (wpAny_bind (m:=Builtin.Tuple.tupleExact _) (wpAny_newObj_type (wpAny_pure ⟨_,rfl,wpAny_pure h⟩) htake))
end
end HT
namespace L2
open PySem PySem.Spec PyProof.Rows
abbrev TO:=St->Hp->(Option Int->Hp->Prop)->Prop
def PO(X:Cx)(e:Option Expr)(t:TO):Prop :=
 ∀(pins:List (Addr×Obj))(s:Shared)(σ:St)(H:Hp)(Q:Option Int->Hp->Prop),Inv X pins σ H s->t σ H Q →
  wpAny (model X.prog X.w) X.A (evalPart e X.env) (fun u s'=>∃o H',Inv X pins σ H' s'/\IsPart u o/\Q o H') X.xe s
def tNoPart:TO:=fun _ H Q=>Q none H
def tPart(t:TE):TO:=fun σ H Q=>t σ H fun x H1=>∃i,x=.int i/\Q (some i) H1
section
variable {X:Cx} {e:Expr} {te:TE} {lo hi:Option Expr} {tl th:TO} {pos p2:Pos}
theorem po_none:PO X none tNoPart:=by
 intro pins s σ H Q I h
 rw[evalPart_none]
 exact wpAny_pure ⟨none,H,I,.none,h⟩
theorem po_some(h:PE X e te):PO X (some e) (tPart te):=by
 intro pins s σ H Q I hw
 rw[evalPart_some]
 refine thn (h pins s σ H _ I hw) fun u s1 ⟨x,H1,I1,r1,q1⟩=>?_
 obtain⟨i,rfl,q⟩:=q1
 obtain⟨t,rfl⟩:=r1
 exact⟨some i,H1,I1,.int i t,q⟩
def SlR(X:Cx)(r:V->Option Int->Option Int->Hp->VK->Prop):Prop :=
 ∀(pins:List (Addr×Obj))(s:Shared)(σ:St)(H:Hp)(x:V)(v vl vu:Value)(lo hi:Option Int)(sl:Addr)(Q:VK),Inv X pins σ H s->RelV x v->s.heap.IsSliceOf sl vl vu .none->IsPart vl lo->IsPart vu hi->r x lo hi H Q →
  ∃T id,typeLookup (.type T) "__getitem__" = pure (some (.builtin id))/\s.TypeIs v T/\wpAny (model X.prog X.w) X.A (getItem v (.ref sl)) (EP X pins σ Q) X.xe s
theorem SlR.or{r r':V->Option Int->Option Int->Hp->VK->Prop}(h:SlR X r)(h':SlR X r'):SlR X (fun x lo hi H Q=>r x lo hi H Q∨r' x lo hi H Q):=by
 intro pins s σ H x v vl vu lo hi sl Q I rx hs pl pu q
 rcases q with q|q
 ·exact h pins s σ H x v vl vu lo hi sl Q I rx hs pl pu q
 ·exact h' pins s σ H x v vl vu lo hi sl Q I rx hs pl pu q
def tSl(r:V->Option Int->Option Int->Hp->VK->Prop)(te:TE)(tl th:TO):TE:=fun σ H Q=>te σ H fun x H1=>tl σ H1 fun l H2=>th σ H2 fun u H3=>r x l u H3 Q
theorem pe_slice{r:V->Option Int->Option Int->Hp->VK->Prop}(hr:SlR X r)(he:PE X e te)(hl:PO X lo tl)(hu:PO X hi th):PE X (.Subscript e (.Slice lo hi none p2) pos) (tSl r te tl th):=by
 intro pins s σ H Q I h
 refine Subscript_ (thn (he pins s σ H _ I h) fun v s1 ⟨x,H1,I1,r1,q1⟩=>?_)
 refine wpAny_Slice (thn (hl pins s1 σ H1 _ I1 q1) fun vl s2 ⟨l,H2,I2,pl,q2⟩=>thn (hu pins s2 σ H2 _ I2 q2) fun vu s3 ⟨u,H3,I3,pu,q3⟩=>?_)
 rw[evalPart_none]
 refine wpAny_pure ?_
 have I4:Inv X pins σ H3 {s3 with heap:=s3.heap.push {cls:=.type "slice", data:=.fields #[vl,vu,.none]} }:=I3.kept (t':=s3.toks) fun b ob q=>Heap.get?_push_of_some _ q
 obtain⟨T,id,hT,ht,hg⟩:=hr pins {s3 with heap:=s3.heap.push {cls:=.type "slice", data:=.fields #[vl,vu,.none]} } σ H3 x v vl vu l u s3.heap.objs.size Q I4 r1 (Heap.IsSliceOf.new ..) pl pu q3
 show wpAny (model X.prog X.w) X.A (subscriptTail e (.Slice lo hi none p2) v (.ref s3.heap.objs.size)) (EP X pins σ Q) X.xe {s3 with heap:=s3.heap.push {cls:=.type "slice", data:=.fields #[vl,vu,.none]} }
 exact tail_any (ops:=[.ref s3.heap.objs.size,v]) ht hT hg (by with_unfolding_all rfl)
def cutV(xs:List V)(lo hi:Option Int):List V:=(xs.drop (HT.sIx xs.length 0 lo)).take (HT.sIx xs.length xs.length hi - HT.sIx xs.length 0 lo)
theorem cutV_length(xs:List V)(lo hi:Option Int):(cutV xs lo hi).length<=xs.length:=by
 unfold cutV
 rw[List.length_take,List.length_drop]
 omega
def rSlT(K:PySem.W.Frag):V->Option Int->Option Int->Hp->VK->Prop:=fun x lo hi H Q=>∃a xs,x=.ref a/\SqT K H a xs ∧
 ¬ (HT.sIx xs.length 0 lo=0/\HT.sIx xs.length xs.length hi=xs.length)/\∀p,H p=none->Q (.ref p) (upd H p (.tup (cutV xs lo hi)))
theorem sl_tup:SlR X (rSlT X.K):=by
 intro pins s σ H x v vl vu lo hi sl Q I rx hs pl pu h
 obtain⟨a,xs,rfl,hx,hw,q⟩:=h
 cases rx
 obtain⟨its,r,ht,hz⟩:=I.tuple hx
 have hlen:its.toArray.size=xs.length:=by rw[List.size_toArray];exact r.length.symm
 refine⟨"tuple", _,PyProof.Rows.slot_tuple_getitem.lookup,ht.typeIs,?_⟩
 refine HT.getItem_tuple_cut ht hs pl pu (by rw[hlen];exact hw) ?_ (by rw[hlen];exact hz)
 rw[hlen]
 refine⟨.ref s.heap.objs.size,_,I.laid (t':=s.toks) (o:=.tup (cutV xs lo hi)) (fun b ob q=>Heap.get?_push_of_some _ q) (Nat.le_refl _) ?_,rfl,q _ (I.hok.fresh (Nat.le_refl _))⟩
 exact⟨Nat.le_trans (cutV_length xs lo hi) hz,_,(r.drop (HT.sIx xs.length 0 lo)).take (HT.sIx xs.length xs.length hi - HT.sIx xs.length 0 lo),IsTup.new _ _⟩
end
end L2
namespace L2
open PySem PySem.Spec PyProof.Rows
def ixN(n:Nat)(i:Int):Option Nat:=if 0<=i then (if i < n then some i.toNat else none) else if -(n:Int)<=i then some (i + n).toNat else none
def atI{α:Type}(xs:List α)(i:Int):Option α:=(ixN xs.length i).bind fun j=>xs[j]?
theorem ixN_seq{n:Nat}{i:Int}{j:Nat}(h:ixN n i=some j):seqIndex? i n=some j/\j < n /\ -(n:Int)<=i/\i < n:=by
 unfold ixN at h
 by_cases h0:0<=i
 ·rw[if_pos h0]at h
  by_cases h1:i < n
  ·rw[if_pos h1]at h
   have e:i.toNat=j:=Option.some.inj h
   exact⟨by rw[seqIndex_of h0 h1,e],by omega,by omega,h1⟩
  ·rw[if_neg h1]at h;cases h
 ·rw[if_neg h0]at h
  by_cases h1:-(n:Int)<=i
  ·rw[if_pos h1]at h
   have e:(i + n).toNat=j:=Option.some.inj h
   exact⟨by rw[seqIndex_neg (by omega) h1,e],by omega,h1,by omega⟩
  ·rw[if_neg h1]at h;cases h
theorem atI_get{α:Type}{xs:List α}{i:Int}{v:α}(h:atI xs i=some v):∃j,seqIndex? i xs.length=some j/\xs[j]?=some v/\j < xs.length /\ -(xs.length:Int)<=i/\i < xs.length:=by
 unfold atI at h
 cases e:ixN xs.length i with
 | none=>rw[e]at h;cases h
 | some j =>
  rw[e]at h
  obtain⟨h1,h2,h3,h4⟩:=ixN_seq e
  exact⟨j,h1,h,h2,h3,h4⟩
theorem atI_nat{α:Type}{xs:List α}{j:Nat}{v:α}(h:xs[j]?=some v):atI xs (j:Int)=some v:=by
 have hj:j < xs.length:=(List.getElem?_eq_some_iff.mp h).1
 have e:ixN xs.length (j:Int)=some j:=by
  unfold ixN
  rw[if_pos (by omega),if_pos (by omega)];simp
 unfold atI;rw[e];exact h
def PlainIx(b:Expr):Prop:=∀o i,subscripted b false o i=operate [o,i] (getItem o i)
def IxR(X:Cx)(r:R2):Prop :=
 ∀(value slice:Expr)(pins:List (Addr×Obj))(s:Shared)(σ:St)(H:Hp)(x y:V)(v u:Value)(Q:VK),Inv X pins σ H s->RelV x v->RelV y u->r x y H Q →
  subscripted slice false v u=operate [v,u] (getItem v u)->wpAny (model X.prog X.w) X.A (subscriptTail value slice v u) (EP X pins σ Q) X.xe s
def MtR(X:Cx)(id:String)(r:V->List V->Hp->VK->Prop):Prop :=
 ∀(pins:List (Addr×Obj))(s:Shared)(σ:St)(H:Hp)(x:V)(xs:List V)(v:Value)(us:List Value)(Q:VK),Inv X pins σ H s->RelV x v->Vals xs us->r x xs H Q →
  wpAny (model X.prog X.w) X.A (call (.builtin id) (v::us)) (EP X pins σ Q) X.xe s
section
variable {X:Cx} {a b:Expr} {ta tb:TE} {pos:Pos}
theorem IxR.or{r r':R2}(h:IxR X r)(h':IxR X r'):IxR X (fun x y H Q=>r x y H Q∨r' x y H Q):=by
 intro value slice pins s σ H x y v u Q I rx ry q hs
 rcases q with q|q
 ·exact h value slice pins s σ H x y v u Q I rx ry q hs
 ·exact h' value slice pins s σ H x y v u Q I rx ry q hs
theorem MtR.or{id:String}{r r':V->List V->Hp->VK->Prop}(h:MtR X id r)(h':MtR X id r'):MtR X id (fun x xs H Q=>r x xs H Q∨r' x xs H Q):=by
 intro pins s σ H x xs v us Q I rx rs q
 rcases q with q|q
 ·exact h pins s σ H x xs v us Q I rx rs q
 ·exact h' pins s σ H x xs v us Q I rx rs q
theorem pe_ix{r:R2}(hr:IxR X r)(ha:PE X a ta)(hb:PE X b tb)(hs:PlainIx b):PE X (.Subscript a b pos) (tOp r ta tb):=by
 intro pins s σ H Q I h
 exact Subscript_ (binT ha hb I h fun v u s2 x y H2 I2 rx ry q=>hr a b pins s2 σ H2 x y v u Q I2 rx ry q (hs _ _))
def rIxL(K:PySem.W.Frag):R2:=fun x y H Q=>∃p xs i v,x=.ref p/\y=.int i/\SqL K H p xs/\atI xs i=some v/\Q v H
def rIxT(K:PySem.W.Frag):R2:=fun x y H Q=>∃p xs i v,x=.ref p/\y=.int i/\SqT K H p xs/\atI xs i=some v/\Q v H
def rIxS:R2:=fun x y H Q=>∃z i c,x=.str z/\y=.int i/\z.length<=sizeLine/\atI z.cps.toList i=some c/\Q (.str ⟨#[c]⟩) H
theorem ix_list:IxR X (rIxL X.K):=by
 intro value slice pins s σ H x y v u Q I rx ry h hs
 obtain⟨p,xs,i,z,rfl,rfl,hq,he,q⟩:=h
 cases rx
 obtain⟨t,rfl⟩:=ry
 obtain⟨its,r,pl,hz⟩:=I.list hq
 obtain⟨j,h1,h2,h3,h4,h5⟩:=atI_get he
 obtain⟨w,ew,rw'⟩:=r.get h2
 have hl:=r.length
 have hn:=line63
 have fin:EP X pins σ Q w s:=⟨z,H,I,rw',q⟩
 by_cases h0:0<=i
 ·have hj:i.toNat=j:=by
   rw[seqIndex_of h0 h5]at h1
   exact Option.some.inj h1
  exact item_listR pl.isList h0 (by omega) (by rw[hj];simpa using ew) fin hs
 ·have hj:(i + (its.toArray.size:Int)).toNat=j:=by
   rw[seqIndex_neg (by omega) h4]at h1
   rw[List.size_toArray,← hl]
   exact Option.some.inj h1
  exact subscriptTail_builtinR (x:=w) pl.isList.typeIs slot_list_getitem.lookup
   (wpAny_getItem_list_neg (Q:=fun r s'=>r=w/\EP X pins σ Q r s') pl.isList (by omega) (by rw[List.size_toArray]<;>omega) (by omega) (by rw[hj];simpa using ew) ⟨rfl,fin⟩) hs
theorem ix_tup:IxR X (rIxT X.K):=by
 intro value slice pins s σ H x y v u Q I rx ry h hs
 obtain⟨p,xs,i,z,rfl,rfl,hq,he,q⟩:=h
 cases rx
 obtain⟨t,rfl⟩:=ry
 obtain⟨its,r,pl,hz⟩:=I.tuple hq
 obtain⟨j,h1,h2,h3,h4,h5⟩:=atI_get he
 obtain⟨w,ew,rw'⟩:=r.get h2
 have hl:=r.length
 have hn:=line63
 have fin:EP X pins σ Q w s:=⟨z,H,I,rw',q⟩
 exact subscriptTail_builtinR (x:=w) pl.typeIs slot_tuple_getitem.lookup
  (getItem_tuple (j:=j) (Q:=fun r s'=>r=w/\EP X pins σ Q r s') pl (by omega) (by omega) (by rw[List.size_toArray,← hl];exact h1) (by simpa using ew) ⟨rfl,fin⟩) hs
theorem ix_str:IxR X rIxS:=by
 intro value slice pins s σ H x y v u Q I rx ry h hs
 obtain⟨z,i,c,rfl,rfl,hz,he,q⟩:=h
 obtain⟨t,rfl⟩:=rx
 obtain⟨t',rfl⟩:=ry
 obtain⟨j,h1,h2,h3,h4,h5⟩:=atI_get he
 have hl:z.cps.toList.length=z.length:=by simp[Str.length]
 rw[hl]at h1 h4 h5
 have hn:=line63
 exact tail_any (typeIs_str s z t) slot_str_getitem.lookup (getItem_str (c:=c) (by
  have e1:decide (i < -(2 ^ 63:Int))=false:=decide_eq_false (by omega)
  have e2:decide (i ≥ 2 ^ 63)=false:=decide_eq_false (by omega)
  rw[e1,e2,Bool.or_false]) (by rw[h1];simpa using h2) ⟨.str ⟨#[c]⟩,H,I.tok _,⟨_,rfl⟩,q⟩) hs
def rIx(K:PySem.W.Frag):R2:=fun x y H Q=>rIxL K x y H Q∨rIxT K x y H Q∨rIxS x y H Q
theorem ix_seq:IxR X (rIx X.K):=ix_list.or (ix_tup.or ix_str)
theorem Inv.lst{pins:List (Addr×Obj)}{σ:St}{H:Hp}{s:Shared}{p:Addr}{xs:List V}(I:Inv X pins σ H s)(h:H p=some (.lst xs)) :
  ∃(its:List Value) (n:Nat),Vals xs its/\s.heap.get? p=some {cls:=.type "list", data:=.seq its.toArray n}/\xs.length<=sizeLine:=by
 obtain⟨z,its,n,r,e⟩:=I.hok p _ h
 exact⟨its,n,r,e,z⟩
theorem slice_bounds(lo hi:Option Int)(n:Nat):(sliceBounds lo hi none n).1=((HT.sIx n 0 lo:Nat):Int)/\(sliceBounds lo hi none n).2.1=((HT.sIx n n hi:Nat):Int)/\(sliceBounds lo hi none n).2.2=1:=by
 refine⟨?_,?_,rfl⟩
 ·cases lo with
  | none=>simp[sliceBounds,HT.sIx]
  | some i =>
   simp only[sliceBounds,HT.sIx,Option.getD_none,show (1:Int) > 0 by decide,if_true]
   by_cases h:i < 0
   ·simp only[h,if_true]<;>omega
   ·simp only[h,if_false]<;>omega
 ·cases hi with
  | none=>simp[sliceBounds,HT.sIx]
  | some i =>
   simp only[sliceBounds,HT.sIx,Option.getD_none,show (1:Int) > 0 by decide,if_true]
   by_cases h:i < 0
   ·simp only[h,if_true]<;>omega
   ·simp only[h,if_false]<;>omega
theorem slicePick_cut(its:List Value)(lo hi:Option Int):slicePick its.toArray lo hi none=((its.drop (HT.sIx its.length 0 lo)).take (HT.sIx its.length its.length hi - HT.sIx its.length 0 lo)).toArray:=by
 obtain⟨h1,h2,h3⟩:=slice_bounds lo hi its.toArray.size
 unfold slicePick
 rw[h1,h2,h3]
 simp only[sliceRange_one,pick_run,List.size_toArray]<;>rfl
def flatV:V->Bool
 | .non=>true
 | .bl _=>true
 | .int _=>true
 | .str _=>true
 | _=>false
def eqV:V->V->Bool
 | .non,.non=>true
 | .bl a,.bl b=>a==b
 | .bl a,.int b=>(if a then 1 else 0)==b
 | .int a,.bl b=>a==(if b then 1 else 0)
 | .int a,.int b=>a==b
 | .str a,.str b=>a==b
 | _,_=>false
theorem eqAt_V{A:Around}{s:Shared}{y x:V}{u v:Value}(ry:RelV y u)(rx:RelV x v)(fy:flatV y=true)(fx:flatV x=true):SeqAt.EqAt A s u v (eqV y x):=by
 cases y with
 | non =>
  cases ry
  cases x with
  | non=>cases rx;exact SeqAt.EqAt.same _
  | bl b=>cases rx;exact SeqAt.EqAt.none_bool b
  | int b=>obtain⟨t,rfl⟩:=rx;exact SeqAt.EqAt.none_int b t
  | str b=>obtain⟨t,rfl⟩:=rx;exact SeqAt.EqAt.none_str b t
  | _=>exact absurd (show false=true from fx) Bool.false_ne_true
 | bl a =>
  cases ry
  cases x with
  | non=>cases rx;exact SeqAt.EqAt.bool_none a
  | bl b=>cases rx;exact SeqAt.EqAt.bool_bool a b
  | int b=>obtain⟨t,rfl⟩:=rx;exact SeqAt.EqAt.bool_int a b t
  | str b=>obtain⟨t,rfl⟩:=rx;exact SeqAt.EqAt.bool_str a b t
  | _=>exact absurd (show false=true from fx) Bool.false_ne_true
 | int a =>
  obtain⟨t',rfl⟩:=ry
  cases x with
  | non=>cases rx;exact SeqAt.EqAt.int_none a t'
  | bl b=>cases rx;exact SeqAt.EqAt.int_bool a t' b
  | int b=>obtain⟨t,rfl⟩:=rx;exact SeqAt.EqAt.int_int a t' b t
  | str b=>obtain⟨t,rfl⟩:=rx;exact SeqAt.EqAt.int_str a t' b t
  | _=>exact absurd (show false=true from fx) Bool.false_ne_true
 | str a =>
  obtain⟨t',rfl⟩:=ry
  cases x with
  | non=>cases rx;exact SeqAt.EqAt.str_none a t'
  | bl b=>cases rx;exact SeqAt.EqAt.str_bool a t' b
  | int b=>obtain⟨t,rfl⟩:=rx;exact SeqAt.EqAt.str_int a t' b t
  | str b=>obtain⟨t,rfl⟩:=rx;exact SeqAt.EqAt.str_str a t' b t
  | _=>exact absurd (show false=true from fx) Bool.false_ne_true
 | _=>exact absurd (show false=true from fy) Bool.false_ne_true
def eqU(x:V)(u:Value):Bool:=match u with
 | .none=>eqV .non x
 | .bool b=>eqV (.bl b) x
 | .int i _=>eqV (.int i) x
 | .str z _=>eqV (.str z) x
 | _=>false
theorem eqU_of{x y:V}{u:Value}(r:RelV y u)(f:flatV y=true):eqU x u=eqV y x:=by
 cases y with
 | non=>cases r;rfl
 | bl b=>cases r;rfl
 | int i=>obtain⟨t,rfl⟩:=r;rfl
 | str z=>obtain⟨t,rfl⟩:=r;rfl
 | _=>exact absurd (show false=true from f) Bool.false_ne_true
theorem any_eqU{x:V}:∀{xs:List V}{us:List Value},Vals xs us->xs.all flatV=true->us.any (eqU x)=xs.any fun y=>eqV y x
 | _,_,.nil,_=>rfl
 | y::xs,u::us,.cons r t,f=>by
  rw[List.all_cons,Bool.and_eq_true]at f
  rw[List.any_cons,List.any_cons,eqU_of r f.1,any_eqU t f.2]
theorem mem_eqAt{A:Around}{s:Shared}{x:V}{v:Value}(rx:RelV x v)(fx:flatV x=true):∀{xs:List V}{us:List Value},Vals xs us->xs.all flatV=true->∀u∈us,SeqAt.EqAt A s u v (eqU x u)
 | _,_,.nil,_=>fun u hu=>by cases hu
 | y::xs,u::us,.cons r t,f=>fun u' hu=>by
  rw[List.all_cons,Bool.and_eq_true]at f
  rcases List.mem_cons.mp hu with rfl|hu
  ·rw[eqU_of r f.1];exact eqAt_V r rx f.1 fx
  ·exact mem_eqAt rx fx t f.2 u' hu
def inV(x:V)(xs:List V):Bool:=xs.any fun y=>eqV y x
def rIn(K:PySem.W.Frag)(neg:Bool):R2:=fun x y H Q=>∃p xs,y=.ref p/\(SqL K H p xs∨SqT K H p xs)/\flatV x=true/\xs.all flatV=true/\Q (.bl (if neg then !inV x xs else inV x xs)) H
theorem op_in_seq:OpR X (compareOp .In) (rIn X.K false):=by
 intro pins s σ H x y v u Q I rx ry h
 obtain⟨p,xs,rfl,hq,fx,fs,q⟩:=h
 cases ry
 rcases hq with hq|hq
 ·obtain⟨its,r,pl,hz⟩:=I.list hq
  refine SeqAt.in_listAt (eqU x) pl.isList (fun w hw=>mem_eqAt rx fx r fs w (by simpa using hw)) ⟨.bl _,H,I,rfl,?_⟩
  rw[show its.toArray.any (eqU x)=its.any (eqU x) by simp,any_eqU r fs]
  exact q
 ·obtain⟨its,r,pl,hz⟩:=I.tuple hq
  refine SeqAt.in_tupleAt (eqU x) pl (fun w hw=>mem_eqAt rx fx r fs w (by simpa using hw)) ⟨.bl _,H,I,rfl,?_⟩
  rw[show its.toArray.any (eqU x)=its.any (eqU x) by simp,any_eqU r fs]
  exact q
theorem op_notIn_seq:OpR X (compareOp .NotIn) (rIn X.K true):=by
 intro pins s σ H x y v u Q I rx ry h
 obtain⟨p,xs,rfl,hq,fx,fs,q⟩:=h
 cases ry
 rcases hq with hq|hq
 ·obtain⟨its,r,pl,hz⟩:=I.list hq
  refine SeqAt.notIn_listAt (eqU x) pl.isList (fun w hw=>mem_eqAt rx fx r fs w (by simpa using hw)) ⟨.bl _,H,I,rfl,?_⟩
  rw[show its.toArray.any (eqU x)=its.any (eqU x) by simp,any_eqU r fs]
  exact q
 ·obtain⟨its,r,pl,hz⟩:=I.tuple hq
  refine SeqAt.notIn_tupleAt (eqU x) pl (fun w hw=>mem_eqAt rx fx r fs w (by simpa using hw)) ⟨.bl _,H,I,rfl,?_⟩
  rw[show its.toArray.any (eqU x)=its.any (eqU x) by simp,any_eqU r fs]
  exact q
theorem call_len_seq:CallR X (.builtin "len") (fun xs H Q=>∃p ys,xs=[.ref p]/\(SqL X.K H p ys∨SqT X.K H p ys)/\Q (.int ys.length) H):=by
 intro pins s σ H xs us Q I r h
 obtain⟨p,ys,rfl,hq,q⟩:=h
 obtain⟨u,rfl,rx⟩:=vals1 r
 cases rx
 have hn:=line63
 rcases hq with hq|hq
 ·obtain⟨its,r',pl,hz⟩:=I.list hq
  have hlen:=r'.length
  exact Calls.call_len_list pl.isList (by simp only[List.size_toArray]<;>omega) ⟨.int ys.length,H,I.tok _,⟨s.toks + 1,by rw[List.size_toArray,hlen]⟩,q⟩
 ·obtain⟨its,r',pl,hz⟩:=I.tuple hq
  have hlen:=r'.length
  exact len_tuple pl (by simp only[List.size_toArray]<;>omega) ⟨.int ys.length,H,I.tok _,⟨s.toks + 1,by rw[List.size_toArray,hlen]⟩,q⟩
theorem call_len_str:CallR X (.builtin "len") (fun xs H Q=>∃z,xs=[.str z]/\z.length<=sizeLine/\Q (.int z.length) H):=by
 intro pins s σ H xs us Q I r h
 obtain⟨z,rfl,hz,q⟩:=h
 obtain⟨u,rfl,t,rfl⟩:=vals1 r
 have hn:=line63
 exact len_str (by omega) ⟨.int z.length,H,I.tok _,⟨_,rfl⟩,q⟩
theorem CallR.or{f:Value}{r r':List V->Hp->VK->Prop}(h:CallR X f r)(h':CallR X f r'):CallR X f (fun xs H Q=>r xs H Q∨r' xs H Q):=by
 intro pins s σ H xs us Q I rs q
 rcases q with q|q
 ·exact h pins s σ H xs us Q I rs q
 ·exact h' pins s σ H xs us Q I rs q
theorem call_list_of:CallR X (.type "list") (fun xs H Q=>∃p ys,xs=[.ref p]/\(SqL X.K H p ys∨SqT X.K H p ys)/\∀l,H l=none->Q (.ref l) (upd H l (.lst ys))):=by
 intro pins s σ H xs us Q I r h
 obtain⟨p,ys,rfl,hq,q⟩:=h
 obtain⟨u,rfl,rx⟩:=vals1 r
 cases rx
 have fin:∀(its:List Value),Vals ys its->ys.length<=sizeLine->∀(h':Heap)(c':Nat),(∀b o',s.heap.get? b=some o'->h'.get? b=some o') →
   h'.get? s.heap.objs.size=some {cls:=.type "list", dict:=none,data:=.seq its.toArray c',slots:=#[]}->EP X pins σ Q (.ref s.heap.objs.size) {s with heap:=h' }:=fun its r' hz h' c' kp e =>
  ⟨.ref s.heap.objs.size,_,I.laid (t':=s.toks) kp (Nat.le_refl _) (show ObjOk X.prog X.w _ h' _ (.lst ys) from ⟨hz,its,c',r',e⟩),rfl,q _ (I.hok.fresh (Nat.le_refl _))⟩
 rcases hq with hq|hq
 ·obtain⟨its,r',pl,hz⟩:=I.list hq
  have hlen:=r'.length
  obtain⟨o,ho,hc,n,hd⟩:=pl.isList
  exact call_list_seq p (.inl rfl) ho hc hd (fun h' c' kp e=>fin its r' hz h' c' kp e) (by simp only[List.size_toArray]<;>omega)
 ·obtain⟨its,r',pl,hz⟩:=I.tuple hq
  have hlen:=r'.length
  obtain⟨o,ho,hc,n,hd⟩:=pl
  exact call_list_seq p (.inr rfl) ho hc hd (fun h' c' kp e=>fin its r' hz h' c' kp e) (by simp only[List.size_toArray]<;>omega)
theorem call_tuple_of:CallR X (.type "tuple") (fun xs H Q=>∃p ys,xs=[.ref p]/\((SqL X.K H p ys/\∀l,H l=none->Q (.ref l) (upd H l (.tup ys)))∨(SqT X.K H p ys/\Q (.ref p) H))):=by
 intro pins s σ H xs us Q I r h
 obtain⟨p,ys,rfl,h⟩:=h
 obtain⟨u,rfl,rx⟩:=vals1 r
 cases rx
 rcases h with ⟨hq,q⟩|⟨hq,q⟩
 ·obtain⟨its,r',pl,hz⟩:=I.list hq
  have hlen:=r'.length
  refine call_tuple_list pl.isList (fun h' kp=>?_) (by simp only[List.size_toArray]<;>omega)
  have I1:Inv X pins σ H {s with heap:=h' }:=I.kept (t':=s.toks) kp
  have I2:Inv X pins σ (upd H h'.objs.size (.tup ys)) {s with heap:=h'.push {cls:=.type "tuple", data:=.seq its.toArray} } :=
   I1.laid (t':=s.toks) (fun b o e=>Heap.get?_push_of_some _ e) (Nat.le_refl _) (show ObjOk X.prog X.w _ _ _ (.tup ys) from ⟨hz,its,r',IsTup.new _ _⟩)
  exact⟨.ref h'.objs.size,_,I2,rfl,q _ (I1.hok.fresh (Nat.le_refl _))⟩
 ·obtain⟨its,r',pl,hz⟩:=I.tuple hq
  exact call_tuple_same pl ⟨.ref p,H,I,rfl,q⟩
def tyV(K:PySem.W.Frag)(T:String)(x:V)(H:Hp):Prop:=match x with
 | .str _=>T = "str"
 | .int _=>T = "int"
 | .ref p=>(T = "list" /\ ∃xs,SqL K H p xs)∨(T = "tuple" /\ ∃o,K.lookup p=some o/\o.cls=.type "tuple" /\ o.dict=none) ∨
   (T = "dict" /\ ((∃kvs,H p=some (.dK kvs))∨∃kvs,H p=some (.dT kvs)))∨(T = "set" /\ ∃S n,H p=some (.set S n))
 | _=>False
theorem tyV_is{pins:List (Addr×Obj)}{σ:St}{H:Hp}{s:Shared}{T:String}{x:V}{v:Value}(I:Inv X pins σ H s)(r:RelV x v)(ty:tyV X.K T x H) :
  s.TypeIs v T/\∀a,v=.ref a->∃ob,s.heap.get? a=some ob/\ob.dict=none:=by
 cases x with
 | str z =>
  obtain⟨t,rfl⟩:=r
  cases (show T = "str" from ty)
  exact⟨typeIs_str s z t,fun _ e=>nomatch e⟩
 | int i =>
  obtain⟨t,rfl⟩:=r
  cases (show T = "int" from ty)
  exact⟨typeIs_int s i t,fun _ e=>nomatch e⟩
 | ref p =>
  cases r
  rcases ty with ⟨rfl,xs,hq⟩|⟨rfl,o,hk,hc,hd⟩|⟨rfl,hk⟩|⟨rfl,S,n,hk⟩
  ·obtain⟨its,_,pl,_⟩:=I.list hq
   refine⟨pl.isList.typeIs,fun a e=>?_⟩
   cases e
   obtain⟨o,n,e,c,hd,_⟩:=pl
   exact⟨o,e,hd⟩
  ·refine⟨⟨o,I.kIn p o hk,hc⟩,fun a e=>?_⟩
   cases e
   exact⟨o,I.kIn _ o hk,hd⟩
  ·have z:∃o,s.heap.get? p=some o/\o.ExactDict:=by
    rcases hk with ⟨kvs,hk⟩|⟨kvs,hk⟩
    ·obtain⟨_,_,_,_,o,_,_,e,ex,_⟩:=I.hok p _ hk
     exact⟨o,e,ex⟩
    ·obtain⟨_,_,_,_,o,_,_,e,ex,_⟩:=I.hok p _ hk
     exact⟨o,e,ex⟩
   obtain⟨o,e,ex⟩:=z
   refine⟨⟨o,e,ex.1⟩,fun a e2=>?_⟩
   cases e2
   exact⟨o,e,ex.2.1⟩
  ·obtain⟨o,_,_,_,e,ex,_⟩:=I.hok p _ hk
   refine⟨⟨o,e,ex.1⟩,fun a e2=>?_⟩
   cases e2
   exact⟨o,e,ex.2.1⟩
 | _=>exact False.elim ty
def tBM(K:PySem.W.Frag)(T:String)(r:V->List V->Hp->VK->Prop)(to:TE)(t:TA):TE:=fun σ H Q=>to σ H fun x H1=>tyV K T x H1/\t σ H1 fun xs H2=>r x xs H2 Q
variable {o e:Expr} {es:List Expr} {to:TE} {t:TA} {name:Str} {apos cpos:Pos} {T id:String} {r:V->List V->Hp->VK->Prop}
theorem pe_bm(pa:PlainAttrs T)(slot:Slot T name id) (hty:typeOf (.builtin id)=pure (.type "method_descriptor")) (hm:MtR X id r) (ho:PE X o to) (ha:PA X (e::es) t)
  (hbase:attributeBase o name X.env (eval o X.env)=eval o X.env:=by rfl)
  (hfew:((backTo cpos (starEach (e::es) X.env)).all (fun x=>!x.1)&&(backToKw cpos (keywordEach [] X.env)).all (fun x=>x.1.isSome)
   && decide ((e::es).length + ([]:List Keyword).length + (if ([]:List Keyword).isEmpty then 0 else 1) < 30))=true:=by rfl)
  (hline:(apos.endLine==cpos.line)=true:=by rfl) (hs:starEach (e::es) X.env=(false,eval e X.env)::starEach es X.env:=by rfl) (hplain:(backTo cpos (starEach es X.env)).any (·.1)=false:=by rfl) :
  PE X (.Call (.Attribute o name apos) (e::es) [] cpos) (tBM X.K T r to t):=by
 intro pins s σ H Q I h
 refine wpAny_Call_method_late hbase hfew hline rfl (thn (ho pins s σ H _ I h) fun v s1 ⟨x,H1,I1,r1,ty,q1⟩=>?_)
 obtain⟨h1,h2⟩:=tyV_is I1 r1 ty
 refine⟨T,id,pa,slot,hty,h1,h2,?_⟩
 have hA:=ha cpos pins s1 σ H1 _ I1 q1
 rw[hs]at hA ⊢
 refine Calls.callWith_builtin (by show (false||(backTo cpos (starEach es X.env)).any (·.1))=false;rw[hplain]<;>rfl) (Calls.evalArgs_plain ?_)
 exact thn hA fun us s2 ⟨vs,H2,I2,r2,q2⟩=>hm pins s2 σ H2 x vs v us Q I2 r1 r2 q2
end
end L2
namespace L2
open PySem PySem.Spec PyProof.Rows
def MtM(X:Cx)(id:String)(r:V->List V->Hp->VK->Prop):Prop :=
 ∀(pins:List (Addr×Obj))(s:Shared)(σ:St)(H:Hp)(x:V)(xs:List V)(v:Value)(us:List Value)(Q:VK),Inv X pins σ H s->RelV x v->Vals xs us->r x xs H Q →
  wpAny (model X.prog X.w) X.A (call (.builtin id) (v::us)) (EP X pins σ Q) X.xe s
theorem Vals.one:∀{x:V}{us:List Value},Vals [x] us->∃u,us=[u]/\RelV x u
 | _,_,.cons r .nil=>⟨_,rfl,r⟩
theorem Vals.two:∀{x y:V}{us:List Value},Vals [x,y] us->∃u v,us=[u,v]/\RelV x u/\RelV y v
 | _,_,_,.cons r (.cons q .nil)=>⟨_,_,rfl,r,q⟩
theorem Vals.dropLast{xs:List V}{us:List Value}(h:Vals xs us):Vals xs.dropLast us.dropLast:=by
 induction h with
 | nil=>exact .nil
 | cons r t ih =>
  cases t with
  | nil=>exact .nil
  | cons q t'=>exact .cons r ih
theorem Vals.reverse{xs:List V}{us:List Value}(h:Vals xs us):Vals xs.reverse us.reverse:=by
 induction h with
 | nil=>exact .nil
 | cons r t ih=>rw[List.reverse_cons,List.reverse_cons];exact Vals.append ih (.cons r .nil)
section
variable {X:Cx} {pins:List (Addr×Obj)} {σ:St} {H:Hp} {s:Shared} {l b:Addr} {xs ys zs:List V}
theorem Inv.lset{its its':List Value}{n:Nat}{f:Array Value->Array Value}{t':Nat}(I:Inv X pins σ H s)(hH:H l=some (.lst xs))
  (e:s.heap.get? l=some {cls:=.type "list", data:=.seq its.toArray n}) (hf:f its.toArray=its'.toArray) (hv:Vals ys its') (hz:ys.length<=sizeLine) :
  Inv X pins σ (upd H l (.lst ys)) {s with heap:=s.heap.update l (Obj.mapSeq f),toks:=t' }:=by
 have q:=PySem.IsL.update e f
 rw[hf]at q
 refine I.write (x:=l) (e:=l) (by rw[hH];exact trivial) (.inl rfl) (fun b' u hb hu=>(Heap.get?_update_other s.heap (Obj.mapSeq f) (Ne.symm hb)).trans hu) ⟨_,q⟩ ?_
 exact⟨hz,its',_,hv,q⟩
theorem Inv.fresh(I:Inv X pins σ H s):H s.heap.objs.size=none:=I.hok.fresh (Nat.le_refl _)
theorem Inv.lstM(I:Inv X pins σ H s)(hH:H l=some (.lst xs)):xs.length<=sizeLine/\∃(its:List Value) (n:Nat),Vals xs its/\xs.length=its.length/\s.heap.get? l=some {cls:=.type "list", data:=.seq its.toArray n}:=by
 obtain⟨z,its,n,r,e⟩:=I.hok l _ hH
 exact⟨z,its,n,r,r.length,e⟩
end
section
variable {X:Cx}
def rAppend:V->List V->Hp->VK->Prop:=fun x vs H Q=>∃l xs y,x=.ref l/\vs=[y]/\H l=some (.lst xs)/\xs.length < sizeLine/\Q .non (upd H l (.lst (xs++[y])))
theorem mt_append:MtM X "list.append" rAppend:=by
 intro pins s σ H x vs v us Q I rx rv h
 obtain⟨l,xs,y,rfl,rfl,hH,hz,q⟩:=h
 cases rx
 obtain⟨u,rfl,ru⟩:=rv.one
 obtain⟨z,its,n,r,hl,e⟩:=I.lstM hH
 refine call_meets F.slot_list_append ⟨_,e,rfl⟩ F.entry_list_append (F.args_list_append_2 _ _) (PySem.list_append l its.toArray n u (by rw[List.size_toArray];omega)) ⟨e,?_⟩
 refine⟨.non,_,I.lset (its':=its++[u]) hH e (by simp) (r.append (.cons ru .nil)) ?_,rfl,q⟩
 rw[List.length_append,List.length_singleton]
 omega
end
section
variable {prog:Program} {w:World} {A:Around} {E:Value->Shared->Prop} {s:Shared}
end
section
variable {X:Cx}
end
end L2
namespace Att
open PySem PySem.W PySem.Calls PyProof.Rows
theorem ints_of_wellAll{P:Params}{h:Heap}:∀(ns:List Int)(vs:List Value),WellAll P h vs (ns.map WData.int)->IntsAre vs ns:=by
 intro ns
 induction ns with
 | nil =>
  intro vs w
  rw[List.map_nil]at w
  cases w
  exact .nil
 | cons n ns ih =>
  intro vs w
  rw[List.map_cons]at w
  cases w with
  | cons a b =>
   cases a
   exact .cons _ _ (ih _ b)
theorem script_of{l:OpenLaw}{n:Nat}(hn:l.most=some n){P:Params}{h:Heap}{args:List WData}{vals:List Value}
  (hpre:l.row.toRowW.claim.pre args=true) (hwl:WellAll P h vals args) :
  ∃a vs ns,vals=[Value.ref a]/\args=[WData.list (ns.map WData.int)]/\h.get? a=some {cls:=.type "list", data:=.seq vs.toArray}/\IntsAre vs ns/\ns.length<=n:=by
 have hsh:WShape.hasAll [] args [.list .int]=true:=(pre_splitW hpre).1
 have hc:l.pre.holds [] {args:=args}=true:=(pre_splitW hpre).2
 obtain⟨d,r,rfl,h1,h2⟩:=hasAllW_cons hsh
 obtain rfl:=hasAllW_nil h2
 obtain⟨xs,rfl,h3⟩:=hasW_list h1
 obtain⟨ns,rfl⟩:=items_int h3
 have hlen:ns.length<=n:=by
  unfold OpenLaw.pre at hc
  have h4:(WTm.not (.lt (.lit (.int (n:Int))) (.len (.arg 0)))).holds [] {args:=[.list (ns.map .int)]}=true:=by
   have h4:=(holds_andW hc).1
   rw[hn]at h4
   exact h4
  have h5:=condW_of h4 (w_not (w_lt w_lit (w_len_list (w_arg rfl))))
  rw[List.length_map]at h5
  refine Nat.le_of_not_lt fun q=>?_
  have q':(n:Int) < ((ns.length:Nat):Int):=by omega
  first
   | (rw[decide_eq_true q']at h5;exact absurd h5 (by decide))
   | (simp at h5;omega)
 cases hwl with
 | cons w1 w2 =>
  cases w2
  cases w1 with
  | list ho hall=>exact⟨_,_,ns,rfl,rfl,ho,ints_of_wellAll ns _ hall,hlen⟩
theorem post_true(l:OpenLaw)(args:List WData):l.row.toRowW.claim.post args (.bool true) args=true :=
 postW_of (r:=l.row.toRowW) (X:=(true==true))
  (show WShape.has [] (.bool true) .bool=true by first|rfl|decide|simp[WShape.has,WShape.arms,WShape.armsAll])
  (show (WTm.eq .res (.lit (.bool true))).value [] {args:=args,res:=some (.bool true),after:=args}=some (.bool (true==true)) from w_eq_bool (w_res rfl) w_lit) rfl
theorem attach_call{l:OpenLaw}{n:Nat}{q:Program}{loose:List Str}{XP:(Str->Option Value)->Heap->Prop}{YP:World->Heap->Prop}{d:DefRec}
  (hn:l.most=some n) (hdf:d.params.defaults=[])
  (call:∀(w:World)(s₀ s₁:Shared)(mg mb:Str->Option Value)(fa:Addr)(o:Obj)(pm cd doc:Value)(a:Addr)(vs:List Value)(ns:List Int),
   Ground q loose [] XP w s₀ mg mb s₁.heap->YP w s₁.heap →
   s₁.heap.get? fa=some o->o.data=.func (docDef d.name d.params d.body d.scope pm cd doc)->s₁.heap.CodeRec cd d.name->mg d.name=some (.ref fa) →
   s₁.heap.get? a=some {cls:=.type "list", data:=.seq vs.toArray}->IntsAre vs ns->ns.length<=n->s₁.gens=#[] →
   codeAny (model l.prog w) callerA (.call (.ref fa) ⟨[.ref a],[]⟩) (fun r s'=>r=.ok (.ret (.bool true))/\OldK s₁.heap s'.heap/\s'.os=s₁.os/\AllBare s'.gens) s₁) :
  WalkO q loose XP YP l.row.toRowW d [] (fun f vs=>PySem.call f vs):=by
 intro w s₀ s₁ mg mb G Y fa o pm cd doc dV kV ho hd hcd hD hmg hg args vals as hpre hlay hrd hwl hlo
 obtain rfl:dV=.none:=Dflts.none hD hdf
 obtain rfl:kV=.none:=Dflts.noKw hD
 obtain⟨a,vs,ns,rfl,rfl,hobj,hints,hlen⟩:=script_of hn hpre hwl
 refine enter_call (codeAny_mono (call w s₀ s₁ mg mb fa o pm cd doc a vs ns G Y ho (fd_plain hd) hcd hmg hobj hints hlen hg) fun r s' hq=>?_)
 obtain⟨rfl,h2,h3,h4⟩:=hq
 exact⟨.inl ⟨.bool true,.bool true,[],rfl,fun _=>rfl,.bool true,post_true l _,fun _=>⟨List.Pairwise.nil,fun _ hm=>(nomatch hm)⟩⟩,h2,h3,h4⟩
section
variable {prog:Program} {w:World} {A:Around} {E:Value->Shared->Prop} {s:Shared} {K:Frag}
def ledger(h:Heap)(L d:Addr):List (Addr×Obj):=(List.range h.objs.size).filterMap fun a=>if a=L∨a=d then none else (h.get? a).map fun o=>(a,o)
end
end Att
namespace L2
open PySem PySem.Spec PyProof.Rows
theorem vals_ints:∀{vs:List Value}{ns:List Int},IntsAre vs ns->Vals (ns.map V.int) vs
 | _,_,.nil=>.nil
 | _,_,.cons n t h=>.cons ⟨t,rfl⟩ (vals_ints h)
def Only(H:Hp):Prop:=∀b,H b=none∨∃o xs,H b=some (.frz o (.lst xs))
theorem law_call{P:Program}{w:World}{K:PySem.W.Frag}{mg mb:Str->Option Value}{CX:CXT}{k:Nat}{fa a:Addr}{fd:FuncData}{x:Str}{sp:Sp}{s₁:Shared}{vs:List Value}{ns:List Int}
  (KX:K.In s₁.heap) (hns:s₁.heap.Ns mainGlobals mg) (hb:s₁.heap.Ns builtinsNs mb) (hbb:∀x:Str,x ≠ "__name__" -> mb x=bootBuiltins x) (hlim:s₁.heap.NoLimit) (hg:s₁.gens=#[])
  (ha:s₁.heap.get? a=some {cls:=.type "list", data:=.seq vs.toArray}) (hi:IntsAre vs ns) (hl:ns.length<=sizeLine) (hr:Room k callerA)
  (F:∀base:Heap,K.In base->base.Ns mainGlobals mg->FnOk P w K mg base CX k fa fd [x] sp) (hbind:∀(s:Shared)(u:Value),BindsTo s fd ⟨[u],[]⟩ [(x,u)])
  (hsp:∀H:Hp,Only H->SqL K H a (ns.map V.int)->sp [.ref a] H (fun v _=>v=.bl true) fun _ _ _=>False)
  (hCX:∀H e s',CX [] H s₁ (fun _ _ _=>False) e s'->False) :
  codeAny (model P w) callerA (.call (.ref fa) ⟨[.ref a],[]⟩) (fun r s'=>r=.ok (.ret (.bool true))/\OldK s₁.heap s'.heap/\s'.os=s₁.os/\AllBare s'.gens) s₁:=by
 have rv:=vals_ints hi
 have lenV:=hi.length
 have core:∀H:Hp,Only H->SqL K H a (ns.map V.int)->HOk P w H s₁.heap->(∀b,H b≠none->b=a)->(H a≠none->K.lookup a=none) →
   codeAny (model P w) callerA (.call (.ref fa) ⟨[.ref a],[]⟩) (fun r s'=>r=.ok (.ret (.bool true))/\OldK s₁.heap s'.heap/\s'.os=s₁.os/\AllBare s'.gens) s₁:=by
  intro H hO hS hok hA hK
  have base_of:∀{b:Addr}{o:Obj},s₁.heap.get? b=some o->H b=none->(hidT s₁.heap H).get? b=some o:=fun e n=>hidT_get e n
  have noA:∀{b:Addr}{o:Obj}{es:Array DictEntry}{ep:Nat},s₁.heap.get? b=some o->o.data=.dict es ep->H b=none:=fun {b o es ep} e d=>by
   cases q:H b with
   | none=>rfl
   | some u =>
    have e':b=a:=hA b (by rw[q];simp)
    subst e'
    rw[ha]at e;cases e
    have d':Data.seq vs.toArray _=Data.dict es ep:=d
    cases d'
  have nsK:∀{b:Addr}{m:Str->Option Value},s₁.heap.Ns b m->(hidT s₁.heap H).Ns b m:=fun {b m} ⟨o,es,ep,e,d,r⟩=>⟨o,es,ep,base_of e (noA e d),d,r⟩
  have hKb:K.In (hidT s₁.heap H):=fun b o e=>base_of (KX b o e) (by
   cases q:H b with
   | none=>rfl
   | some u =>
    have e':b=a:=hA b (by rw[q];simp)
    subst e'
    rw[hK (by rw[q];simp)]at e;cases e)
  have hM:Mod K mg (hidT s₁.heap H):=⟨hKb,nsK hns,⟨mb,nsK hb,hbb⟩,let ⟨mc,h1,h2⟩:=hlim;⟨mc,nsK h1,h2⟩⟩
  have e0:Env0 P w K mg (hidT s₁.heap H) callerA [] s₁ H:=⟨rfl,hM,fun b o e=>of_hidT e,Nat.le_of_eq (hidT_size _ _),trivial,fun b hb=>absurd (show b∈([]:List Addr) from hb) (by simp),hok,.of_eq hg⟩
  refine codeAny_mono ((F _ hKb (nsK hns)).run callerA [] s₁ H ⟨[.ref a],[]⟩ [.ref a] [.ref a] _ _ hr e0 (hbind s₁ (.ref a)) (.cons rfl .nil) (hsp H hO hS)) fun r s' h=>?_
  cases r with
  | error e=>exact(hCX H e s' h).elim
  | ok fl =>
   cases fl with
   | next=>exact False.elim h
   | brk=>exact False.elim h
   | cont=>exact False.elim h
   | ret u =>
    obtain⟨v,H',os,bare,un,hok',r',q⟩:=h
    have q':v=.bl true:=q
    subst q'
    obtain rfl:u=Value.bool true:=r'
    refine⟨rfl,OldK.of_keep fun b o e=>?_,os,bare⟩
    cases q:H b with
    | none=>exact un.keep b o e q (by intro z;exact absurd (show b∈([]:List Addr) from z) (by simp)) (by simp)
    | some u =>
     rcases hO b with z|⟨ob,xs,z⟩
     ·rw[q]at z;cases z
     ·have z2:=un.frzs b ob _ z
      obtain⟨e1,_⟩:=hok b _ z
      obtain⟨e2,_⟩:=hok' b _ z2
      rw[e]at e1;cases e1
      exact e2
 cases hk:K.lookup a with
 | some o =>
  have e:=KX a o hk
  rw[ha]at e
  cases e
  refine core (fun _=>none) (fun _=>.inl rfl) (.inr ⟨_,vs.toArray,_,hk,rfl,rfl,rfl,by rw[List.size_toArray,lenV];exact hl,by simpa using rv⟩) (fun b u z=>by have z':(none:Option HO)=some u:=z;cases z') (fun b z=>absurd rfl z) fun z=>absurd rfl z
 | none =>
  refine core (fun b=>if b=a then some (.frz {cls:=.type "list", data:=.seq vs.toArray} (.lst (ns.map V.int))) else none) (fun b=>?_) (.inl (.inr ⟨{cls:=.type "list", data:=.seq vs.toArray},if_pos rfl⟩)) (fun b u z=>?_) (fun b z=>?_) fun _=>hk
  ·by_cases hb:b=a
   ·exact .inr ⟨_,_,if_pos hb⟩
   ·exact .inl (if_neg hb)
  ·by_cases hb:b=a
   ·have z':=(if_pos hb).symm.trans z
    cases z'
    subst hb
    exact⟨ha,by rw[List.length_map];exact hl,vs,_,rv,ha⟩
   ·have z':=(if_neg hb).symm.trans z
    cases z'
  ·by_cases hb:b=a
   ·exact hb
   ·exact absurd (if_neg hb) z
end L2
namespace L2
open PySem PySem.Spec PyProof.Rows
abbrev KOf{K:PySem.W.Frag}{h:Heap}(_:K.In h):PySem.W.Frag:=K
theorem walk_of{l:PySem.W.OpenLaw}{n k:Nat}{q:Program}{loose:List Str}{XP:(Str->Option Value)->Heap->Prop}{YP:World->Heap->Prop}{d:DefRec}{K:Params->PySem.W.Frag}{CX:World->CXT}{sp:World->Sp}{x:Str}
  (hn:l.most=some n) (hn2:n<=sizeLine) (hdf:d.params.defaults=[]) (hr:Room k callerA)
  (hY:∀(w:World)(h:Heap),YP w h->(K w.params).In h)
  (F:∀(w:World)(mg:Str->Option Value)(fa:Addr)(h:Heap),(K w.params).In h->h.Ns mainGlobals mg->mg d.name=some (.ref fa) →
   ∃fd:FuncData,(∀(s:Shared)(u:Value),BindsTo s fd ⟨[u],[]⟩ [(x,u)]) ∧
    ∀base:Heap,(K w.params).In base->base.Ns mainGlobals mg->FnOk l.prog w (K w.params) mg base (CX w) k fa fd [x] (sp w))
  (hsp:∀(w:World)(H:Hp)(a:Addr)(ns:List Int),ns.length<=n->Only H->SqL (K w.params) H a (ns.map V.int)->sp w [.ref a] H (fun v _=>v=.bl true) fun _ _ _=>False)
  (hCX:∀(w:World)(H:Hp)(s:Shared)(e:Value)(s':Shared),CX w [] H s (fun _ _ _=>False) e s'->False) :
  PySem.W.WalkO q loose XP YP l.row.toRowW d [] (fun f vs=>PySem.call f vs):=by
 refine Att.attach_call hn hdf fun w s₀ s₁ mg mb fa o pm cd doc a vs ns G Y ho hd hcd hmg hobj hints hlen hg=>?_
 have KX:=hY w _ Y
 obtain⟨fd,hb,hF⟩:=F w mg fa _ KX G.T.g hmg
 exact law_call KX G.T.g G.T.b G.T.builtins G.T.nolimit hg hobj hints (Nat.le_trans hlen hn2) hr hF hb (fun H hO hS=>hsp w H a ns hlen hO hS) fun H e s'=>hCX w H s₁ e s'
end L2
namespace L2
open PySem PySem.Spec PyProof.Rows
def defArgs(s:Stmt):Arguments:=match s with
 | .FunctionDef _ a _ _ _ _ _ _ _ _=>a
 | _=>{posonlyargs:=[],args:=[],vararg:=none,kwonlyargs:=[],kw_defaults:=[],kwarg:=none,defaults:=[]}
def defBody(s:Stmt):List Stmt:=match s with
 | .FunctionDef _ _ b _ _ _ _ _ _ _=>b
 | _=>[]
def defScope(s:Stmt):Scope:=match s with
 | .FunctionDef _ _ _ _ _ _ sc _ _ _=>sc
 | _=>{kind:=.function,names:=[],isGenerator:=false,isCoroutine:=false}
abbrev CX0:CXT:=fun _ _ _ _ _ _=>False
abbrev E0:XK:=fun _ _ _=>False
theorem pass0{X:Cx}:Passes CX0 X E0:=fun _ _ _ _ _ _ _ h=>h.elim
structure Fun(K:PySem.W.Frag)(x qual:Str)(st:Stmt)(f:Addr)(fd:FuncData):Prop where
 ex:∃(oc:Value) (od:Option Addr) (kV doc pm:Value) (an:Option Addr) (cdv ct:Value) (osl:Array (Option Value)),
  fd=PySem.W.fnOf x qual (defArgs st) (defBody st) (defScope st) .none kV doc pm an cdv ct/\K.lookup f=some ⟨oc,od,.func fd,osl⟩/\PySem.W.codeIn K cdv qual=true
 kp:PySem.W.keepIn K (.ref f)=true
section
variable {P:Program} {w:World} {K:PySem.W.Frag} {mg:Str->Option Value} {base:Heap}
theorem Fun.ok{x qual:Str}{st:Stmt}{f:Addr}{fd:FuncData}{N ps:List Str}{k:Nat}{sp:Sp}(F:Fun K x qual st f fd)(S:FnScope N ps (defScope st))(len:∀vs H Q E,sp vs H Q E->vs.length=ps.length)
  (hbody:∀(cdv:Value)(A:Around)(outer:List Env)(s:Shared)(H:Hp)(vs:List V)(Q:VK)(E:XK),Room k (A.deeper (envOfC qual (defScope st) s.heap.objs.size f cdv))->sp vs H Q E →
   ∃t,PSs (cxOf CX0 P w K mg base N qual (defScope st) f cdv A outer s H E).nox (defBody st) t/\t {nx:=fun _ H'=>Q .non H',rt:=Q} (start N vs) H):FnOk P w K mg base CX0 (k + 1) f fd ps sp:=by
 obtain⟨oc,od,kV,doc,pm,an,cdv,ct,osl,rfl,lk,hcd⟩:=F.ex
 refine fn_of lk hcd S len fun A outer s H vs Q E hr hsp=>?_
 obtain⟨t,h,q⟩:=hbody cdv A outer s H vs Q E hr hsp
 exact⟨t,h.nox,q⟩
theorem Fun.binds{x qual:Str}{st:Stmt}{f:Addr}{fd:FuncData}{ps:List Str}(F:Fun K x qual st f fd)
  (h:∀(kV doc pm:Value)(an:Option Addr)(cdv ct:Value)(us:List Value),us.length=ps.length->bindArgs (PySem.W.fnOf x qual (defArgs st) (defBody st) (defScope st) .none kV doc pm an cdv ct) ⟨us,[]⟩=pure (ps.zip us)):Binds K fd ps []:=by
 obtain⟨oc,od,kV,doc,pm,an,cdv,ct,osl,rfl,lk,hcd⟩:=F.ex
 exact .all (h kV doc pm an cdv ct)
theorem fun_mk{x qual:Str}{st:Stmt}{f:Addr}{oc:Value}{od an:Option Addr}{osl:Array (Option Value)}{kV doc pm cdv ct:Value}(l:K.lookup f=some ⟨oc,od,.func (PySem.W.fnOf x qual (defArgs st) (defBody st) (defScope st) .none kV doc pm an cdv ct),osl⟩)
  (c:PySem.W.codeIn K cdv qual=true) (k:PySem.W.keepIn K (.ref f)=true):Fun K x qual st f (PySem.W.fnOf x qual (defArgs st) (defBody st) (defScope st) .none kV doc pm an cdv ct):=⟨⟨oc,od,kV,doc,pm,an,cdv,ct,osl,rfl,l,c⟩,k⟩
end
theorem hu_of{A:Around}{k:Nat}(hr:Room k A):A.units + 1 < cLine:=Nat.lt_of_le_of_lt (Nat.add_le_add_left (by decide:1<=64) _) hr.units
theorem small1000{n:Nat}(h:n<=1000):n < sizeLine:=Nat.lt_of_le_of_lt h (by decide)
section
variable {X:Cx}
theorem pv(i:Nat){x:Str}{pos:Pos}(hN:X.N[i]?=some x:=by rfl)(hv:Vis X.env.scope x:=by first|exact Or.inl rfl|exact Or.inr (Or.inl rfl)|exact Or.inr (Or.inr rfl)) (hd:(x==("__debug__" : Str))=false:=by decide)
  (hcd:(x==("__classdict__" : Str))=false:=by decide):PE X (.Name x pos) (tVar i):=pe_var hN hv hd hcd
end
def Same(H H':Hp):Prop:=∀b o,H b=some o->H' b=some o
theorem Same.refl(H:Hp):Same H H:=fun _ _ h=>h
theorem Same.trans{H H1 H2:Hp}(a:Same H H1)(b:Same H1 H2):Same H H2:=fun c o h=>b c o (a c o h)
theorem Same.free{H H':Hp}(e:Same H H'){l:Addr}(h:H' l=Option.none):H l=Option.none:=by
 cases q:H l with
 | none=>rfl
 | some o =>
  rw[e l o q]at h
  cases h
theorem Same.seq{K:PySem.W.Frag}{H H':Hp}{a:Addr}{xs:List V}(e:Same H H')(h:SqL K H a xs):SqL K H' a xs:=by
 rcases h with (h|⟨o,h⟩)|h
 ·exact .inl (.inl (e _ _ h))
 ·exact .inl (.inr ⟨o,e _ _ h⟩)
 ·exact .inr h
end L2
section
namespace L2
open PySem PySem.Spec PyProof.Rows
section
variable {κ:Type} [DecidableEq κ]
def valV(kvs:List (κ×V))(k:κ):Option V:=(kvs.find? fun kv=>decide (kv.1=k)).map (·.2)
def putK(kvs:List (κ×V))(k:κ)(v:V):List (κ×V) :=
 if (kvs.any fun kv=>decide (kv.1=k))=true then kvs.map (fun kv=>if kv.1=k then (kv.1,v) else kv) else kvs++[(k,v)]
def dropK(kvs:List (κ×V))(k:κ):List (κ×V):=kvs.filter fun kv=>decide (kv.1≠k)
theorem valV_pos{p:κ×V}{r:List (κ×V)}{k:κ}(e:p.1=k):valV (p::r) k=some p.2:=by simp[valV,List.find?_cons,e]
theorem valV_neg{p:κ×V}{r:List (κ×V)}{k:κ}(e:¬ p.1=k):valV (p::r) k=valV r k:=by simp[valV,List.find?_cons,e]
theorem valV_any(k:κ):∀kvs:List (κ×V),(kvs.any fun kv=>decide (kv.1=k))=(valV kvs k).isSome
 | []=>rfl
 | p::r=>by
  rw[List.any_cons]
  by_cases e:p.1=k
  ·simp only[valV_pos e,decide_eq_true e,Bool.true_or,Option.isSome_some]
  ·rw[valV_neg e,decide_eq_false e,Bool.false_or];exact valV_any k r
theorem length_putK(kvs:List (κ×V))(k:κ)(v:V):(putK kvs k v).length<=kvs.length + 1:=by
 unfold putK
 split
 ·rw[List.length_map];omega
 ·rw[List.length_append,List.length_cons,List.length_nil];omega
theorem RelO.isSome_eq{o:Option V}{u:Option Value}(r:RelO o u):o.isSome=u.isSome:=by
 cases o with
 | none=>cases u with
  | none=>rfl
  | some _=>exact(show False from r).elim
 | some _=>cases u with
  | none=>exact(show False from r).elim
  | some _=>rfl
theorem RelO.getD{o:Option V}{u:Option Value}{d:V}{d':Value}(r:RelO o u)(rd:RelV d d'):RelV (o.getD d) (u.getD d'):=by
 cases o with
 | none=>cases u with
  | none=>exact rd
  | some _=>exact(show False from r).elim
 | some _=>cases u with
  | none=>exact(show False from r).elim
  | some _=>exact r
theorem KV.val{kvs:List (κ×V)}{vs:List (κ×Value)}(r:KV kvs vs)(k:κ):RelO (valV kvs k) (valueAt vs k):=by
 unfold KV at r
 induction r with
 | nil=>exact True.intro
 | @cons p q ps qs h t ih =>
  obtain⟨h1,h2⟩:=h
  by_cases e:p.1=k
  ·have e':q.1=k:=h1.symm.trans e
   have b:valueAt (q::qs) k=some q.2:=by simp[valueAt,List.find?_cons,e']
   rw[valV_pos e,b];exact h2
  ·have e':¬ q.1=k:=fun z=>e (h1.trans z)
   have b:valueAt (q::qs) k=valueAt qs k:=by simp[valueAt,List.find?_cons,e']
   rw[valV_neg e,b];exact ih
theorem KV.any{kvs:List (κ×V)}{vs:List (κ×Value)}(r:KV kvs vs)(k:κ):(kvs.any fun kv=>decide (kv.1=k))=vs.any fun kv=>decide (kv.1=k):=by
 unfold KV at r
 induction r with
 | nil=>rfl
 | cons h t ih=>rw[List.any_cons,List.any_cons,ih,h.1]
theorem KV.repl{kvs:List (κ×V)}{vs:List (κ×Value)}(r:KV kvs vs)(k:κ){y:V}{u:Value}(ry:RelV y u) :
  KV (kvs.map fun kv=>if kv.1=k then (kv.1,y) else kv) (vs.map fun kv=>if kv.1=k then (kv.1,u) else kv):=by
 unfold KV at r ⊢
 induction r with
 | nil=>exact .nil
 | @cons p q ps qs h t ih =>
  rw[List.map_cons,List.map_cons]
  refine .cons ?_ ih
  obtain⟨h1,h2⟩:=h
  by_cases e:p.1=k
  ·rw[if_pos e,if_pos (h1.symm.trans e)];exact⟨h1,ry⟩
  ·rw[if_neg e,if_neg (fun z=>e (h1.trans z))];exact⟨h1,h2⟩
theorem KV.put{kvs:List (κ×V)}{vs:List (κ×Value)}(r:KV kvs vs)(k:κ){y:V}{u:Value}(ry:RelV y u):KV (putK kvs k y) (stored vs k u):=by
 unfold putK stored
 rw[r.any k]
 by_cases e:(vs.any fun kv=>decide (kv.1=k))=true
 ·rw[if_pos e,if_pos e];exact r.repl k ry
 ·rw[if_neg e,if_neg e];exact Paired.snoc r ⟨rfl,ry⟩
theorem KV.drop{kvs:List (κ×V)}{vs:List (κ×Value)}(r:KV kvs vs)(k:κ):KV (dropK kvs k) (without vs k):=by
 unfold KV at r ⊢
 unfold dropK without
 induction r with
 | nil=>exact .nil
 | @cons p q ps qs h t ih =>
  obtain⟨h1,h2⟩:=h
  rw[List.filter_cons,List.filter_cons]
  by_cases e:p.1=k
  ·have a:¬ decide (p.1≠k)=true:=by simp[e]
   have b:¬ decide (q.1≠k)=true:=by simp[h1.symm.trans e]
   rw[if_neg a,if_neg b];exact ih
  ·have e':¬ q.1=k:=fun z=>e (h1.trans z)
   have a:decide (p.1≠k)=true:=by simp[e]
   have b:decide (q.1≠k)=true:=by simp[e']
   rw[if_pos a,if_pos b];exact .cons ⟨h1,h2⟩ ih
theorem KV.length{kvs:List (κ×V)}{vs:List (κ×Value)}(r:KV kvs vs):kvs.length=vs.length:=Paired.length r
end
theorem kV_is{P:Program}{w:World}{k:Key}{u:Value}(r:RelV (kV k) u):(mixKind P w).is k u=true:=by
 cases k with
 | inl i=>obtain⟨t,e⟩:=(show ∃t,u=Value.int i t from r);subst e;exact mixKind_int P w i t
 | inr x=>obtain⟨t,e⟩:=(show ∃t,u=Value.str x t from r);subst e;exact mixKind_str P w x t
theorem items_are{P:Program}{w:World}:∀{ks:List Key}{us:List Value},Vals (ks.map kV) us->ItemsAre (mixKind P w) ks us
 | [],_,r=>by rw[List.map_nil]at r;cases r;exact .nil
 | k::ks,_,r=>by
  rw[List.map_cons]at r
  cases r with
  | cons h t=>exact .cons (kV_is h) (items_are t)
abbrev KT(H:Hp):List (List Key×V)->List (List Key×Addr×Value)->Prop:=Paired fun p q=>p.1=q.1/\H q.2.1=some (.tup (p.1.map kV))/\RelV p.2 q.2.2
theorem KT.val{H:Hp}{kvs:List (List Key×V)}{xs:List (List Key×Addr×Value)}(r:KT H kvs xs)(k:List Key):RelO (valV kvs k) ((atKey xs k).map (·.2)):=by
 induction r with
 | nil=>exact True.intro
 | @cons p q ps qs h t ih =>
  obtain⟨h1,_,h2⟩:=h
  by_cases e:p.1=k
  ·have e':q.1=k:=h1.symm.trans e
   have b:atKey (q::qs) k=some q.2:=by simp[atKey,List.find?_cons,e']
   rw[valV_pos e,b];exact h2
  ·have e':¬ q.1=k:=fun z=>e (h1.trans z)
   have b:atKey (q::qs) k=atKey qs k:=by simp[atKey,List.find?_cons,e']
   rw[valV_neg e,b];exact ih
theorem KT.repl{H:Hp}{kvs:List (List Key×V)}{xs:List (List Key×Addr×Value)}(r:KT H kvs xs)(k:List Key){y:V}{u:Value}(ry:RelV y u) :
  KT H (kvs.map fun kv=>if kv.1=k then (kv.1,y) else kv) (xs.map (putAt k u)):=by
 induction r with
 | nil=>exact .nil
 | @cons p q ps qs h t ih =>
  rw[List.map_cons,List.map_cons]
  refine .cons ?_ ih
  obtain⟨h1,h2,h3⟩:=h
  unfold putAt
  by_cases e:p.1=k
  ·rw[if_pos e,if_pos (h1.symm.trans e)];exact⟨h1,h2,ry⟩
  ·rw[if_neg e,if_neg (fun z=>e (h1.trans z))];exact⟨h1,h2,h3⟩
theorem KT.put{H:Hp}{kvs:List (List Key×V)}{xs:List (List Key×Addr×Value)}(r:KT H kvs xs)(k:List Key){b:Addr}{y:V}{u:Value}(hb:H b=some (.tup (k.map kV)))(ry:RelV y u) :
  KT H (putK kvs k y) (storedH xs k b u):=by
 have e:(kvs.any fun kv=>decide (kv.1=k))=(atKey xs k).isSome:=by
  rw[valV_any,(r.val k).isSome_eq,Option.isSome_map]
 unfold putK storedH
 rw[e]
 by_cases q:(atKey xs k).isSome=true
 ·rw[if_pos q,if_pos q];exact r.repl k ry
 ·rw[if_neg q,if_neg q];exact Paired.snoc r ⟨rfl,hb,ry⟩
theorem KT.keeps{H H':Hp}{kvs:List (List Key×V)}{xs:List (List Key×Addr×Value)}(r:KT H kvs xs)(ht:∀b ys,H b=some (.tup ys)->H' b=some (.tup ys)):KT H' kvs xs :=
 Paired.mapP r fun _ _ z=>⟨z.1,ht _ _ z.2.1,z.2.2⟩
section
variable {P:Program} {w:World} {H:Hp} {h:Heap} {a:Addr}
theorem rd_of{u:HO}(ok:HOk P w H h)(e:Rd H a u):ObjOk P w H h a u:=e.ok ok
theorem dk_rd{kvs:List (Key×V)}(ok:HOk P w H h)(e:Rd H a (.dK kvs)):kvs.length<=sizeLine/\(a==sysModules)=false/\∃vs,KV kvs vs/\h.DictOf (mixKind P w) a vs :=
 show ObjOk P w H h a (.dK kvs) from rd_of ok e
theorem dk_of{kvs:List (Key×V)}(ok:HOk P w H h)(e:H a=some (.dK kvs)):kvs.length<=sizeLine/\(a==sysModules)=false/\∃vs,KV kvs vs/\h.DictOf (mixKind P w) a vs:=dk_rd ok (.inl e)
theorem key_of{ks:List Key}(ok:HOk P w H h)(e:H a=some (.tup (ks.map kV))):(tupleKind (mixKind P w)).is h ks a:=by
 obtain⟨_,its,r,o,h1,h2,n,h3⟩:=(show ObjOk P w H h a (.tup (ks.map kV)) from ok a _ e)
 exact⟨o,its.toArray,n,h1,h2,h3,by simpa using items_are r⟩
theorem dt_rd{kvs:List (List Key×V)}(ok:HOk P w H h)(e:Rd H a (.dT kvs)):kvs.length<=sizeLine/\(a==sysModules)=false ∧
  ∃xs,KT H kvs xs/\h.DictOfH (tupleKind (mixKind P w)) a xs:=by
 obtain⟨z,y,xs,r,o,es,ep,h1,h2,h3,h4,h5⟩:=(show ObjOk P w H h a (.dT kvs) from rd_of ok e)
 refine⟨z,y,xs,r,o,es,ep,h1,h2,h3,h4,fun x hx=>?_,h5⟩
 have all:∀{l:List (List Key×V)}{m:List (List Key×Addr×Value)},KT H l m->∀x∈m,(tupleKind (mixKind P w)).is h x.1 x.2.1:=by
  intro l m q
  induction q with
  | nil=>intro x hx;exact nomatch hx
  | @cons p q ps qs hq t ih =>
   intro x hx
   rcases List.mem_cons.mp hx with e|hx
   ·subst e
    exact key_of ok (by rw[← hq.1];exact hq.2.1)
   ·exact ih x hx
 exact all r x hx
theorem dt_of{kvs:List (List Key×V)}(ok:HOk P w H h)(e:H a=some (.dT kvs)):kvs.length<=sizeLine/\(a==sysModules)=false ∧
  ∃xs,KT H kvs xs/\h.DictOfH (tupleKind (mixKind P w)) a xs:=dt_rd ok (.inl e)
end
def DGet(H:Hp)(a:Addr)(y:V)(r:Option V):Prop :=
 (∃kvs k,Rd H a (.dK kvs)/\y=kV k/\r=valV kvs k)∨∃kvs k b,Rd H a (.dT kvs)/\y=.ref b/\H b=some (.tup (k.map kV))/\r=valV kvs k
def DPut(H:Hp)(a:Addr)(y v:V)(H':Hp):Prop :=
 (∃kvs k,H a=some (.dK kvs)/\y=kV k/\kvs.length < sizeLine/\H'=upd H a (.dK (putK kvs k v))) ∨
 ∃kvs k b,H a=some (.dT kvs)/\y=.ref b/\H b=some (.tup (k.map kV))/\kvs.length < sizeLine/\H'=upd H a (.dT (putK kvs k v))
theorem DGet.k{H:Hp}{a:Addr}{kvs:List (Key×V)}{k:Key}(e:H a=some (.dK kvs)):DGet H a (kV k) (valV kvs k):=.inl ⟨kvs,k,.inl e,rfl,rfl⟩
theorem DPut.k{H:Hp}{a:Addr}{kvs:List (Key×V)}{k:Key}{v:V}(e:H a=some (.dK kvs))(hl:kvs.length < sizeLine):DPut H a (kV k) v (upd H a (.dK (putK kvs k v))):=.inl ⟨kvs,k,e,rfl,hl,rfl⟩
section
variable {X:Cx} {pins:List (Addr×Obj)} {σ:St} {H:Hp} {s:Shared} {a:Addr} {y v:V} {u r:Value} {o:Option V} {A:Around} {E:Value->Shared->Prop}
theorem Inv.big(I:Inv X pins σ H s):sysModules < s.heap.objs.size:=by
 have h:mainGlobals < s.heap.objs.size:=(I.mod.glob.keeps I.bk).lt
 exact Nat.lt_trans (by decide) h
theorem d_getItem{Q:Value->Shared->Prop}(hu:A.units + 1 < cLine)(I:Inv X pins σ H s)(g:DGet H a y (some v))(ry:RelV y u)(h:∀w' s',Inv X pins σ H s'->RelV v w'->Q w' s') :
  wpAny (model X.prog X.w) A (getItem (.ref a) u) Q E s:=by
 rcases g with ⟨kvs,k,e,ey,l⟩|⟨kvs,k,b,e,ey,eb,l⟩
 ·subst ey
  obtain⟨z,hd,vs,rel,dd⟩:=dk_rd I.hok e
  obtain⟨w',hw,rw'⟩:=RelO.some_of (v:=v) (o:=valueAt vs k) (by rw[l];exact rel.val k)
  exact wpAny_getItem_of (kV_is ry) dd.mapOf hw (h w' _ (I.tok _) rw')
 ·subst ey
  cases (show u=Value.ref b from ry)
  obtain⟨z,hd,xs,rel,dd⟩:=dt_rd I.hok e
  obtain⟨w',hw,rw'⟩:=RelO.some_of (v:=v) (o:=(atKey xs k).map (·.2)) (by rw[l];exact rel.val k)
  obtain⟨p,hp,hp2⟩:=Option.map_eq_some_iff.mp hw
  refine wpAny_getItem_heap (tupleKind_room_in1 hu) (key_of I.hok eb) dd hp ?_
  rw[hp2]
  exact h w' _ (I.tok _) rw'
theorem d_write{h':Heap}{t':Nat}{ob:HO}(I:Inv X pins σ H s)(mu:Mut (H a))(hs:Heap.SameBut a s.heap h')(he:∃q,h'.get? a=some q)(new:ObjOk X.prog X.w (upd H a ob) h' a ob) :
  Inv X pins σ (upd H a ob) {s with heap:=h',toks:=t' } :=
 I.write (x:=a) (e:=a) mu (.inl rfl) (fun b q hb z=>(hs.2 b hb).trans z) he new
theorem dk_new{P:Program}{w:World}{H':Hp}{h':Heap}{kvs:List (Key×V)}{vs:List (Key×Value)}(z:kvs.length<=sizeLine)(hd:(a==sysModules)=false)(rel:KV kvs vs)(dd:h'.DictOf (mixKind P w) a vs) :
  ObjOk P w H' h' a (.dK kvs):=⟨z,hd,vs,rel,dd⟩
theorem d_setItem{H':Hp}{Q:Unit->Shared->Prop}(hu:A.units + 1 < cLine)(I:Inv X pins σ H s)(g:DPut H a y v H')(ry:RelV y u)(rv:RelV v r)(h:∀s',Inv X pins σ H' s'->Q () s') :
  wpAny (model X.prog X.w) A (setItem (.ref a) u r) Q E s:=by
 rcases g with ⟨kvs,k,e,ey,l,eH⟩|⟨kvs,k,b,e,ey,eb,l,eH⟩
 ·subst ey eH
  obtain⟨z,hd,vs,rel,dd⟩:=dk_of I.hok e
  have hz:vs.length<=sizeLine:=by rw[← rel.length];exact z
  have hl:(putK kvs k v).length<=sizeLine:=by have:=length_putK kvs k v;omega
  refine wpAny_setItem_pairs (hsz:=hz) (kV_is ry) dd fun h' dd' hs=>h _ ?_
  have he:∃q,h'.get? a=some q:=let ⟨q,_,_,hq,_⟩:=dd';⟨q,hq⟩
  exact d_write I (by rw[e];exact True.intro) hs he (dk_new hl hd (rel.put k rv) dd')
 ·subst ey eH
  cases (show u=Value.ref b from ry)
  obtain⟨z,hd,xs,rel,dd⟩:=dt_of I.hok e
  have hz:xs.length<=sizeLine:=by rw[← Paired.length rel];exact z
  have hl:(putK kvs k v).length<=sizeLine:=by have:=length_putK kvs k v;omega
  refine wpAny_setItem_heap (hsz:=hz) (tupleKind_room_in1 hu) (key_of I.hok eb) dd fun h' dd' hs=>h _ ?_
  obtain⟨q,es,ep,hq,h2,h3,h4,_,h5⟩:=dd'
  refine d_write I (by rw[e];exact True.intro) hs ⟨q,hq⟩ ⟨hl,hd,_,(rel.put k eb rv).keeps fun c ys ec=>?_,q,es,ep,hq,h2,h3,h4,h5⟩
  rw[upd_ne (ne_of ec e (fun z=>nomatch z))]
  exact ec
end
section
variable {X:Cx} {pins:List (Addr×Obj)} {σ:St} {H:Hp} {s:Shared} {a:Addr} {kvs:List (Key×V)} {k:Key} {u:Value} {A:Around} {E:Value->Shared->Prop}
end
def NoSl(i:Expr):Prop:=∀ov iv,subscripted i false ov iv=operate [ov,iv] (getItem ov iv)
theorem subD_of{prog:Program}{w:World}{A:Around}{E:Value->Shared->Prop}{s:Shared}{env:Env}{value slice:Expr}{pos:Pos}{T id:String}{Q:Value->Shared->Prop}
  (hl:typeLookup (.type T) "__getitem__" = pure (some (.builtin id))) (hs:NoSl slice)
  (h:wpAny (model prog w) A (eval value env) (fun o s₁=>wpAny (model prog w) A (eval slice env) (fun i s₂=>s₂.TypeIs o T/\wpAny (model prog w) A (getItem o i) Q E s₂) E s₁) E s) :
  wpAny (model prog w) A (eval (.Subscript value slice pos) env) Q E s:=by
 refine Subscript_ (wpAny_mono h (fun o s₁ h₁=>wpAny_mono h₁ (fun i s₂ h₂=>?_) fun _ _ x=>x) fun _ _ x=>x)
 obtain⟨hT,h₂⟩:=h₂
 unfold subscriptTail
 refine wpAny_bind ?_
 rw[getitemInPython_of_ne hT.not_modules]
 refine wpAny_bind (wpAny_specialOf hT hl ?_)
 have fin:wpAny (model prog w) A (subscripted slice false o i) (fun r s₃=>wpAny (model prog w) A (letTemporaryGo value o r >>= fun _=>pure r) Q E s₃) E s₂:=by
  rw[hs o i]
  exact wpAny_operating (wpAny_mono h₂ (fun r s₃ h₃=>wpAny_bind (wpAny_letTemporaryGo (wpAny_pure h₃))) fun _ _ x=>x)
 first
  | exact wpAny_pure (wpAny_bind fin)
  | exact wpAny_bind (wpAny_pure (wpAny_bind fin))
  | exact wpAny_bind fin
theorem dict_typeIs{X:Cx}{pins:List (Addr×Obj)}{σ:St}{H:Hp}{s:Shared}{a:Addr}{y:V}{o:Option V}(I:Inv X pins σ H s)(g:DGet H a y o):s.TypeIs (.ref a) "dict" := by
 rcases g with ⟨kvs,k,e,_,_⟩|⟨kvs,k,b,e,_,_,_⟩
 ·obtain⟨_,_,vs,_,dd⟩:=dk_rd I.hok e
  exact dd.typeIs
 ·obtain⟨_,_,xs,_,dd⟩:=dt_rd I.hok e
  exact dd.typeIs
def tDGet(td ty:TE):TE:=fun σ H Q=>td σ H fun x H1=>ty σ H1 fun y H2=>∃a v,x=.ref a/\DGet H2 a y (some v)/\Q v H2
def sDPut(td ty tv:TE):TS:=fun D σ H=>tv σ H fun v H1=>td σ H1 fun x H2=>ty σ H2 fun y H3=>∃a H4,x=.ref a/\DPut H3 a y v H4/\D.nx σ H4
section
variable {X:Cx} {o i e value:Expr} {pos pos' tpos:Pos} {td ty tv:TE}
theorem pe_dget(hu:X.A.units + 1 < cLine)(ho:PE X o td)(hi:PE X i ty)(hs:NoSl i):PE X (.Subscript o i pos) (tDGet td ty):=by
 intro pins s σ H Q I h
 refine subD_of PySem.F.slot_dict_getitem.lookup hs (thn (ho pins s σ H _ I h) fun u s1 ⟨x,H1,I1,rx,q1⟩=>thn (hi pins s1 σ H1 _ I1 q1) fun iv s2 ⟨y,H2,I2,ry,a,v,ex,g,q2⟩=>?_)
 subst ex
 obtain rfl:u=Value.ref a:=rx
 exact⟨dict_typeIs I2 g,d_getItem hu I2 g ry fun w' s3 I3 rw'=>⟨v,H2,I3,rw',q2⟩⟩
theorem ps_dput(hu:X.A.units + 1 < cLine)(ho:PE X o td)(hi:PE X i ty)(hv:PE X value tv)(hs:swapsWith value (some (.Subscript o i pos')) pos.line X.env=pure false) :
  PS X (.Assign [.Subscript o i pos'] value pos) (sDPut td ty tv):=by
 intro pins s σ H D I h
 refine wpAny_Assign_Subscript (thn (hv pins s σ H _ I h) fun r s1 ⟨v,H1,I1,rv,q1⟩=>thn (ho pins s1 σ H1 _ I1 q1) fun u s2 ⟨x,H2,I2,rx,q2⟩=>thn (hi pins s2 σ H2 _ I2 q2) fun iv s3 ⟨y,H3,I3,ry,a,H4,ex,g,q3⟩=>?_) hs
 subst ex
 obtain rfl:u=Value.ref a:=rx
 exact d_setItem hu I3 g ry rv fun s4 I4=>⟨σ,H4,I4,q3⟩
end
theorem dk_empty{P:Program}{w:World}{H:Hp}(h:Heap)(hb:sysModules < h.objs.size):ObjOk P w H (h.push {cls:=.type "dict", data:=.dict #[]}) h.objs.size (.dK []) :=
 ⟨Nat.zero_le _,beq_eq_false_iff_ne.mpr (Ne.symm (Nat.ne_of_lt hb)),[],.nil,Heap.DictOf.new h⟩
section
variable {X:Cx} {pos:Pos}
end
def tPairs:List (TE×TE)->St->Hp->(List (V×V)->Hp->Prop)->Prop
 | [],_,H,Q=>Q [] H
 | (tk,tv)::r,σ,H,Q=>tk σ H fun x H1=>tv σ H1 fun y H2=>tPairs r σ H2 fun ps H3=>Q ((x,y)::ps) H3
abbrev VV:List (V×V)->List (Value×Value)->Prop:=Paired fun p q=>RelV p.1 q.1/\RelV p.2 q.2
def PPs(X:Cx)(pos:Pos)(keys:List (Option Expr))(values:List Expr)(trs:List (TE×TE)):Prop :=
 ∀(pins:List (Addr×Obj))(s:Shared)(σ:St)(H:Hp)(Q:List (V×V)->Hp->Prop),Inv X pins σ H s->tPairs trs σ H Q →
  wpAny (model X.prog X.w) X.A (evalPairs (pairTrees keys values X.env pos)) (fun vs s'=>∃ps H',Inv X pins σ H' s'/\VV ps vs/\Q ps H') X.xe s
theorem pps_nil{X:Cx}{pos:Pos}:PPs X pos [] [] []:=fun pins s σ H Q I h=>pairTrees_nil_walk ⟨[],H,I,.nil,h⟩
theorem pps_cons{X:Cx}{pos:Pos}{k v:Expr}{ks:List (Option Expr)}{vs:List Expr}{tk tv:TE}{trs:List (TE×TE)}(hk:PE X k tk)(hv:PE X v tv)(hr:PPs X pos ks vs trs) :
  PPs X pos (some k::ks) (v::vs) ((tk,tv)::trs):=fun pins s σ H Q I h =>
 pairTrees_cons_walk (thn (hk pins s σ H _ I h) fun u s1 ⟨x,H1,I1,rx,q1⟩=>thn (hv pins s1 σ H1 _ I1 q1) fun w2 s2 ⟨y,H2,I2,ry,q2⟩ =>
  thn (hr pins s2 σ H2 _ I2 q2) fun ws s3 ⟨ps,H3,I3,rel,q3⟩=>⟨(x,y)::ps,H3,I3,.cons ⟨rx,ry⟩ rel,q3⟩)
def mergeK(kvs more:List (Key×V)):List (Key×V):=more.foldl (fun acc kv=>putK acc kv.1 kv.2) kvs
theorem KV.merge:∀{more:List (Key×V)}{rs:List (Key×Value)}{kvs:List (Key×V)}{vs:List (Key×Value)},KV more rs->KV kvs vs->KV (mergeK kvs more) (merged vs rs):=by
 intro more rs kvs vs r
 unfold KV at r
 induction r generalizing kvs vs with
 | nil=>intro q;exact q
 | @cons p q ps qs h t ih =>
  intro r0
  have e:KV (putK kvs p.1 p.2) (stored vs q.1 q.2):=by
   have:=r0.put p.1 h.2
   rw[← h.1];exact this
  exact ih e
theorem length_mergeK:∀(more kvs:List (Key×V)),(mergeK kvs more).length<=kvs.length + more.length
 | [],kvs=>by show kvs.length<=kvs.length + 0;omega
 | p::r,kvs=>by
  have h1:=length_mergeK r (putK kvs p.1 p.2)
  have h2:=length_putK kvs p.1 p.2
  show (mergeK (putK kvs p.1 p.2) r).length<=_
  rw[List.length_cons];omega
theorem carries_of{P:Program}{w:World}:∀{kvs:List (Key×V)}{ws:List (Value×Value)},VV (kvs.map fun kv=>(kV kv.1,kv.2)) ws->∃rs,Carries (mixKind P w) ws rs/\KV kvs rs
 | [],_,r=>by rw[List.map_nil]at r;cases r;exact⟨[],True.intro,.nil⟩
 | p::kvs,_,r=>by
  rw[List.map_cons]at r
  cases r with
  | @cons a b as bs h t =>
   obtain⟨rs,c,q⟩:=carries_of (P:=P) (w:=w) t
   obtain⟨b1,b2⟩:=b
   exact⟨(p.1,b2)::rs,⟨kV_is h.1,rfl,c⟩,.cons ⟨rfl,h.2⟩ q⟩
def tDisp(trs:List (TE×TE)):TE:=fun σ H Q=>∀p,H p=none->tPairs trs σ (upd H p (.dK [])) fun ps H2=>H2 p=some (.dK [])/\∃kvs:List (Key×V),ps=kvs.map (fun kv=>(kV kv.1,kv.2))/\kvs.length<=15/\Q (.ref p) (upd H2 p (.dK (mergeK [] kvs)))
theorem pe_disp{X:Cx}{pos:Pos}{keys:List (Option Expr)}{values:List Expr}{trs:List (TE×TE)}(h:PPs X pos keys values trs)(hall:keys.all (·.isSome)=true)(hl:keys.length=values.length)(h0:keys≠[])
  (h15:keys.length<=15):PE X (.Dict keys values pos) (tDisp trs):=by
 intro pins s σ H Q I q
 have hn:=I.hok.fresh (Nat.le_refl s.heap.objs.size)
 have I1:=I.laid (a:=s.heap.objs.size) (o:=.dK []) (h':=s.heap.push {cls:=.type "dict", data:=.dict #[]}) (t':=s.toks) (fun _ _ q=>Heap.get?_push_of_some _ q) (Nat.le_refl _) (dk_empty s.heap I.big)
 refine wpAny_Dict_walk (knd:=mixKind X.prog X.w) hall hl h0 h15 (thn (h pins _ σ _ _ I1 (q _ hn)) fun ws s2 ⟨ps,H2,I2,rel,e,kvs,ep,lk,q2⟩=>?_)
 subst ep
 obtain⟨rs,c,rk⟩:=carries_of (P:=X.prog) (w:=X.w) rel
 obtain⟨z,hd,vs0,r0,dd⟩:=dk_of I2.hok e
 cases r0
 refine⟨rs,c,dd,fun h' dd' hs=>⟨.ref s.heap.objs.size,_,?_,rfl,q2⟩⟩
 have hz:(mergeK [] kvs).length<=sizeLine:=by
  have h1:=length_mergeK kvs []
  rw[List.length_nil]at h1
  rw[sizeLine_eq];omega
 have he:∃q,h'.get? s.heap.objs.size=some q:=let ⟨q,_,_,hq,_⟩:=dd';⟨q,hq⟩
 exact d_write I2 (by rw[e];exact True.intro) hs he (dk_new hz hd (rk.merge .nil) dd')
structure M1(X:Cx)(o:Expr)(m:Str)(apos:Pos)(e:Expr)(cpos:Pos):Prop where
 base:attributeBase o m X.env (eval o X.env)=eval o X.env
 few:((backTo cpos (starEach [e] X.env)).all (fun x=>!x.1)&&(backToKw cpos (keywordEach [] X.env)).all (fun x=>x.1.isSome)
  && decide (([e]:List Expr).length + ([]:List Keyword).length + (if ([]:List Keyword).isEmpty then 0 else 1) < 30))=true
 line:(apos.endLine==cpos.line)=true
 trees:backTo cpos (starEach [e] X.env)=[(false,eval e X.env)]
structure M2(X:Cx)(o:Expr)(m:Str)(apos:Pos)(e f:Expr)(cpos:Pos):Prop where
 base:attributeBase o m X.env (eval o X.env)=eval o X.env
 few:((backTo cpos (starEach [e,f] X.env)).all (fun x=>!x.1)&&(backToKw cpos (keywordEach [] X.env)).all (fun x=>x.1.isSome)
  && decide (([e,f]:List Expr).length + ([]:List Keyword).length + (if ([]:List Keyword).isEmpty then 0 else 1) < 30))=true
 line:(apos.endLine==cpos.line)=true
 trees:backTo cpos (starEach [e,f] X.env)=[(false,eval e X.env),(false,eval f X.env)]
section
variable {X:Cx} {pins:List (Addr×Obj)} {σ:St} {H:Hp} {s:Shared} {a:Addr} {y d:V} {u r:Value} {o:Option V} {A:Around} {E:Value->Shared->Prop}
end
section
variable {X:Cx} {o e f:Expr} {apos cpos:Pos} {td ty tx:TE}
end
section
variable {X:Cx} {pins:List (Addr×Obj)} {σ:St} {H:Hp} {s:Shared} {a:Addr} {kvs:List (Key×V)} {A:Around} {E:Value->Shared->Prop}
end
section
variable {X:Cx} {pins:List (Addr×Obj)} {σ:St} {H:Hp} {s:Shared} {a:Addr} {y:V} {u:Value} {A:Around} {E:Value->Shared->Prop}
end
end L2
namespace L2
open PySem PySem.Spec PyProof.Rows
section
variable {κ:Type} [DecidableEq κ]
end
end L2
end
section
namespace TL
open PySem PySem.Spec PyProof.Rows L2
abbrev St:=L2.St
def nst:Expr->Bool
 | .Starred _ _=>false
 | _=>true
theorem star1{e:Expr}{es:List Expr}{env:Env}(h:nst e=true):starEach (e::es) env=(false,eval e env)::starEach es env:=by
 cases e<;>first|rfl|cases h
theorem stars{env:Env}{pos:Pos}:∀{es:List Expr},es.all nst=true->(backTo pos (starEach es env)).any (·.1)=false
 | [],_=>rfl
 | e::es,h=>by
  rw[List.all_cons,Bool.and_eq_true]at h
  rw[star1 h.1]
  show (false||(backTo pos (starEach es env)).any (·.1))=false
  rw[stars h.2]
  rfl
inductive T where
 | non|bl (b:Bool)|int (i:Int)|str (x:Str)|tup (ts:List T)|lst (ts:List T)|dct|exc (c:Str)|exf (c f:Str) (t:T)|dic (ks:List Int) (ts:List T)
abbrev kn(o:Obj):HO:=.frz o (.ext fun _=>True)
abbrev noDict:Obj:={cls:=.type "dict", data:=.dict #[] 0}
structure ExcAt(K:PySem.W.Frag)(H:Hp)(c:Str)(p:Addr):Prop where
 ex:∃(o:Obj) (C:Addr) (ws:Array Value),H p=some (kn o)/\o.cls=.ref C/\o.data=.fields ws/\PySem.W.nsIn K mainGlobals c=some (some (.ref C))
structure ExfAt(K:PySem.W.Frag)(H:Hp)(c f:Str)(p d:Addr)(od:Obj)(u:Value):Prop where
 ex:∃(o:Obj) (C:Addr) (ws:Array Value),H p=some (kn o)/\o.cls=.ref C/\o.data=.fields ws/\o.dict=some d/\PySem.W.nsIn K mainGlobals c=some (some (.ref C))
 dict:H d=some (kn od)
 look:PySem.W.lookIn f od=some (some u)
def SqF(K:PySem.W.Frag)(H:Hp)(a:Addr)(xs:List V):Prop :=
 (∃o,H a=some (.frz o (.lst xs))) ∨
  ∃(o:Obj) (its:Array Value) (n:Nat),K.lookup a=some o/\o.cls=.type "list" /\ o.dict=none/\o.data=.seq its n/\its.size<=sizeLine/\Vals xs its.toList
abbrev IntP:=Int×V
def toK(q:IntP):Key×V:=(.inl q.1,q.2)
mutual
def Rep(K:PySem.W.Frag)(H:Hp):T->V->Prop
 | .non,v=>v=.non
 | .bl b,v=>v=.bl b
 | .int i,v=>v=.int i
 | .str x,v=>v=.str x
 | .tup ts,v=>∃p vs,v=.ref p/\SqT K H p vs/\Reps K H ts vs
 | .lst ts,v=>∃p vs,v=.ref p/\SqF K H p vs/\Reps K H ts vs
 | .dct,v=>∃p,v=.ref p/\H p=some (kn noDict)
 | .exc c,v=>∃p,v=.ref p/\ExcAt K H c p
 | .exf c f t,v=>∃p,v=.ref p/\∃d od u y,ExfAt K H c f p d od u/\RelV y u/\Rep K H t y
 | .dic ks ts,v=>∃(p:Addr) (o:Obj) (kvs:List (Int×V)),v=.ref p/\H p=some (.frz o (.dK (kvs.map toK)))/\kvs.map (·.1)=ks/\Reps K H ts (kvs.map (·.2))
def Reps(K:PySem.W.Frag)(H:Hp):List T->List V->Prop
 | [],vs=>vs=[]
 | t::ts,vs=>∃v r,vs=v::r/\Rep K H t v/\Reps K H ts r
end
structure Kp(H H':Hp):Prop where
 tup:∀b xs,H b=some (.tup xs)->H' b=some (.tup xs)
 frz:∀b o u,H b=some (.frz o u)->H' b=some (.frz o u)
theorem Kp.refl(H:Hp):Kp H H:=⟨fun _ _ h=>h,fun _ _ _ h=>h⟩
theorem Kp.trans{H H1 H2:Hp}(a:Kp H H1)(b:Kp H1 H2):Kp H H2:=⟨fun c xs h=>b.tup c xs (a.tup c xs h),fun c o u h=>b.frz c o u (a.frz c o u h)⟩
theorem Kp.of{H H':Hp}(s:Same H H'):Kp H H':=⟨fun b _ h=>s b _ h,fun b _ _ h=>s b _ h⟩
theorem same_new{H:Hp}{p:Addr}(h:H p=none)(o:HO):Same H (upd H p o):=fun b u q=>by rw[upd_ne (ne_of_none q h)];exact q
theorem Kp.write{H:Hp}{p:Addr}{xs:List V}(h:H p=some (.lst xs))(o:HO):Kp H (upd H p o) :=
 ⟨fun b ys q=>by rw[upd_ne (by rintro rfl;rw[h]at q;cases q)];exact q,fun b ob u q=>by rw[upd_ne (by rintro rfl;rw[h]at q;cases q)];exact q⟩
section
variable {K:PySem.W.Frag} {H H':Hp}
theorem SqF.sq{a:Addr}{xs:List V}(h:SqF K H a xs):SqL K H a xs:=h.elim (fun ⟨o,e⟩=>.inl (.inr ⟨o,e⟩)) .inr
theorem sqF_kp{a:Addr}{xs:List V}(k:Kp H H')(h:SqF K H a xs):SqF K H' a xs:=h.elim (fun ⟨o,e⟩=>.inl ⟨o,k.frz _ _ _ e⟩) .inr
theorem sqT_kp{a:Addr}{xs:List V}(k:Kp H H')(h:SqT K H a xs):SqT K H' a xs:=by
 rcases h with (h|⟨o,h⟩)|h
 ·exact .inl (.inl (k.tup _ _ h))
 ·exact .inl (.inr ⟨o,k.frz _ _ _ h⟩)
 ·exact .inr h
theorem rep_tup{ts:List T}{v:V}:Rep K H (.tup ts) v ↔ ∃p vs,v=.ref p/\SqT K H p vs/\Reps K H ts vs:=by rw[Rep]
theorem rep_lst{ts:List T}{v:V}:Rep K H (.lst ts) v ↔ ∃p vs,v=.ref p/\SqF K H p vs/\Reps K H ts vs:=by rw[Rep]
theorem rep_int{i:Int}{v:V}:Rep K H (.int i) v ↔ v=.int i:=by rw[Rep]
theorem rep_bl{i:Bool}{v:V}:Rep K H (.bl i) v ↔ v=.bl i:=by rw[Rep]
theorem rep_str{i:Str}{v:V}:Rep K H (.str i) v ↔ v=.str i:=by rw[Rep]
theorem rep_non{v:V}:Rep K H .non v ↔ v=.non:=by rw[Rep]
theorem rep_dct{v:V}:Rep K H .dct v ↔ ∃p,v=.ref p/\H p=some (kn noDict):=by rw[Rep]
theorem rep_exc{c:Str}{v:V}:Rep K H (.exc c) v ↔ ∃p,v=.ref p/\ExcAt K H c p:=by rw[Rep]
theorem rep_exf{c f:Str}{t:T}{v:V}:Rep K H (.exf c f t) v ↔ ∃p,v=.ref p/\∃d od u y,ExfAt K H c f p d od u/\RelV y u/\Rep K H t y:=by rw[Rep]
theorem rep_dic{ks:List Int}{ts:List T}{v:V}:Rep K H (.dic ks ts) v ↔ ∃(p:Addr) (o:Obj) (kvs:List (Int×V)),v=.ref p/\H p=some (.frz o (.dK (kvs.map toK)))/\kvs.map (·.1)=ks/\Reps K H ts (kvs.map (·.2)):=by rw[Rep]
theorem ExfAt.kp{c f:Str}{p d:Addr}{od:Obj}{u:Value}(k:Kp H H')(h:ExfAt K H c f p d od u):ExfAt K H' c f p d od u:=let ⟨o,C,ws,e,r⟩:=h.ex;⟨⟨o,C,ws,k.frz _ _ _ e,r⟩,k.frz _ _ _ h.dict,h.look⟩
theorem ExcAt.kp{c:Str}{p:Addr}(k:Kp H H')(h:ExcAt K H c p):ExcAt K H' c p:=let ⟨o,C,ws,e,r⟩:=h.ex;⟨o,C,ws,k.frz _ _ _ e,r⟩
theorem reps_nil{vs:List V}:Reps K H [] vs ↔ vs=[]:=by rw[Reps]
theorem reps_cons{t:T}{ts:List T}{vs:List V}:Reps K H (t::ts) vs ↔ ∃v r,vs=v::r/\Rep K H t v/\Reps K H ts r:=by rw[Reps]
mutual
theorem Rep.kp(k:Kp H H'):∀{t:T}{v:V},Rep K H t v->Rep K H' t v
 | .non,v,h=>by rw[rep_non]at h ⊢;exact h
 | .bl b,v,h=>by rw[rep_bl]at h ⊢;exact h
 | .int i,v,h=>by rw[rep_int]at h ⊢;exact h
 | .str x,v,h=>by rw[rep_str]at h ⊢;exact h
 | .tup ts,v,h=>by
  rw[rep_tup]at h ⊢
  obtain⟨p,vs,e,s,r⟩:=h
  exact⟨p,vs,e,sqT_kp k s,Reps.kp k r⟩
 | .lst ts,v,h=>by
  rw[rep_lst]at h ⊢
  obtain⟨p,vs,e,s,r⟩:=h
  exact⟨p,vs,e,sqF_kp k s,Reps.kp k r⟩
 | .dct,v,h=>by
  rw[rep_dct]at h ⊢
  obtain⟨p,e,q⟩:=h
  exact⟨p,e,k.frz _ _ _ q⟩
 | .exc c,v,h=>by
  rw[rep_exc]at h ⊢
  obtain⟨p,e,q⟩:=h
  exact⟨p,e,q.kp k⟩
 | .exf c f t,v,h=>by
  rw[rep_exf]at h ⊢
  obtain⟨p,e,d,od,u,y,q,r,a⟩:=h
  exact⟨p,e,d,od,u,y,q.kp k,r,Rep.kp k a⟩
 | .dic ks ts,v,h=>by
  rw[rep_dic]at h ⊢
  obtain⟨p,o,kvs,e,q,ek,r⟩:=h
  exact⟨p,o,kvs,e,k.frz _ _ _ q,ek,Reps.kp k r⟩
theorem Reps.kp(k:Kp H H'):∀{ts:List T}{vs:List V},Reps K H ts vs->Reps K H' ts vs
 | [],vs,h=>by rw[reps_nil]at h ⊢;exact h
 | t::ts,vs,h=>by
  rw[reps_cons]at h ⊢
  obtain⟨v,r,e,a,b⟩:=h
  exact⟨v,r,e,Rep.kp k a,Reps.kp k b⟩
end
theorem Reps.length:∀{ts:List T}{vs:List V},Reps K H ts vs->vs.length=ts.length
 | [],vs,h=>by rw[reps_nil]at h;subst h;rfl
 | t::ts,vs,h=>by
  rw[reps_cons]at h
  obtain⟨v,r,e,a,b⟩:=h
  subst e
  simp[Reps.length b]
theorem Reps.get:∀{ts:List T}{vs:List V}{i:Nat}{t:T},Reps K H ts vs->ts[i]?=some t->∃v,vs[i]?=some v/\Rep K H t v
 | [],vs,i,t,h,e=>by simp at e
 | t::ts,vs,0,t',h,e=>by
  rw[reps_cons]at h
  obtain⟨v,r,rfl,a,b⟩:=h
  simp at e
  subst e
  exact⟨v,rfl,a⟩
 | t::ts,vs,i + 1,t',h,e=>by
  rw[reps_cons]at h
  obtain⟨v,r,rfl,a,b⟩:=h
  obtain⟨u,h1,h2⟩:=Reps.get (i:=i) b (by simpa using e)
  exact⟨u,by simpa using h1,h2⟩
theorem Reps.append:∀{ts us:List T}{vs ws:List V},Reps K H ts vs->Reps K H us ws->Reps K H (ts++us) (vs++ws)
 | [],us,vs,ws,h,q=>by rw[reps_nil]at h;subst h;exact q
 | t::ts,us,vs,ws,h,q=>by
  rw[reps_cons]at h
  obtain⟨v,r,rfl,a,b⟩:=h
  show Reps K H (t::(ts++us)) (v::(r++ws))
  rw[reps_cons]
  exact⟨v,_,rfl,a,Reps.append b q⟩
theorem Reps.one{t:T}{v:V}(h:Rep K H t v):Reps K H [t] [v]:=by
 rw[reps_cons]
 exact⟨v,[],rfl,h,reps_nil.mpr rfl⟩
theorem Reps.cons{t:T}{v:V}{ts:List T}{vs:List V}(h:Rep K H t v)(r:Reps K H ts vs):Reps K H (t::ts) (v::vs):=by
 rw[reps_cons]
 exact⟨v,vs,rfl,h,r⟩
theorem Reps.take:∀{ts:List T}{vs:List V}(n:Nat),Reps K H ts vs->Reps K H (ts.take n) (vs.take n)
 | [],vs,n,h=>by rw[reps_nil]at h;subst h;simp[reps_nil]
 | t::ts,vs,0,h=>by simp[reps_nil]
 | t::ts,vs,n + 1,h=>by
  rw[reps_cons]at h
  obtain⟨v,r,rfl,a,b⟩:=h
  exact Reps.cons a (Reps.take n b)
theorem Reps.drop:∀{ts:List T}{vs:List V}(n:Nat),Reps K H ts vs->Reps K H (ts.drop n) (vs.drop n)
 | ts,vs,0,h=>by simpa using h
 | [],vs,n + 1,h=>by rw[reps_nil]at h;subst h;simp[reps_nil]
 | t::ts,vs,n + 1,h=>by
  rw[reps_cons]at h
  obtain⟨v,r,rfl,a,b⟩:=h
  exact Reps.drop n b
theorem reps_ints(ns:List Int):Reps K H (ns.map T.int) (ns.map V.int):=by
 induction ns with
 | nil=>exact reps_nil.mpr rfl
 | cons n r ih=>exact Reps.cons (rep_int.mpr rfl) ih
end
inductive Slot where
 | no|val (t:T)|own (ts:List T)|see (ts:List T)|dic (ps:List (Int×T))|vat (t:T) (v:V)|owd (p:Addr) (kvs:List (Key×T))
def sget:List Slot->Nat->Slot
 | [],_=>.no
 | s::_,0=>s
 | _::r,n + 1=>sget r n
def sput:List Slot->Nat->Slot->List Slot
 | [],_,_=>[]
 | _::r,0,x=>x::r
 | s::r,n + 1,x=>s::sput r n x
theorem length_sput:∀(τ:List Slot)(i:Nat)(x:Slot),(sput τ i x).length=τ.length
 | [],_,_=>rfl
 | _::_,0,_=>rfl
 | _::r,n + 1,x=>by simp[sput,length_sput r n x]
theorem sget_same:∀{τ:List Slot}{i:Nat}{x:Slot},i < τ.length->sget (sput τ i x) i=x
 | [],_,_,h=>by simp at h
 | _::_,0,_,_=>rfl
 | _::r,n + 1,x,h=>by simp only[sput,sget];exact sget_same (by simpa using h)
theorem sget_ne:∀{τ:List Slot}{i j:Nat}{x:Slot},i≠j->sget (sput τ i x) j=sget τ j
 | [],_,_,_,_=>rfl
 | _::_,0,0,_,h=>absurd rfl h
 | _::_,0,_ + 1,_,_=>rfl
 | _::_,_ + 1,0,_,_=>rfl
 | _::r,i + 1,j + 1,x,h=>by simp only[sput,sget];exact sget_ne (by omega)
theorem sget_big:∀{τ:List Slot}{i:Nat},τ.length<=i->sget τ i=.no
 | [],_,_=>rfl
 | _::r,0,h=>by simp at h
 | _::r,i + 1,h=>by simp only[sget];exact sget_big (by simpa using h)
def SlotOk(K:PySem.W.Frag)(H0 H:Hp):Slot->Option (Option V)->Prop
 | .no,_=>True
 | .val t,sv=>∃v,sv=some (some v)/\Rep K H t v
 | .own ts,sv=>∃p vs,sv=some (some (.ref p))/\H p=some (.lst vs)/\Reps K H ts vs/\H0 p=none
 | .see ts,sv=>∃p vs,sv=some (some (.ref p))/\H p=some (.lst vs)/\Reps K H ts vs/\H0 p≠none
 | .dic ps,sv=>∃(p:Addr) (o:Obj) (kvs:List (Int×V)),sv=some (some (.ref p))/\H p=some (.frz o (.dK (kvs.map toK)))/\kvs.map (·.1)=ps.map (·.1)/\Reps K H (ps.map (·.2)) (kvs.map (·.2))
 | .vat t v,sv=>sv=some (some v)/\Rep K H t v
 | .owd p kvs,sv=>sv=some (some (.ref p))/\(∃vs:List (Key×V),H p=some (.dK vs)/\vs.map (·.1)=kvs.map (·.1)/\Reps K H (kvs.map (·.2)) (vs.map (·.2)))/\H0 p=none
structure RepSt(K:PySem.W.Frag)(H0 H:Hp)(σ:St)(τ:List Slot):Prop where
 same:Same H0 H
 len:τ.length=σ.length
 slot:∀i,SlotOk K H0 H (sget τ i) (σ[i]?)
 apart:∀i j ts us p,i≠j->sget τ i=.own ts->sget τ j=.own us->σ[i]?=some (some (.ref p))->σ[j]?=some (some (.ref p))->False
section
variable {K:PySem.W.Frag} {H0 H H':Hp} {σ:St} {τ:List Slot}
theorem SlotOk.mono{s:Slot}{sv:Option (Option V)}(k:Same H H')(h:SlotOk K H0 H s sv):SlotOk K H0 H' s sv:=by
 cases s with
 | no=>trivial
 | val t=>obtain⟨v,e,r⟩:=h;exact⟨v,e,r.kp (.of k)⟩
 | own ts=>obtain⟨p,vs,e,h1,r,n⟩:=h;exact⟨p,vs,e,k _ _ h1,r.kp (.of k),n⟩
 | see ts=>obtain⟨p,vs,e,h1,r,n⟩:=h;exact⟨p,vs,e,k _ _ h1,r.kp (.of k),n⟩
 | dic ps=>obtain⟨p,o,kvs,e,h1,ek,r⟩:=h;exact⟨p,o,kvs,e,k _ _ h1,ek,r.kp (.of k)⟩
 | vat t v=>exact⟨h.1,h.2.kp (.of k)⟩
 | owd p kvs=>obtain⟨e,⟨vs,h1,ek,r⟩,n⟩:=h;exact⟨e,⟨vs,k _ _ h1,ek,r.kp (.of k)⟩,n⟩
theorem RepSt.mono(R:RepSt K H0 H σ τ)(k:Same H H'):RepSt K H0 H' σ τ :=
 ⟨R.same.trans k,R.len,fun i=>(R.slot i).mono k,R.apart⟩
theorem RepSt.put{i:Nat}{t:T}{v:V}(R:RepSt K H0 H σ τ)(r:Rep K H t v):RepSt K H0 H (σ.set i (some v)) (sput τ i (.val t)):=by
 refine⟨R.same,by rw[length_sput,List.length_set];exact R.len,fun j=>?_,fun a b ts us p hab ha hb ea eb=>?_⟩
 ·by_cases hij:i=j
  ·subst hij
   by_cases hi:i < τ.length
   ·rw[sget_same hi]
    exact⟨v,List.getElem?_set_self (by rw[← R.len];exact hi),r⟩
   ·rw[sget_big (by rw[length_sput];omega)]
    trivial
  ·rw[sget_ne hij,List.getElem?_set_ne hij]
   exact R.slot j
 ·have na:i≠a:=by
   rintro rfl
   by_cases hi:i < τ.length
   ·rw[sget_same hi]at ha;cases ha
   ·rw[sget_big (by rw[length_sput];omega)]at ha;cases ha
  have nb:i≠b:=by
   rintro rfl
   by_cases hi:i < τ.length
   ·rw[sget_same hi]at hb;cases hb
   ·rw[sget_big (by rw[length_sput];omega)]at hb;cases hb
  rw[sget_ne na]at ha
  rw[sget_ne nb]at hb
  rw[List.getElem?_set_ne na]at ea
  rw[List.getElem?_set_ne nb]at eb
  exact R.apart a b ts us p hab ha hb ea eb
theorem RepSt.putOwn{i:Nat}{ts:List T}{vs:List V}{p:Addr}(R:RepSt K H0 H σ τ)(hp:H p=none)(r:Reps K H ts vs):RepSt K H0 (upd H p (.lst vs)) (σ.set i (some (.ref p))) (sput τ i (.own ts)):=by
 have S:=same_new hp (.lst vs)
 refine⟨R.same.trans S,by rw[length_sput,List.length_set];exact R.len,fun j=>?_,fun a b ts' us q hab ha hb ea eb=>?_⟩
 ·by_cases hij:i=j
  ·subst hij
   by_cases hi:i < τ.length
   ·rw[sget_same hi]
    exact⟨p,vs,List.getElem?_set_self (by rw[← R.len];exact hi),upd_same,r.kp (.of S),R.same.free hp⟩
   ·rw[sget_big (by rw[length_sput];omega)]
    trivial
  ·rw[sget_ne hij,List.getElem?_set_ne hij]
   exact(R.slot j).mono S
 ·-- an elder own list stands at a tracked place,the new one did not
  have old:∀c ts,i≠c->sget (sput τ i (.own ts')) c=.own ts->σ[c]?≠some (some (.ref p)):=fun c ts hc hcs e=>by
   rw[sget_ne hc]at hcs
   have:=R.slot c
   rw[hcs]at this
   obtain⟨p',vs',e',h1,_⟩:=this
   rw[e]at e'
   cases e'
   rw[hp]at h1
   cases h1
  have isI:∀c,i=c->∀us,sget (sput τ i (.own ts)) c=.own us->(σ.set i (some (.ref p)))[c]?=some (some (.ref p)):=fun c hc us hcs=>by
   subst hc
   by_cases hi:i < τ.length
   ·exact List.getElem?_set_self (by rw[← R.len];exact hi)
   ·rw[sget_big (by rw[length_sput];omega)]at hcs;cases hcs
  by_cases ia:i=a
  ·have z:=isI a ia _ ha
   rw[z]at ea
   cases ea
   have ib:i≠b:=fun e=>hab (ia.symm.trans e)
   rw[List.getElem?_set_ne ib]at eb
   refine old b us ib ?_ eb
   rw[sget_ne ib]at hb ⊢
   exact hb
  ·rw[List.getElem?_set_ne ia]at ea
   by_cases ib:i=b
   ·have z:=isI b ib _ hb
    rw[z]at eb
    cases eb
    refine old a ts' ia ?_ ea
    rw[sget_ne ia]at ha ⊢
    exact ha
   ·rw[List.getElem?_set_ne ib]at eb
    rw[sget_ne ia]at ha
    rw[sget_ne ib]at hb
    exact R.apart a b ts' us q hab ha hb ea eb
theorem RepSt.write{i:Nat}{ts ts2:List T}{vs2:List V}{p:Addr}{xs:List V}(R:RepSt K H0 H σ τ)(hs:sget τ i=.own ts)(hσ:σ[i]?=some (some (.ref p)))(hp:H p=some (.lst xs))(r:Reps K H ts2 vs2) :
  RepSt K H0 (upd H p (.lst vs2)) σ (sput τ i (.own ts2)):=by
 have k:=Kp.write hp (.lst vs2)
 have n0:H0 p=none:=by
  have:=R.slot i
  rw[hs]at this
  obtain⟨p',vs',e',_,_,n⟩:=this
  rw[hσ]at e'
  cases e'
  exact n
 have hi:i < τ.length:=by
  by_cases hi:i < τ.length
  ·exact hi
  ·rw[sget_big (by omega)]at hs;cases hs
 refine⟨fun b o h=>?_,by rw[length_sput];exact R.len,fun j=>?_,fun a b ts' us q hab ha hb ea eb=>?_⟩
 ·have:=R.same b o h
  rw[upd_ne (by rintro rfl;rw[n0]at h;cases h)]
  exact this
 ·by_cases hij:i=j
  ·subst hij
   rw[sget_same hi]
   exact⟨p,vs2,hσ,upd_same,r.kp k,n0⟩
  ·rw[sget_ne hij]
   have sl:=R.slot j
   cases e:sget τ j with
   | no=>trivial
   | val t=>rw[e]at sl;obtain⟨v,e1,r1⟩:=sl;exact⟨v,e1,r1.kp k⟩
   | dic ps=>rw[e]at sl;obtain⟨q,o,kvs,e1,h1,ek,r1⟩:=sl;exact⟨q,o,kvs,e1,k.frz _ _ _ h1,ek,r1.kp k⟩
   | vat t v=>rw[e]at sl;exact⟨sl.1,sl.2.kp k⟩
   | owd q kvs=>rw[e]at sl;obtain⟨e1,⟨ws,h1,ek,r1⟩,n1⟩:=sl;exact⟨e1,⟨ws,by rw[upd_ne (by rintro rfl;rw[hp]at h1;cases h1)];exact h1,ek,r1.kp k⟩,n1⟩
   | own us =>
    rw[e]at sl
    obtain⟨q,ws,e1,h1,r1,n1⟩:=sl
    have nq:q≠p:=by rintro rfl;exact R.apart i j ts us q hij hs e hσ e1
    exact⟨q,ws,e1,by rw[upd_ne nq];exact h1,r1.kp k,n1⟩
   | see us =>
    rw[e]at sl
    obtain⟨q,ws,e1,h1,r1,n1⟩:=sl
    have nq:q≠p:=by rintro rfl;exact n1 n0
    exact⟨q,ws,e1,by rw[upd_ne nq];exact h1,r1.kp k,n1⟩
 ·have old:∀c us,sget (sput τ i (.own ts2)) c=.own us->∃us',sget τ c=.own us':=fun c us h=>by
   by_cases hc:i=c
   ·subst hc;exact⟨ts,hs⟩
   ·rw[sget_ne hc]at h;exact⟨us,h⟩
  obtain⟨u1,h1⟩:=old a _ ha
  obtain⟨u2,h2⟩:=old b _ hb
  exact R.apart a b u1 u2 q hab h1 h2 ea eb
theorem RepSt.freeze{i:Nat}{ts:List T}{vs:List V}{p:Addr}{o:Obj}(R:RepSt K H0 H σ τ)(hs:sget τ i=.own ts)(hσ:σ[i]?=some (some (.ref p)))(hp:H p=some (.lst vs))(r:Reps K H ts vs) :
  RepSt K H0 (upd H p (.frz o (.lst vs))) σ (sput τ i (.val (.lst ts))):=by
 have k:=Kp.write hp (.frz o (.lst vs))
 have n0:H0 p=none:=by
  have:=R.slot i
  rw[hs]at this
  obtain⟨p',vs',e',_,_,n⟩:=this
  rw[hσ]at e'
  cases e'
  exact n
 have hi:i < τ.length:=by
  by_cases hi:i < τ.length
  ·exact hi
  ·rw[sget_big (by omega)]at hs;cases hs
 refine⟨fun b o' h=>?_,by rw[length_sput];exact R.len,fun j=>?_,fun a b ts' us q hab ha hb ea eb=>?_⟩
 ·have:=R.same b o' h
  rw[upd_ne (by rintro rfl;rw[n0]at h;cases h)]
  exact this
 ·by_cases hij:i=j
  ·subst hij
   rw[sget_same hi]
   exact⟨.ref p,hσ,rep_lst.mpr ⟨p,vs,rfl,.inl ⟨o,upd_same⟩,r.kp k⟩⟩
  ·rw[sget_ne hij]
   have sl:=R.slot j
   cases e:sget τ j with
   | no=>trivial
   | val t=>rw[e]at sl;obtain⟨v,e1,r1⟩:=sl;exact⟨v,e1,r1.kp k⟩
   | dic ps=>rw[e]at sl;obtain⟨q,o,kvs,e1,h1,ek,r1⟩:=sl;exact⟨q,o,kvs,e1,k.frz _ _ _ h1,ek,r1.kp k⟩
   | vat t v=>rw[e]at sl;exact⟨sl.1,sl.2.kp k⟩
   | owd q kvs=>rw[e]at sl;obtain⟨e1,⟨ws,h1,ek,r1⟩,n1⟩:=sl;exact⟨e1,⟨ws,by rw[upd_ne (by rintro rfl;rw[hp]at h1;cases h1)];exact h1,ek,r1.kp k⟩,n1⟩
   | own us =>
    rw[e]at sl
    obtain⟨q,ws,e1,h1,r1,n1⟩:=sl
    have nq:q≠p:=by rintro rfl;exact R.apart i j ts us q hij hs e hσ e1
    exact⟨q,ws,e1,by rw[upd_ne nq];exact h1,r1.kp k,n1⟩
   | see us =>
    rw[e]at sl
    obtain⟨q,ws,e1,h1,r1,n1⟩:=sl
    have nq:q≠p:=by rintro rfl;exact n1 n0
    exact⟨q,ws,e1,by rw[upd_ne nq];exact h1,r1.kp k,n1⟩
 ·have na:i≠a:=by
   rintro rfl
   rw[sget_same hi]at ha
   cases ha
  have nb:i≠b:=by
   rintro rfl
   rw[sget_same hi]at hb
   cases hb
  rw[sget_ne na]at ha
  rw[sget_ne nb]at hb
  exact R.apart a b ts' us q hab ha hb ea eb
end
abbrev WE:=List Slot->(T->Prop)->Prop
abbrev WT:=List Slot->(Bool->Prop)->Prop
abbrev WA:=List Slot->(List T->Prop)->Prop
structure DT where
 nx:List Slot->Prop
 rt:T->Prop
 bk:List Slot->Prop:=fun _=>False
 ct:List Slot->Prop:=fun _=>False
abbrev WS:=DT->List Slot->Prop
def up(K:PySem.W.Frag)(H0:Hp)(w:WE):TE:=fun σ H Q=>∃(τ:List Slot) (Q0:T->Prop),RepSt K H0 H σ τ/\w τ Q0/\∀t v H',Same H H'->Rep K H' t v->Q0 t->Q v H'
def upT(K:PySem.W.Frag)(H0:Hp)(w:WT):TT:=fun σ H Q=>∃(τ:List Slot) (Q0:Bool->Prop),RepSt K H0 H σ τ/\w τ Q0/\∀b H',Same H H'->Q0 b->Q b H'
def upA(K:PySem.W.Frag)(H0:Hp)(w:WA):TA:=fun σ H Q=>∃(τ:List Slot) (Q0:List T->Prop),RepSt K H0 H σ τ/\w τ Q0/\∀ts vs H',Same H H'->Reps K H' ts vs->Q0 ts->Q vs H'
def upS(K:PySem.W.Frag)(H0:Hp)(w:WS):TS:=fun D σ H=>∃(τ:List Slot) (D0:DT),RepSt K H0 H σ τ/\w D0 τ ∧
 (∀τ' σ' H',Kp H H'->RepSt K H0 H' σ' τ'->D0.nx τ'->D.nx σ' H')/\(∀t v H',Same H0 H'->Rep K H' t v->D0.rt t->D.rt v H') ∧
 (∀τ' σ' H',Kp H H'->RepSt K H0 H' σ' τ'->D0.bk τ'->D.bk σ' H')/\(∀τ' σ' H',Kp H H'->RepSt K H0 H' σ' τ'->D0.ct τ'->D.ct σ' H')
def JE(X:Cx)(e:Expr)(w:WE):Prop:=PE X e (up X.K X.H₀ w)
def JT(X:Cx)(e:Expr)(w:WT):Prop:=PT X e (upT X.K X.H₀ w)
def JA(X:Cx)(es:List Expr)(w:WA):Prop:=PA X es (upA X.K X.H₀ w)
def JS(X:Cx)(st:Stmt)(w:WS):Prop:=PS X st (upS X.K X.H₀ w)
def JSs(X:Cx)(st:List Stmt)(w:WS):Prop:=PSs X st (upS X.K X.H₀ w)
theorem pe_of{X:Cx}{e:Expr}{t t':TE}(h:PE X e t)(f:∀σ H Q,t' σ H Q->t σ H Q):PE X e t':=fun pins s σ H Q I hw=>h pins s σ H Q I (f σ H Q hw)
theorem pt_of{X:Cx}{e:Expr}{t t':TT}(h:PT X e t)(f:∀σ H Q,t' σ H Q->t σ H Q):PT X e t':=fun pins s σ H Q I hw=>h pins s σ H Q I (f σ H Q hw)
theorem pw_of{X:Cx}{e:Expr}{t t':TT}(h:PW X e t)(f:∀σ H Q,t' σ H Q->t σ H Q):PW X e t':=fun wh pins s σ H Q I hw=>h wh pins s σ H Q I (f σ H Q hw)
theorem pa_of{X:Cx}{es:List Expr}{t t':TA}(h:PA X es t)(f:∀σ H Q,t' σ H Q->t σ H Q):PA X es t':=fun pos pins s σ H Q I hw=>h pos pins s σ H Q I (f σ H Q hw)
theorem ps_of{X:Cx}{st:Stmt}{t t':TS}(h:PS X st t)(f:∀D σ H,t' D σ H->t D σ H):PS X st t':=fun pins s σ H D I hw=>h pins s σ H D I (f D σ H hw)
theorem pss_of{X:Cx}{st:List Stmt}{t t':TS}(h:PSs X st t)(f:∀D σ H,t' D σ H->t D σ H):PSs X st t':=fun pins s σ H D I hw=>h pins s σ H D I (f D σ H hw)
end TL
end
section
namespace TL
open PySem PySem.Spec PyProof.Rows L2
section
variable {X:Cx} {a b c e:Expr} {es:List Expr} {wa wb wc w:WE} {pos:Pos}
def wVar(i:Nat):WE:=fun τ Q=>match sget τ i with | .val t=>Q t | .vat t _=>Q t|_=>False
def wC(t:T):WE:=fun _ Q=>Q t
theorem je_of_var{i:Nat}(h:PE X e (tVar i)):JE X e (wVar i):=pe_of h fun σ H Q ⟨τ,Q0,R,hw,k⟩=>by
 have s:=R.slot i
 unfold wVar at hw
 cases z:sget τ i with
 | no=>rw[z]at hw;exact hw.elim
 | own ts=>rw[z]at hw;exact hw.elim
 | see ts=>rw[z]at hw;exact hw.elim
 | dic ts=>rw[z]at hw;exact hw.elim
 | owd p q=>rw[z]at hw;exact hw.elim
 | vat t v =>
  rw[z]at hw s
  exact⟨v,s.1,k t v H (.refl H) s.2 hw⟩
 | val t =>
  rw[z]at hw s
  obtain⟨v,ev,r⟩:=s
  exact⟨v,ev,k t v H (.refl H) r hw⟩
theorem jv(i:Nat){x:Str}{pos:Pos}(hN:X.N[i]?=some x:=by rfl)(hv:Vis X.env.scope x:=by first|exact Or.inl rfl|exact Or.inr (Or.inl rfl)|exact Or.inr (Or.inr rfl)) (hd:(x==("__debug__" : Str))=false:=by decide)
  (hcd:(x==("__classdict__" : Str))=false:=by decide):JE X (.Name x pos) (wVar i):=je_of_var (pe_var hN hv hd hcd)
theorem je_const{v:V}{t:T}(h:PE X e (tC v))(r:∀H,Rep X.K H t v):JE X e (wC t):=pe_of h fun σ H Q ⟨τ,Q0,R,hw,k⟩=>k t v H (.refl H) (r H) hw
theorem ji{i j pos}:JE X (.Constant (.int i) j pos) (wC (.int i)):=je_const pe_int fun _=>rep_int.mpr rfl
theorem jb{b j pos}:JE X (.Constant (.bool b) j pos) (wC (.bl b)):=je_const pe_bl fun _=>rep_bl.mpr rfl
theorem jn{j pos}:JE X (.Constant .none j pos) (wC .non):=je_const pe_non fun _=>rep_non.mpr rfl
theorem js{x j pos}:JE X (.Constant (.str x) j pos) (wC (.str x)):=je_const pe_str fun _=>rep_str.mpr rfl
theorem jglob{x:Str}{v:V}{u:Value}{t:T}{pos:Pos}(hg:Gl X x)(hm:X.mg x=some u)(r:RelV v u)(q:∀H,Rep X.K H t v) (hd:(x==("__debug__" : Str))=false:=by decide):JE X (.Name x pos) (wC t) :=
 je_const (pe_glob hg hm r hd) q
def w2(r:T->T->(T->Prop)->Prop)(wa wb:WE):WE:=fun τ Q=>wa τ fun x=>wb τ fun y=>r x y Q
def BR(X:Cx)(op:Operator)(rT:T->T->(T->Prop)->Prop):Prop:=∃r:R2,OpR X (binaryOp op) r/\∀t1 t2 v1 v2 H (Q0:T->Prop) (Q:VK),Rep X.K H t1 v1->Rep X.K H t2 v2->rT t1 t2 Q0 →
 (∀t v H',Same H H'->Rep X.K H' t v->Q0 t->Q v H')->r v1 v2 H Q
theorem up2{r:R2}{rT:T->T->(T->Prop)->Prop}{K:PySem.W.Frag}{H0:Hp} (br:∀t1 t2 v1 v2 H (Q0:T->Prop) (Q:VK),Rep K H t1 v1->Rep K H t2 v2->rT t1 t2 Q0 →
  (∀t v H',Same H H'->Rep K H' t v->Q0 t->Q v H')->r v1 v2 H Q) (σ:St) (H:Hp) (Q:VK) (h:up K H0 (w2 rT wa wb) σ H Q):tOp r (up K H0 wa) (up K H0 wb) σ H Q:=by
 obtain⟨τ,Q0,R,hw,k⟩:=h
 exact⟨τ,_,R,hw,fun t1 v1 H1 S1 r1 q1=>⟨τ,_,R.mono S1,q1,fun t2 v2 H2 S2 r2 q2=>br t1 t2 v1 v2 H2 Q0 Q (r1.kp (.of S2)) r2 q2 fun t v H' S3 r q=>k t v H' (S1.trans (S2.trans S3)) r q⟩⟩
theorem jop{op:Operator}{rT:T->T->(T->Prop)->Prop}(h:BR X op rT)(ha:JE X a wa)(hb:JE X b wb):JE X (.BinOp a op b pos) (w2 rT wa wb):=by
 obtain⟨r,ho,br⟩:=h
 exact pe_of (pe_op ho ha hb) (up2 br)
def rAddT(x y:T)(Q:T->Prop):Prop:=match x,y with | .int i,.int j=>Q (.int (i + j))|_,_=>False
def rSubT(x y:T)(Q:T->Prop):Prop:=match x,y with | .int i,.int j=>Q (.int (i - j))|_,_=>False
def Lim(n:Nat)(i:Int):Prop:=i.natAbs < 10 ^ n
def MulOk(i j:Int):Prop:=(∃m n,m<=100000/\n<=100000/\Lim m i/\Lim n j)∨Lim 19 i∨Lim 19 j
def DivOk(j:Int):Prop:=j≠0/\∃n,n<=2200/\Lim n j
def rMulT(x y:T)(Q:T->Prop):Prop:=match x,y with | .int i,.int j=>MulOk i j/\Q (.int (i * j))|_,_=>False
def rDivT(x y:T)(Q:T->Prop):Prop:=match x,y with | .int i,.int j=>DivOk j/\Q (.int (i.fdiv j))|_,_=>False
def rModT(x y:T)(Q:T->Prop):Prop:=match x,y with | .int i,.int j=>j≠0/\Q (.int (i.fmod j))|_,_=>False
def rPowT(x y:T)(Q:T->Prop):Prop:=match x,y with | .int i,.int j=>CPow i j/\Q (.int (i ^ j.toNat))|_,_=>False
theorem br_int{op:Operator}{C:Int->Int->Prop}{g:Int->Int->Int}(h:OpR X (binaryOp op) (rI C fun i j=>.int (g i j))) :
  BR X op (fun x y Q=>match x,y with | .int i,.int j=>C i j/\Q (.int (g i j))|_,_=>False):=by
 refine⟨_,h,fun t1 t2 v1 v2 H Q0 Q r1 r2 q k=>?_⟩
 cases t1<;>cases t2<;>first|exact q.elim|skip
 rename_i i j
 exact⟨i,j,rep_int.mp r1,rep_int.mp r2,q.1,k _ _ H (.refl H) (rep_int.mpr rfl) q.2⟩
theorem br_int0{op:Operator}{g:Int->Int->Int}(h:OpR X (binaryOp op) (rI0 fun i j=>.int (g i j))) :
  BR X op (fun x y Q=>match x,y with | .int i,.int j=>Q (.int (g i j))|_,_=>False):=by
 refine⟨_,h,fun t1 t2 v1 v2 H Q0 Q r1 r2 q k=>?_⟩
 cases t1<;>cases t2<;>first|exact q.elim|skip
 rename_i i j
 exact⟨i,j,rep_int.mp r1,rep_int.mp r2,k _ _ H (.refl H) (rep_int.mpr rfl) q⟩
theorem b_add:BR X .Add rAddT:=br_int0 op_add
theorem b_sub:BR X .Sub rSubT:=br_int0 op_sub
theorem log2_of_lim{n:Nat}{i:Int}(h:Lim n i):i.natAbs.log2 < 4 * n + 1:=by
 by_cases h0:i.natAbs=0
 ·rw[h0];simp
 ·rw[Nat.log2_lt h0]
  have h1:(10:Nat) ^ n<=16 ^ n:=Nat.pow_le_pow_left (by decide) n
  have h2:(16:Nat) ^ n=2 ^ (4 * n):=by rw[show (16:Nat)=2 ^ 4 from rfl,← Nat.pow_mul]
  have h3:(2:Nat) ^ (4 * n + 1)=2 ^ (4 * n) * 2:=Nat.pow_succ ..
  have h4:i.natAbs < 10 ^ n:=h
  have h5:0 < (2:Nat) ^ (4 * n):=Nat.pos_of_ne_zero (by simp)
  omega
theorem bits_of_lim{n:Nat}{i:Int}(h:Lim n i)(hn:n<=100000):Builtin.Int.intBits i<=2 ^ 20:=by
 have:=log2_of_lim h
 have e:(2:Nat) ^ 20=1048576:=by decide
 unfold Builtin.Int.intBits
 split<;>omega
theorem bits_of_19{i:Int}(h:Lim 19 i):Builtin.Int.intBits i<=64:=by
 unfold Lim at h
 have h2:i.natAbs < 2 ^ 64:=Nat.lt_of_lt_of_le h (by decide)
 unfold Builtin.Int.intBits
 split
 ·omega
 ·rename_i z
  have:=(Nat.log2_lt (n:=i.natAbs) (k:=64) (by simpa using z)).mpr h2
  omega
theorem MulOk.ok{i j:Int}(h:MulOk i j):IntMulOk i j:=by
 rcases h with ⟨m,n,hm,hn,a,b⟩|a|b
 ·exact .of_bits (bits_of_lim a hm) (bits_of_lim b hn)
 ·exact .of_left (bits_of_19 a)
 ·exact .of_right (bits_of_19 b)
theorem DivOk.ok{i j:Int}(h:DivOk j):Builtin.divisionGoesByPylong i j=false:=by
 obtain⟨_,n,hn,a⟩:=h
 have:=log2_of_lim a
 exact PyProof.noPylong_of_log2 (by omega)
theorem b_mul:BR X .Mult rMulT:=br_int (C:=MulOk) (opI fun _ _ _ _ _ _ _ hc q=>mul_int q hc.ok)
theorem b_div:BR X .FloorDiv rDivT:=br_int (C:=fun _ j=>DivOk j) (opI fun _ _ _ _ _ _ _ hc q=>floordiv_int hc.1 q (.inl hc.ok))
theorem b_mod:BR X .Mod rModT:=br_int (C:=fun _ j=>j≠0) op_modN
theorem b_pow:BR X .Pow rPowT:=br_int (C:=CPow) op_pow
def wNeg(wa:WE):WE:=fun τ Q=>wa τ fun x=>match x with | .int i=>Q (.int (-i))|_=>False
theorem jneg(ha:JE X a wa):JE X (.UnaryOp .USub a pos) (wNeg wa):=pe_of (pe_un un_neg ha) fun σ H Q ⟨τ,Q0,R,hw,k⟩=>⟨τ,_,R,hw,fun t v H1 S1 r1 q1=>by
 cases t<;>first|exact q1.elim|skip
 rename_i i
 exact⟨i,rep_int.mp r1,k _ _ H1 S1 (rep_int.mpr rfl) q1⟩⟩
def CRT(X:Cx)(op:CmpOp)(cT:T->T->(Bool->Prop)->Prop):Prop:=∃r:R2,OpR X (compareOp op) r/\∀t1 t2 v1 v2 H (Q0:Bool->Prop) (Q:VK),Rep X.K H t1 v1->Rep X.K H t2 v2->cT t1 t2 Q0 →
 (∀b,Q0 b->Q (.bl b) H)->r v1 v2 H Q
def wCmp(cT:T->T->(Bool->Prop)->Prop)(wa wb:WE):WE:=fun τ Q=>wa τ fun x=>wb τ fun y=>cT x y fun b=>Q (.bl b)
def tCmpT(cT:T->T->(Bool->Prop)->Prop)(wa wb:WE):WT:=fun τ Q=>wa τ fun x=>wb τ fun y=>cT x y Q
theorem jcmp{op:CmpOp}{cT:T->T->(Bool->Prop)->Prop}(h:CRT X op cT)(ha:JE X a wa)(hb:JE X b wb)(hm:behindInMarks op b=false):JE X (.Compare a [op] [b] pos) (wCmp cT wa wb):=by
 obtain⟨r,ho,br⟩:=h
 refine pe_of (pe_cmpR ho ha hb hm) fun σ H Q ⟨τ,Q0,R,hw,k⟩=>?_
 exact⟨τ,_,R,hw,fun t1 v1 H1 S1 r1 q1=>⟨τ,_,R.mono S1,q1,fun t2 v2 H2 S2 r2 q2=>br t1 t2 v1 v2 H2 _ Q (r1.kp (.of S2)) r2 q2 fun b q=>k _ _ H2 (S1.trans S2) (rep_bl.mpr rfl) q⟩⟩
theorem tcmp{op:CmpOp}{cT:T->T->(Bool->Prop)->Prop}(h:CRT X op cT)(ha:JE X a wa)(hb:JE X b wb)(hm:behindInMarks op b=false):JT X (.Compare a [op] [b] pos) (tCmpT cT wa wb):=by
 obtain⟨r,ho,br⟩:=h
 refine pt_of (pt_cmpR ho ha hb hm) fun σ H Q ⟨τ,Q0,R,hw,k⟩=>?_
 exact⟨τ,_,R,hw,fun t1 v1 H1 S1 r1 q1=>⟨τ,_,R.mono S1,q1,fun t2 v2 H2 S2 r2 q2=>br t1 t2 v1 v2 H2 _ _ (r1.kp (.of S2)) r2 q2 fun b q=>⟨b,rfl,k _ H2 (S1.trans S2) q⟩⟩⟩
def cLtT(x y:T)(Q:Bool->Prop):Prop:=match x,y with | .int i,.int j=>Q (decide (i < j))|_,_=>False
def cLeT(x y:T)(Q:Bool->Prop):Prop:=match x,y with | .int i,.int j=>Q (decide (i<=j))|_,_=>False
def cGtT(x y:T)(Q:Bool->Prop):Prop:=match x,y with | .int i,.int j=>Q (decide (j < i))|_,_=>False
def cGeT(x y:T)(Q:Bool->Prop):Prop:=match x,y with | .int i,.int j=>Q (decide (j<=i))|_,_=>False
theorem cr_int{op:CmpOp}{g:Int->Int->Bool}(h:OpR X (compareOp op) (rI0 fun i j=>.bl (g i j))) :
  CRT X op (fun x y Q=>match x,y with | .int i,.int j=>Q (g i j)|_,_=>False):=by
 refine⟨_,h,fun t1 t2 v1 v2 H Q0 Q r1 r2 q k=>?_⟩
 cases t1<;>cases t2<;>first|exact q.elim|skip
 rename_i i j
 exact⟨i,j,rep_int.mp r1,rep_int.mp r2,k _ q⟩
theorem c_lt:CRT X .Lt cLtT:=cr_int op_lt
theorem c_le:CRT X .LtE cLeT:=cr_int op_le
theorem c_gt:CRT X .Gt cGtT:=cr_int op_gt
theorem c_ge:CRT X .GtE cGeT:=cr_int op_ge
mutual
def eqT:T->T->Bool
 | .non,.non=>true
 | .bl a,.bl b=>a==b
 | .bl a,.int b=>decide ((if a then 1 else 0)=b)
 | .int a,.bl b=>decide (a=(if b then 1 else 0))
 | .int a,.int b=>decide (a=b)
 | .str a,.str b=>a==b
 | .tup xs,.tup ys=>eqTs xs ys
 | .lst xs,.lst ys=>eqTs xs ys
 | _,_=>false
def eqTs:List T->List T->Bool
 | [],[]=>true
 | x::xs,y::ys=>eqT x y&&eqTs xs ys
 | _,_=>false
end
theorem eqTb(a b:Bool):eqT (.bl a) (.bl b)=(a==b):=rfl
theorem eqTe(a b:Int):eqT (.int a) (.int b)=decide (a=b):=rfl
theorem eqTf(a b:Str):eqT (.str a) (.str b)=(a==b):=rfl
theorem eqTg(a b:List T):eqT (.tup a) (.tup b)=eqTs a b:=rfl
theorem eqTh(a b:List T):eqT (.lst a) (.lst b)=eqTs a b:=rfl
theorem eqTi:eqTs [] []=true:=rfl
theorem eqTj(x y:T)(xs ys:List T):eqTs (x::xs) (y::ys)=(eqT x y&&eqTs xs ys):=rfl
mutual
def pd:T->PyData
 | .non=>.none
 | .bl b=>.bool b
 | .int i=>.int i
 | .str x=>.str x
 | .tup ts=>.tuple (pds ts)
 | .lst ts=>.list (pds ts)
 | .dct=>.dict []
 | .exc _=>.dict []
 | .exf _ _ _=>.dict []
 | .dic _ _=>.dict []
def pds:List T->List PyData
 | []=>[]
 | t::ts=>pd t::pds ts
end
mutual
theorem eqT_pd:∀x y:T,PyData.eqv (pd x) (pd y)=eqT x y
 | .tup xs,.tup ys=>by simp only[pd,PyData.eqv,eqTg,eqTh];exact eqTs_pd xs ys
 | .lst xs,.lst ys=>by simp only[pd,PyData.eqv,eqTg,eqTh];exact eqTs_pd xs ys
 | .non,y=>by cases y<;>simp only[pd,PyData.eqv]<;>rfl
 | .bl _,y=>by cases y<;>simp only[pd,PyData.eqv]<;>rfl
 | .int _,y=>by cases y<;>simp only[pd,PyData.eqv]<;>rfl
 | .str _,y=>by cases y<;>simp only[pd,PyData.eqv]<;>rfl
 | .tup _,.non=>by simp only[pd,PyData.eqv]<;>rfl
 | .tup _,.bl _=>by simp only[pd,PyData.eqv]<;>rfl
 | .tup _,.int _=>by simp only[pd,PyData.eqv]<;>rfl
 | .tup _,.str _=>by simp only[pd,PyData.eqv]<;>rfl
 | .tup _,.lst _=>by simp only[pd,PyData.eqv]<;>rfl
 | .tup _,.dct=>by simp only[pd,PyData.eqv]<;>rfl
 | .tup _,.exc _=>by simp only[pd,PyData.eqv]<;>rfl
 | .tup _,.exf _ _ _=>by simp only[pd,PyData.eqv]<;>rfl
 | .tup _,.dic _ _=>by simp only[pd,PyData.eqv]<;>rfl
 | .lst _,.dct=>by simp only[pd,PyData.eqv]<;>rfl
 | .lst _,.exc _=>by simp only[pd,PyData.eqv]<;>rfl
 | .lst _,.exf _ _ _=>by simp only[pd,PyData.eqv]<;>rfl
 | .lst _,.dic _ _=>by simp only[pd,PyData.eqv]<;>rfl
 | .dct,y=>by cases y<;>simp only[pd,PyData.eqv]<;>rfl
 | .exc _,y=>by cases y<;>simp only[pd,PyData.eqv]<;>rfl
 | .exf _ _ _,y=>by cases y<;>simp only[pd,PyData.eqv]<;>rfl
 | .dic _ _,y=>by cases y<;>simp only[pd,PyData.eqv]<;>rfl
 | .lst _,.non=>by simp only[pd,PyData.eqv]<;>rfl
 | .lst _,.bl _=>by simp only[pd,PyData.eqv]<;>rfl
 | .lst _,.int _=>by simp only[pd,PyData.eqv]<;>rfl
 | .lst _,.str _=>by simp only[pd,PyData.eqv]<;>rfl
 | .lst _,.tup _=>by simp only[pd,PyData.eqv]<;>rfl
theorem eqTs_pd:∀xs ys:List T,PyData.eqvAll (pds xs) (pds ys)=eqTs xs ys
 | [],[]=>by simp only[pds,PyData.eqvAll]<;>rfl
 | [],_::_=>by simp only[pds,PyData.eqvAll]<;>rfl
 | _::_,[]=>by simp only[pds,PyData.eqvAll]<;>rfl
 | x::xs,y::ys=>by simp only[pds,PyData.eqvAll,eqTj];rw[eqT_pd x y,eqTs_pd xs ys]
end
def plain(t:T):Bool:=(pd t).canLay0
def dep(t:T):Nat:=(pd t).depth
mutual
theorem reads_of{pins:List (Addr×Obj)}{s:Shared}{σ:St}{H:Hp}(I:Inv X pins σ H s):∀{t:T}{v:V}{u:Value},plain t=true->Rep X.K H t v->RelV v u->∃as,Reads s.heap u (pd t) as
 | .non,v,u,hp,r,q=>by rw[rep_non]at r;subst r;cases q;exact⟨_,.none⟩
 | .bl b,v,u,hp,r,q=>by rw[rep_bl]at r;subst r;cases q;exact⟨_,.bool b⟩
 | .int i,v,u,hp,r,q=>by rw[rep_int]at r;subst r;obtain⟨t,rfl⟩:=q;exact⟨_,.int i t⟩
 | .str x,v,u,hp,r,q=>by rw[rep_str]at r;subst r;obtain⟨t,rfl⟩:=q;exact⟨_,.str x t⟩
 | .tup ts,v,u,hp,r,q=>by
  rw[rep_tup]at r
  obtain⟨p,vs,rfl,sq,rr⟩:=r
  cases q
  obtain⟨its,rv,⟨o,ho,hc,n,hd⟩,_⟩:=I.tuple sq
  obtain⟨as,ra⟩:=readss_of I (show PyData.canLayAll0 (pds ts)=true from by simpa [plain,pd,PyData.canLay0] using hp) rr rv
  exact⟨_,.tuple ho hc hd (by simpa using ra)⟩
 | .lst ts,v,u,hp,r,q=>by
  rw[rep_lst]at r
  obtain⟨p,vs,rfl,sq,rr⟩:=r
  cases q
  obtain⟨its,rv,pl,_⟩:=I.list sq.sq
  obtain⟨o,ho,hc,n,hd⟩:=pl.isList
  obtain⟨as,ra⟩:=readss_of I (show PyData.canLayAll0 (pds ts)=true from by simpa [plain,pd,PyData.canLay0] using hp) rr rv
  exact⟨_,.list ho hc hd (by simpa using ra)⟩
 | .dct,v,u,hp,r,q=>by simp[plain,pd,PyData.canLay0]at hp
 | .exc _,v,u,hp,r,q=>by simp[plain,pd,PyData.canLay0]at hp
 | .exf _ _ _,v,u,hp,r,q=>by simp[plain,pd,PyData.canLay0]at hp
 | .dic _ _,v,u,hp,r,q=>by simp[plain,pd,PyData.canLay0]at hp
theorem readss_of{pins:List (Addr×Obj)}{s:Shared}{σ:St}{H:Hp}(I:Inv X pins σ H s):∀{ts:List T}{vs:List V}{us:List Value},PyData.canLayAll0 (pds ts)=true->Reps X.K H ts vs->Vals vs us->∃as,ReadsAll s.heap us (pds ts) as
 | [],vs,us,hp,r,q=>by rw[reps_nil]at r;subst r;cases q;exact⟨_,.nil⟩
 | t::ts,vs,us,hp,r,q=>by
  have hp':((pd t).canLay0&&PyData.canLayAll0 (pds ts))=true:=hp
  rw[Bool.and_eq_true]at hp'
  rw[reps_cons]at r
  obtain⟨v,vr,rfl,r1,r2⟩:=r
  cases q with
  | cons q1 q2 =>
   obtain⟨as,a1⟩:=reads_of I hp'.1 r1 q1
   obtain⟨bs,a2⟩:=readss_of I hp'.2 r2 q2
   exact⟨_,.cons a1 a2⟩
end
def EqOk(x y:T):Prop:=plain x=true/\plain y=true/\min (dep x) (dep y)<=60
def cEqT(x y:T)(Q:Bool->Prop):Prop:=match x,y with
 | .int i,.int j=>Q (decide (i=j))
 | x,y=>EqOk x y/\Q (eqT x y)
def cNeT(x y:T)(Q:Bool->Prop):Prop:=match x,y with
 | .int i,.int j=>Q (!decide (i=j))
 | x,y=>EqOk x y/\Q (!eqT x y)
theorem ok_ints(i j:Int):EqOk (.int i) (.int j):=by
 refine⟨by simp[plain,pd,PyData.canLay0],by simp[plain,pd,PyData.canLay0],by simp[dep,pd,PyData.depth]⟩
theorem cEqT_gen{x y:T}{Q:Bool->Prop}(h:cEqT x y Q):EqOk x y/\Q (eqT x y):=by
 unfold cEqT at h
 split at h
 ·exact⟨ok_ints _ _,by simpa only [eqTe] using h⟩
 ·exact h
theorem cNeT_gen{x y:T}{Q:Bool->Prop}(h:cNeT x y Q):EqOk x y/\Q (!eqT x y):=by
 unfold cNeT at h
 split at h
 ·exact⟨ok_ints _ _,by simpa only [eqTe] using h⟩
 ·exact h
theorem c_eq{k:Nat}(hr:Room k X.A):CRT X .Eq cEqT:=by
 refine⟨fun x y H Q=>∃t1 t2,Rep X.K H t1 x/\Rep X.K H t2 y/\EqOk t1 t2/\Q (.bl (eqT t1 t2)) H,?_,fun t1 t2 v1 v2 H Q0 Q r1 r2 q k=>?_⟩
 ·intro pins s σ H x y v u Q I rx ry h
  obtain⟨t1,t2,r1,r2,⟨p1,p2,hd⟩,q⟩:=h
  obtain⟨as,a1⟩:=reads_of I p1 r1 rx
  obtain⟨bs,a2⟩:=reads_of I p2 r2 ry
  have hu:=hr.units
  have hd':min (pd t1).depth (pd t2).depth<=60:=hd
  refine SeqAt.compareEq_reads a1 a2 p1 p2 (by omega) ⟨.bl _,H,I,rfl,?_⟩
  rw[eqT_pd]
  exact q
 ·obtain⟨ok,q⟩:=cEqT_gen q
  exact⟨t1,t2,r1,r2,ok,k _ q⟩
theorem c_ne{k:Nat}(hr:Room k X.A):CRT X .NotEq cNeT:=by
 refine⟨fun x y H Q=>∃t1 t2,Rep X.K H t1 x/\Rep X.K H t2 y/\EqOk t1 t2/\Q (.bl (!eqT t1 t2)) H,?_,fun t1 t2 v1 v2 H Q0 Q r1 r2 q k=>?_⟩
 ·intro pins s σ H x y v u Q I rx ry h
  obtain⟨t1,t2,r1,r2,⟨p1,p2,hd⟩,q⟩:=h
  obtain⟨as,a1⟩:=reads_of I p1 r1 rx
  obtain⟨bs,a2⟩:=reads_of I p2 r2 ry
  have hu:=hr.units
  have hd':min (pd t1).depth (pd t2).depth<=60:=hd
  refine SeqAt.compareNe_reads a1 a2 p1 p2 (by omega) ⟨.bl _,H,I,rfl,?_⟩
  rw[eqT_pd]
  exact q
 ·obtain⟨ok,q⟩:=cNeT_gen q
  exact⟨t1,t2,r1,r2,ok,k _ q⟩
def isNonT:T->Bool
 | .non=>true
 | _=>false
def cIsN(x y:T)(Q:Bool->Prop):Prop:=match y with
 | .non=>Q (isNonT x)
 | _=>False
def cNotN(x y:T)(Q:Bool->Prop):Prop:=match y with
 | .non=>Q (!isNonT x)
 | _=>False
theorem rep_is_non{K:PySem.W.Frag}{H:Hp}{t:T}{v:V}(r:Rep K H t v):decide (v=.non)=isNonT t:=by
 cases t with
 | non=>rw[rep_non]at r;subst r;rfl
 | bl b=>rw[rep_bl]at r;subst r;rfl
 | int b=>rw[rep_int]at r;subst r;rfl
 | str b=>rw[rep_str]at r;subst r;rfl
 | tup b=>rw[rep_tup]at r;obtain⟨p,vs,rfl,_⟩:=r;rfl
 | lst b=>rw[rep_lst]at r;obtain⟨p,vs,rfl,_⟩:=r;rfl
 | dct=>rw[rep_dct]at r;obtain⟨p,rfl,_⟩:=r;rfl
 | exc c=>rw[rep_exc]at r;obtain⟨p,rfl,_⟩:=r;rfl
 | exf c f t=>rw[rep_exf]at r;obtain⟨p,rfl,_⟩:=r;rfl
 | dic ks ts=>rw[rep_dic]at r;obtain⟨p,o,kvs,rfl,_⟩:=r;rfl
theorem c_is:CRT X .Is cIsN:=by
 refine⟨_,op_isN,fun t1 t2 v1 v2 H Q0 Q r1 r2 q k=>?_⟩
 cases t2<;>first|exact q.elim|skip
 refine⟨rep_non.mp r2,?_⟩
 rw[rep_is_non r1]
 exact k _ q
theorem c_isnot:CRT X .IsNot cNotN:=by
 refine⟨_,op_notN,fun t1 t2 v1 v2 H Q0 Q r1 r2 q k=>?_⟩
 cases t2<;>first|exact q.elim|skip
 refine⟨rep_non.mp r2,?_⟩
 rw[rep_is_non r1]
 exact k _ q
def wChain(c1 c2:T->T->(Bool->Prop)->Prop)(wa wb wc:WE):WE:=fun τ Q=>wa τ fun x=>wb τ fun y=>c1 x y fun k=>(k=true->wc τ fun z=>c2 y z fun b=>Q (.bl b))/\(k=false->Q (.bl false))
def tChainT(c1 c2:T->T->(Bool->Prop)->Prop)(wa wb wc:WE):WT:=fun τ Q=>wa τ fun x=>wb τ fun y=>c1 x y fun k=>(k=true->wc τ fun z=>c2 y z Q)/\(k=false->Q false)
theorem jchain{op op':CmpOp}{c1 c2:T->T->(Bool->Prop)->Prop}(h:CRT X op c1)(h':CRT X op' c2)(ha:JE X a wa)(hb:JE X b wb)(hc:JE X c wc)
  (hm:lastMarks [op,op'] [b,c]=false:=by with_unfolding_all rfl):JE X (.Compare a [op,op'] [b,c] pos) (wChain c1 c2 wa wb wc):=by
 obtain⟨r,ho,br⟩:=h
 obtain⟨r',ho',br'⟩:=h'
 refine pe_of (pe_chain ho ho' ha hb hc hm) fun σ H Q ⟨τ,Q0,R,hw,k⟩=>?_
 refine⟨τ,_,R,hw,fun t1 v1 H1 S1 r1 q1=>⟨τ,_,R.mono S1,q1,fun t2 v2 H2 S2 r2 q2=>br t1 t2 v1 v2 H2 _ _ (r1.kp (.of S2)) r2 q2 fun b q=>⟨b,rfl,?_⟩⟩⟩
 cases b with
 | true =>
  rw[if_pos rfl]
  exact⟨τ,_,R.mono (S1.trans S2),q.1 rfl,fun t3 v3 H3 S3 r3 q3=>br' t2 t3 v2 v3 H3 _ _ (r2.kp (.of S3)) r3 q3 fun b q=>k _ _ H3 (S1.trans (S2.trans S3)) (rep_bl.mpr rfl) q⟩
 | false =>
  rw[if_neg Bool.false_ne_true]
  exact k _ _ H2 (S1.trans S2) (rep_bl.mpr rfl) (q.2 rfl)
theorem tchain{op op':CmpOp}{c1 c2:T->T->(Bool->Prop)->Prop}(h:CRT X op c1)(h':CRT X op' c2)(ha:JE X a wa)(hb:JE X b wb)(hc:JE X c wc)
  (hm:lastMarks [op,op'] [b,c]=false:=by with_unfolding_all rfl):JT X (.Compare a [op,op'] [b,c] pos) (tChainT c1 c2 wa wb wc):=by
 obtain⟨r,ho,br⟩:=h
 obtain⟨r',ho',br'⟩:=h'
 refine pt_of (pt_chain ho ho' ha hb hc hm) fun σ H Q ⟨τ,Q0,R,hw,k⟩=>?_
 refine⟨τ,_,R,hw,fun t1 v1 H1 S1 r1 q1=>⟨τ,_,R.mono S1,q1,fun t2 v2 H2 S2 r2 q2=>br t1 t2 v1 v2 H2 _ _ (r1.kp (.of S2)) r2 q2 fun b q=>⟨b,rfl,?_⟩⟩⟩
 cases b with
 | true =>
  rw[if_pos rfl]
  exact⟨τ,_,R.mono (S1.trans S2),q.1 rfl,fun t3 v3 H3 S3 r3 q3=>br' t2 t3 v2 v3 H3 _ _ (r2.kp (.of S3)) r3 q3 fun b q=>⟨b,rfl,k _ H3 (S1.trans (S2.trans S3)) q⟩⟩
 | false =>
  rw[if_neg Bool.false_ne_true]
  exact⟨false,rfl,k _ H2 (S1.trans S2) (q.2 rfl)⟩
def JW(X:Cx)(e:Expr)(w:WT):Prop:=PW X e (upT X.K X.H₀ w)
theorem jw{e:Expr}{w:WT}(h:JW X e w):JT X e w:=PW.pt h
variable {ua ub:WT} {rest:List Expr}
def tAndT(ua ub:WT):WT:=fun τ Q=>ua τ fun k=>(k=true->ub τ Q)/\(k=false->Q false)
def tOrT(ua ub:WT):WT:=fun τ Q=>ua τ fun k=>(k=true->Q true)/\(k=false->ub τ Q)
def tNotT(ua:WT):WT:=fun τ Q=>ua τ fun k=>Q (!k)
def tVal(wa:WE):WT:=fun τ Q=>wa τ fun x=>match x with | .bl k=>Q k|_=>False
theorem tand1(ha:JT X a ua):JW X (.BoolOp .And [a] pos) ua:=pw_and1 ha
theorem tor1(ha:JT X a ua):JW X (.BoolOp .Or [a] pos) ua:=pw_or1 ha
theorem tand(ha:JT X a ua)(hb:JW X (.BoolOp .And (b::rest) pos) ub):JW X (.BoolOp .And (a::b::rest) pos) (tAndT ua ub):=pw_of (pw_and ha hb) fun σ H Q ⟨τ,Q0,R,hw,k⟩=>by
 refine⟨τ,_,R,hw,fun c H1 S1 q=>?_⟩
 cases c with
 | true=>rw[if_pos rfl];exact⟨τ,_,R.mono S1,q.1 rfl,fun b H2 S2 q=>k b H2 (S1.trans S2) q⟩
 | false=>rw[if_neg Bool.false_ne_true];exact k _ H1 S1 (q.2 rfl)
theorem tor(ha:JT X a ua)(hb:JW X (.BoolOp .Or (b::rest) pos) ub):JW X (.BoolOp .Or (a::b::rest) pos) (tOrT ua ub):=pw_of (pw_or ha hb) fun σ H Q ⟨τ,Q0,R,hw,k⟩=>by
 refine⟨τ,_,R,hw,fun c H1 S1 q=>?_⟩
 cases c with
 | true=>rw[if_pos rfl];exact k _ H1 S1 (q.1 rfl)
 | false=>rw[if_neg Bool.false_ne_true];exact⟨τ,_,R.mono S1,q.2 rfl,fun b H2 S2 q=>k b H2 (S1.trans S2) q⟩
theorem tnot(ha:JT X a ua):JT X (.UnaryOp .Not a pos) (tNotT ua):=pt_of (pt_not ha) fun σ H Q ⟨τ,Q0,R,hw,k⟩=>⟨τ,_,R,hw,fun c H1 S1 q=>k _ H1 S1 q⟩
theorem tval(ha:JE X a wa)(he:∀whole,isTrue a X.env whole=(do let v ← whole;standAt a.pos;holding [v] (truthy v)):=by intro _;rfl):JT X a (tVal wa) :=
 pt_of (pt_val ha he) fun σ H Q ⟨τ,Q0,R,hw,k⟩=>⟨τ,_,R,hw,fun t v H1 S1 r q=>by
  cases t<;>first|exact q.elim|skip
  rename_i b
  exact⟨b,rep_bl.mp r,k _ H1 S1 q⟩⟩
def wAndV(wa wb:WE):WE:=fun τ Q=>wa τ fun x=>match x with | .bl k=>(k=true->wb τ Q)/\(k=false->Q (.bl false))|_=>False
def wOrV(wa wb:WE):WE:=fun τ Q=>wa τ fun x=>match x with | .bl k=>(k=true->Q (.bl true))/\(k=false->wb τ Q)|_=>False
def wNotV(wa:WE):WE:=fun τ Q=>wa τ fun x=>match x with | .bl k=>Q (.bl (!k))|_=>False
theorem jone{op}(h:JE X a wa):JE X (.BoolOp op [a] pos) wa:=pe_one h
theorem jand(ha:JE X a wa)(hb:JE X (.BoolOp .And (b::rest) pos) wb):JE X (.BoolOp .And (a::b::rest) pos) (wAndV wa wb):=pe_of (pe_and ha hb) fun σ H Q ⟨τ,Q0,R,hw,k⟩=>by
 refine⟨τ,_,R,hw,fun t v H1 S1 r q=>?_⟩
 cases t<;>first|exact q.elim|skip
 rename_i c
 refine⟨c,rep_bl.mp r,?_⟩
 cases c with
 | true=>rw[if_pos rfl];exact⟨τ,_,R.mono S1,q.1 rfl,fun t v H2 S2 r q=>k t v H2 (S1.trans S2) r q⟩
 | false=>rw[if_neg Bool.false_ne_true];exact k _ _ H1 S1 (rep_bl.mpr rfl) (q.2 rfl)
theorem jor(ha:JE X a wa)(hb:JE X (.BoolOp .Or (b::rest) pos) wb):JE X (.BoolOp .Or (a::b::rest) pos) (wOrV wa wb):=pe_of (pe_or ha hb) fun σ H Q ⟨τ,Q0,R,hw,k⟩=>by
 refine⟨τ,_,R,hw,fun t v H1 S1 r q=>?_⟩
 cases t<;>first|exact q.elim|skip
 rename_i c
 refine⟨c,rep_bl.mp r,?_⟩
 cases c with
 | true=>rw[if_pos rfl];exact k _ _ H1 S1 (rep_bl.mpr rfl) (q.1 rfl)
 | false=>rw[if_neg Bool.false_ne_true];exact⟨τ,_,R.mono S1,q.2 rfl,fun t v H2 S2 r q=>k t v H2 (S1.trans S2) r q⟩
theorem jnot(ha:JE X a wa):JE X (.UnaryOp .Not a pos) (wNotV wa):=pe_of (pe_not ha) fun σ H Q ⟨τ,Q0,R,hw,k⟩=>⟨τ,_,R,hw,fun t v H1 S1 r q=>by
 cases t<;>first|exact q.elim|skip
 rename_i c
 exact⟨c,rep_bl.mp r,k _ _ H1 S1 (rep_bl.mpr rfl) q⟩⟩
def wIfE(ua:WT)(wa wb:WE):WE:=fun τ Q=>ua τ fun k=>(k=true->wa τ Q)/\(k=false->wb τ Q)
theorem jif(hc:JT X c ua)(ha:JE X a wa)(hb:JE X b wb):JE X (.IfExp c a b pos) (wIfE ua wa wb):=pe_of (pe_ifExp hc ha hb) fun σ H Q ⟨τ,Q0,R,hw,k⟩=>by
 refine⟨τ,_,R,hw,fun d H1 S1 q=>?_⟩
 cases d with
 | true=>rw[if_pos rfl];exact⟨τ,_,R.mono S1,q.1 rfl,fun t v H2 S2 r q=>k t v H2 (S1.trans S2) r q⟩
 | false=>rw[if_neg Bool.false_ne_true];exact⟨τ,_,R.mono S1,q.2 rfl,fun t v H2 S2 r q=>k t v H2 (S1.trans S2) r q⟩
variable {ws:WA}
def aNil:WA:=fun _ Q=>Q []
def aCons(wa:WE)(ws:WA):WA:=fun τ Q=>wa τ fun x=>ws τ fun xs=>Q (x::xs)
theorem ja0:JA X [] aNil:=pa_of pa_nil fun σ H Q ⟨τ,Q0,R,hw,k⟩=>k _ _ H (.refl H) (reps_nil.mpr rfl) hw
theorem ja(ha:JE X e wa)(hr:JA X es ws)(hs:starEach (e::es) X.env=(false,eval e X.env)::starEach es X.env:=by exact star1 rfl):JA X (e::es) (aCons wa ws):=pa_of (pa_cons ha hr hs) fun σ H Q ⟨τ,Q0,R,hw,k⟩ =>
 ⟨τ,_,R,hw,fun t v H1 S1 r1 q1=>⟨τ,_,R.mono S1,q1,fun ts vs H2 S2 r2 q2=>k _ _ H2 (S1.trans S2) (.cons (r1.kp (.of S2)) r2) q2⟩⟩
def wTup(ws:WA):WE:=fun τ Q=>ws τ fun ts=>ts.length<=1000/\Q (.tup ts)
def wLst(ws:WA):WE:=fun τ Q=>ws τ fun ts=>ts.length<=1000/\Q (.lst ts)
theorem few{n:Nat}(h:n<=1000):n<=sizeLine:=Nat.le_of_lt (small1000 h)
theorem jtup{x1}(h:JA X es ws):JE X (.Tuple es x1 pos) (wTup ws):=pe_of (pe_tup h) fun σ H Q ⟨τ,Q0,R,hw,k⟩=>⟨τ,_,R,hw,fun ts vs H1 S1 r ⟨hl,q⟩ =>
 ⟨by rw[r.length];exact few hl,fun p hp=>k _ _ _ (S1.trans (same_new hp _)) (rep_tup.mpr ⟨p,vs,rfl,SqT.of upd_same,r.kp (.of (same_new hp _))⟩) q⟩⟩
def tLstF(t:TA):TE:=fun σ H Q=>t σ H fun xs H1=>xs.length<=sizeLine/\∀p o,H1 p=none->Q (.ref p) (upd H1 p (.frz o (.lst xs)))
theorem pe_lstF{t:TA}(h:PA X es t):PE X (.List es pos) (tLstF t):=by
 intro pins s σ H Q I hq
 refine wpAny_List_spliced (thn (h pos pins s σ H _ I hq) fun us s1 ⟨xs,H1,I1,r,z,q⟩=>⟨by rw[← r.length];exact z,?_⟩)
 have hf:H1 s1.heap.objs.size=none:=I1.hok.fresh (Nat.le_refl _)
 refine⟨.ref s1.heap.objs.size,upd H1 s1.heap.objs.size (.frz {cls:=.type "list", data:=.seq us.toArray} (.lst xs)),I1.laid (t':=s1.toks) (fun b u e=>Heap.get?_push_of_some _ e) (Nat.le_refl _) ?_,rfl,q _ _ hf⟩
 exact⟨Heap.get?_push_size _ rfl,z,us,0,r,Heap.get?_push_size _ rfl⟩
theorem jlst(h:JA X es ws):JE X (.List es pos) (wLst ws):=pe_of (pe_lstF h) fun σ H Q ⟨τ,Q0,R,hw,k⟩=>⟨τ,_,R,hw,fun ts vs H1 S1 r ⟨hl,q⟩ =>
 ⟨by rw[r.length];exact few hl,fun p o hp=>k _ _ _ (S1.trans (same_new hp _)) (rep_lst.mpr ⟨p,vs,rfl,.inl ⟨o,upd_same⟩,r.kp (.of (same_new hp _))⟩) q⟩⟩
def rIxTT(x y:T)(Q:T->Prop):Prop:=match x,y with
 | .tup ts,.int i=>(match atI ts i with|some t=>Q t|none=>False)
 | .lst ts,.int i=>(match atI ts i with|some t=>Q t|none=>False)
 | _,_=>False
theorem atI_reps{K:PySem.W.Frag}{H:Hp}{ts:List T}{vs:List V}{i:Int}{t:T}(r:Reps K H ts vs)(h:atI ts i=some t):∃v,atI vs i=some v/\Rep K H t v:=by
 unfold atI at h ⊢
 rw[r.length]
 cases e:ixN ts.length i with
 | none=>rw[e]at h;cases h
 | some j =>
  rw[e]at h
  exact r.get h
theorem jix(ha:JE X a wa)(hb:JE X b wb)(hs:PlainIx b:=by intro _ _;rfl):JE X (.Subscript a b pos) (w2 rIxTT wa wb):=pe_of (pe_ix ix_seq ha hb hs) (up2 fun t1 t2 v1 v2 H Q0 Q r1 r2 q k=>by
 cases t1<;>cases t2<;>first|exact q.elim|skip
 ·rename_i ts i
  rw[rep_tup]at r1
  obtain⟨p,vs,rfl,sq,rr⟩:=r1
  have q':(match atI ts i with|some t=>Q0 t|none=>False):=q
  cases e:atI ts i with
  | none=>rw[e]at q';exact q'.elim
  | some t =>
   rw[e]at q'
   obtain⟨v,ev,rv⟩:=atI_reps rr e
   exact .inr (.inl ⟨p,vs,i,v,rfl,rep_int.mp r2,sq,ev,k _ _ H (.refl H) rv q'⟩)
 ·rename_i ts i
  rw[rep_lst]at r1
  obtain⟨p,vs,rfl,sq,rr⟩:=r1
  have q':(match atI ts i with|some t=>Q0 t|none=>False):=q
  cases e:atI ts i with
  | none=>rw[e]at q';exact q'.elim
  | some t =>
   rw[e]at q'
   obtain⟨v,ev,rv⟩:=atI_reps rr e
   exact .inl ⟨p,vs,i,v,rfl,rep_int.mp r2,sq.sq,ev,k _ _ H (.refl H) rv q'⟩)
def BlR(X:Cx)(f:Value)(rT:List T->(T->Prop)->Prop):Prop:=∃r:List V->Hp->VK->Prop,CallR X f r/\∀ts vs H (Q0:T->Prop) (Q:VK),Reps X.K H ts vs->rT ts Q0 →
 (∀t v H',Same H H'->Rep X.K H' t v->Q0 t->Q v H')->r vs H Q
def wCB(rT:List T->(T->Prop)->Prop)(ws:WA):WE:=fun τ Q=>ws τ fun ts=>rT ts Q
theorem upCB{r:List V->Hp->VK->Prop}{rT:List T->(T->Prop)->Prop}{K:PySem.W.Frag}{H0:Hp} (br:∀ts vs H (Q0:T->Prop) (Q:VK),Reps K H ts vs->rT ts Q0 →
  (∀t v H',Same H H'->Rep K H' t v->Q0 t->Q v H')->r vs H Q) (σ:St) (H:Hp) (Q:VK) (h:up K H0 (wCB rT ws) σ H Q):tCB r (upA K H0 ws) σ H Q:=by
 obtain⟨τ,Q0,R,hw,k⟩:=h
 exact⟨τ,_,R,hw,fun ts vs H1 S1 r1 q1=>br ts vs H1 Q0 Q r1 q1 fun t v H' S2 r q=>k t v H' (S1.trans S2) r q⟩
theorem jblt{x:Str}{p:Pos}{id:String}{rT:List T->(T->Prop)->Prop}(h:BlR X (.builtin id) rT)(hg:Gl X x)(hm:X.mg x=none)(hv:bootBuiltins x=some (.builtin id))(ha:JA X (e::es) ws) (hn:x ≠ "__name__" := by decide)
  (hdb:(x==("__debug__" : Str))=false:=by decide) (he:starEach (e::es) X.env=(false,eval e X.env)::starEach es X.env:=by exact star1 rfl) (hpl:(backTo pos (starEach es X.env)).any (·.1)=false:=by exact stars rfl) :
  JE X (.Call (.Name x p) (e::es) [] pos) (wCB rT ws):=by
 obtain⟨r,hc,br⟩:=h
 exact pe_of (pe_callB hc hg hm hv ha hn hdb he hpl) (upCB br)
theorem jty{x:Str}{p:Pos}{id:String}{rT:List T->(T->Prop)->Prop}(h:BlR X (.type id) rT)(hg:Gl X x)(hm:X.mg x=none)(hv:bootBuiltins x=some (.type id))(ha:JA X (e::es) ws) (hn:x ≠ "__name__" := by decide)
  (hdb:(x==("__debug__" : Str))=false:=by decide) (he:starEach (e::es) X.env=(false,eval e X.env)::starEach es X.env:=by exact star1 rfl) (hpl:(backTo pos (starEach es X.env)).any (·.1)=false:=by exact stars rfl) :
  JE X (.Call (.Name x p) (e::es) [] pos) (wCB rT ws):=by
 obtain⟨r,hc,br⟩:=h
 exact pe_of (pe_callTy hc hg hm hv ha hn hdb he hpl) (upCB br)
theorem reps1{K:PySem.W.Frag}{H:Hp}{t:T}{vs:List V}(r:Reps K H [t] vs):∃v,vs=[v]/\Rep K H t v:=by
 rw[reps_cons]at r
 obtain⟨v,vr,rfl,r1,r2⟩:=r
 rw[reps_nil]at r2
 subst r2
 exact⟨v,rfl,r1⟩
theorem reps2{K:PySem.W.Frag}{H:Hp}{t t':T}{vs:List V}(r:Reps K H [t,t'] vs):∃v v',vs=[v,v']/\Rep K H t v/\Rep K H t' v':=by
 rw[reps_cons]at r
 obtain⟨v,vr,rfl,r1,r2⟩:=r
 obtain⟨v',rfl,r3⟩:=reps1 r2
 exact⟨v,v',rfl,r1,r3⟩
def rLenT(ts:List T)(Q:T->Prop):Prop:=match ts with
 | [.tup xs]=>Q (.int xs.length)
 | [.lst xs]=>Q (.int xs.length)
 | _=>False
theorem bl_len:BlR X (.builtin "len") rLenT:=by
 refine⟨_,call_len_seq,fun ts vs H Q0 Q r q k=>?_⟩
 unfold rLenT at q
 split at q
 ·obtain⟨v,rfl,r1⟩:=reps1 r
  rw[rep_tup]at r1
  obtain⟨p,ys,rfl,sq,rr⟩:=r1
  exact⟨p,ys,rfl,.inr sq,k _ _ H (.refl H) (rep_int.mpr (by rw[rr.length])) q⟩
 ·obtain⟨v,rfl,r1⟩:=reps1 r
  rw[rep_lst]at r1
  obtain⟨p,ys,rfl,sq,rr⟩:=r1
  exact⟨p,ys,rfl,.inl sq.sq,k _ _ H (.refl H) (rep_int.mpr (by rw[rr.length])) q⟩
 ·exact q.elim
end
end TL
end
section
namespace TL
open PySem PySem.Spec PyProof.Rows L2
section
variable {X:Cx} {a b c e:Expr} {es:List Expr} {wa wb wc w:WE} {ws:WA} {pos:Pos}
def rAbsT(ts:List T)(Q:T->Prop):Prop:=match ts with
 | [.int i]=>Q (.int (if i < 0 then -i else i))
 | _=>False
def rMaxT(ts:List T)(Q:T->Prop):Prop:=match ts with
 | [.int i,.int j]=>Q (.int (if j > i then j else i))
 | _=>False
def rMinT(ts:List T)(Q:T->Prop):Prop:=match ts with
 | [.int i,.int j]=>Q (.int (if j < i then j else i))
 | _=>False
theorem bl_max(hc:X.calm=true):BlR X (.builtin "max") rMaxT:=by
 refine⟨_,call_max2 hc,fun ts vs H Q0 Q r q k=>?_⟩
 unfold rMaxT at q
 split at q
 ·obtain⟨v,v',rfl,r1,r2⟩:=reps2 r
  rename_i i j
  exact⟨i,j,by rw[rep_int.mp r1,rep_int.mp r2],k _ _ H (.refl H) (rep_int.mpr rfl) q⟩
 ·exact q.elim
def rTupleT(ts:List T)(Q:T->Prop):Prop:=match ts with
 | [.tup xs]=>Q (.tup xs)
 | [.lst xs]=>Q (.tup xs)
 | _=>False
theorem ty_tuple:BlR X (.type "tuple") rTupleT:=by
 refine⟨_,call_tuple_of,fun ts vs H Q0 Q r q k=>?_⟩
 unfold rTupleT at q
 split at q
 ·obtain⟨v,rfl,r1⟩:=reps1 r
  have r':=r1
  rw[rep_tup]at r1
  obtain⟨p,ys,rfl,sq,rr⟩:=r1
  exact⟨p,ys,rfl,.inr ⟨sq,k _ _ H (.refl H) r' q⟩⟩
 ·obtain⟨v,rfl,r1⟩:=reps1 r
  rw[rep_lst]at r1
  obtain⟨p,ys,rfl,sq,rr⟩:=r1
  exact⟨p,ys,rfl,.inl ⟨sq.sq,fun l hl=>k _ _ _ (same_new hl _) (rep_tup.mpr ⟨l,ys,rfl,SqT.of upd_same,rr.kp (.of (same_new hl _))⟩) q⟩⟩
 ·exact q.elim
inductive Kd where
 | int|bool|tuple|list|str
def Kd.nm:Kd->String
 | .int => "int"
 | .bool => "bool"
 | .tuple => "tuple"
 | .list => "list"
 | .str => "str"
def isK:Kd->T->Bool
 | .int,.int _=>true
 | .int,.bl _=>true
 | .bool,.bl _=>true
 | .tuple,.tup _=>true
 | .list,.lst _=>true
 | .str,.str _=>true
 | _,_=>false
def noExc:T->Prop
 | .exc _=>False
 | .exf _ _ _=>False
 | .dic _ _=>False
 | _=>True
theorem call_isi(kd:Kd):CallR X (.builtin "isinstance") (fun xs H Q=>∃x t,xs=[x,.ty kd.nm]/\Rep X.K H t x/\noExc t/\Q (.bl (isK kd t)) H):=by
 intro pins s σ H xs us Q I r h
 obtain⟨x,t,rfl,rt,ne,q⟩:=h
 obtain⟨u,u',rfl,rx,r2⟩:=vals2 r
 obtain rfl:u'=Value.type kd.nm:=r2
 have fin:∀tk,EP X pins σ Q (.bool (isK kd t)) {s with toks:=tk}:=fun tk=>⟨.bl _,H,I.tok tk,rfl,q⟩
 cases t with
 | non=>rw[rep_non]at rt;subst rt;cases rx;exact PySem.W.kia_one PySem.W.kitx_none I.kIn True.intro (by cases kd<;>kernel_rfl) (fun z=>nomatch z) fin
 | bl y=>rw[rep_bl]at rt;subst rt;cases rx;exact PySem.W.kia_one PySem.W.kitx_bool I.kIn True.intro (by cases kd<;>kernel_rfl) (fun z=>nomatch z) fin
 | int i=>rw[rep_int]at rt;subst rt;obtain⟨t,rfl⟩:=rx;exact PySem.W.kia_one PySem.W.kitx_int I.kIn True.intro (by cases kd<;>kernel_rfl) (fun z=>nomatch z) fin
 | str y=>rw[rep_str]at rt;subst rt;obtain⟨t,rfl⟩:=rx;exact PySem.W.kia_one PySem.W.kitx_str I.kIn True.intro (by cases kd<;>kernel_rfl) (fun z=>nomatch z) fin
 | tup ts =>
  rw[rep_tup]at rt
  obtain⟨p,vs,rfl,sq,_⟩:=rt
  cases rx
  obtain⟨its,_,⟨o,h1,h2,_⟩,_⟩:=I.tuple sq
  exact PySem.W.kia_one PySem.W.kitx_tuple I.kIn ⟨o,h1,h2⟩ (by cases kd<;>kernel_rfl) (fun z=>nomatch z) fin
 | lst ts =>
  rw[rep_lst]at rt
  obtain⟨p,vs,rfl,sq,_⟩:=rt
  cases rx
  obtain⟨its,_,pl,_⟩:=I.list sq.sq
  obtain⟨o,h1,h2,_⟩:=pl.isList
  exact PySem.W.kia_one PySem.W.kitx_list I.kIn ⟨o,h1,h2⟩ (by cases kd<;>kernel_rfl) (fun z=>nomatch z) fin
 | dct =>
  rw[rep_dct]at rt
  obtain⟨p,rfl,hp⟩:=rt
  cases rx
  exact PySem.W.kia_one PySem.W.kitx_dict I.kIn ⟨_,(I.hok p _ hp).1,rfl⟩ (by cases kd<;>kernel_rfl) (fun z=>nomatch z) fin
 | exc c=>exact ne.elim
 | exf c f t=>exact ne.elim
 | dic ks ts=>exact ne.elim
def wIsi(kd:Kd)(wa:WE):WE:=fun τ Q=>wa τ fun t=>noExc t/\Q (.bl (isK kd t))
theorem jisi(kd:Kd){p pc:Pos}{x:Str}(ha:JE X e wa) (hg:Gl X "isinstance") (hm:X.mg "isinstance" = none) (hgc:Gl X x) (hmc:X.mg x=none) (hvc:bootBuiltins x=some (.type kd.nm))
  (hn:x ≠ "__name__" := by decide) (hd:(x==("__debug__" : Str))=false:=by decide)
  (hs:starEach [e,.Name x pc] X.env=(false,eval e X.env)::starEach [.Name x pc] X.env:=by exact star1 rfl) (hs1:starEach [.Name x pc] X.env=(false,eval (.Name x pc) X.env)::starEach [] X.env:=by rfl)
  (hpl:(backTo pos (starEach [.Name x pc] X.env)).any (·.1)=false:=by exact stars rfl):JE X (.Call (.Name "isinstance" p) [e,.Name x pc] [] pos) (wIsi kd wa):=by
 refine pe_of (pe_callB (call_isi kd) hg hm boot_isinstance (pa_cons ha (pa_cons (pe_bltn (v:=.ty kd.nm) hgc hmc hvc rfl hn hd) pa_nil hs1) hs) (by decide) (by decide) hs hpl) fun σ H Q ⟨τ,Q0,R,hw,k⟩=>?_
 exact⟨τ,_,R,hw,fun t v H1 S1 r1 q1=>⟨v,t,rfl,r1,q1.1,k _ _ H1 S1 (rep_bl.mpr rfl) q1.2⟩⟩
abbrev SpT:=List T->(T->Prop)->Prop
def spT(K:PySem.W.Frag)(n:Nat)(S:SpT):Sp:=fun vs H Q _=>∃(ts:List T) (Q0:T->Prop),vs.length=n/\Reps K H ts vs/\S ts Q0/\∀t v H',Same H H'->Rep K H' t v->Q0 t->Q v H'
structure FnT(P:Program)(w:World)(K:PySem.W.Frag)(mg:Str->Option Value)(base:Heap)(k:Nat)(f:Addr)(fd:FuncData)(ps:List Str)(S:SpT):Prop where
 ok:FnOk P w K mg base CX0 k f fd ps (spT K ps.length S)
 len:∀ts Q,S ts Q->ts.length=ps.length
def wCall(S:SpT)(ws:WA):WE:=fun τ Q=>ws τ fun ts=>S ts Q
theorem jcall{k:Nat}{f:Addr}{fd:FuncData}{ps:List Str}{S:SpT}{x:Str}{p:Pos}(F:FnT X.prog X.w X.K X.mg X.base k f fd ps S)(hr:Room k X.A)(hg:Gl X x)(hm:X.mg x=some (.ref f))(hk:PySem.W.keepIn X.K (.ref f)=true)
  (hb:Binds X.K fd ps []) (ha:JA X (e::es) ws) (hdb:(x==("__debug__" : Str))=false:=by decide) (he:starEach (e::es) X.env=(false,eval e X.env)::starEach es X.env:=by exact star1 rfl)
  (hpl:(backTo pos (starEach es X.env)).any (·.1)=false:=by exact stars rfl):JE X (.Call (.Name x p) (e::es) [] pos) (wCall S ws):=by
 refine pe_of (pe_call F.ok hr hg hm hk hb .nil pass0 ha hdb he hpl) fun σ H Q ⟨τ,Q0,R,hw,k⟩=>?_
 refine⟨τ,_,R,hw,fun ts vs H1 S1 r1 q1=>?_⟩
 have e0:vs++[]=vs:=List.append_nil vs
 show spT X.K ps.length S (vs++[]) H1 Q E0
 rw[e0]
 exact⟨ts,Q0,by rw[r1.length];exact F.len _ _ q1,r1,q1,fun t v H' S2 r q=>k t v H' (S1.trans S2) r q⟩
def startT(n:Nat)(ts:List T):List Slot:=ts.map Slot.val++List.replicate (n - ts.length) Slot.no
theorem sget_append_left:∀{l r:List Slot}{i:Nat},i < l.length->sget (l++r) i=sget l i
 | [],_,_,h=>by simp at h
 | _::_,_,0,_=>rfl
 | _::l,r,i + 1,h=>by simp only[List.cons_append,sget];exact sget_append_left (by simpa using h)
theorem sget_append_right:∀{l r:List Slot}{i:Nat},l.length<=i->sget (l++r) i=sget r (i - l.length)
 | [],_,_,_=>by simp
 | _::_,_,0,h=>by simp at h
 | _::l,r,i + 1,h=>by
  simp only[List.cons_append,sget,List.length_cons]
  rw[sget_append_right (by simpa using h)]
  congr 1
  omega
theorem sget_no:∀(n i:Nat),sget (List.replicate n Slot.no) i=.no
 | 0,_=>rfl
 | _ + 1,0=>rfl
 | n + 1,i + 1=>by simp only[List.replicate,sget];exact sget_no n i
theorem sget_vals:∀{ts:List T}{i:Nat},i < ts.length->∃t,ts[i]?=some t/\sget (ts.map Slot.val) i=.val t
 | [],_,h=>by simp at h
 | t::_,0,_=>⟨t,rfl,rfl⟩
 | _::r,i + 1,h=>by
  obtain⟨t,h1,h2⟩:=sget_vals (ts:=r) (i:=i) (by simpa using h)
  exact⟨t,by simpa using h1,by simpa [sget] using h2⟩
theorem repSt_start{K:PySem.W.Frag}{H:Hp}{N:List Str}{ts:List T}{vs:List V}(r:Reps K H ts vs):RepSt K H H (L2.start N vs) (startT N.length ts):=by
 have hl:=r.length
 have noOwn:∀i us,sget (startT N.length ts) i ≠ .own us:=fun i us e=>by
  unfold startT at e
  by_cases hi:i < ts.length
  ·rw[sget_append_left (by simpa using hi)]at e
   obtain⟨t,_,h2⟩:=sget_vals hi
   rw[h2]at e
   cases e
  ·rw[sget_append_right (by simpa using hi),sget_no]at e
   cases e
 refine⟨.refl H,by unfold L2.start startT;simp[hl],fun i=>?_,fun i j ts' us p _ h1 _ _ _=>absurd h1 (noOwn i _)⟩
 unfold startT
 by_cases hi:i < ts.length
 ·rw[sget_append_left (by simpa using hi)]
  obtain⟨t,h1,h2⟩:=sget_vals hi
  rw[h2]
  obtain⟨v,e,rv⟩:=r.get h1
  refine⟨v,?_,rv⟩
  unfold L2.start
  rw[List.getElem?_append_left (by simp[hl,hi]),List.getElem?_map,e]
  rfl
 ·rw[sget_append_right (by simpa using hi),sget_no]
  trivial
theorem fnT{P:Program}{w:World}{K:PySem.W.Frag}{mg:Str->Option Value}{base:Heap}{x qual:Str}{st:Stmt}{f:Addr}{fd:FuncData}{N ps:List Str}{k:Nat}{S:SpT}{W:WS}(F:Fun K x qual st f fd)(SC:FnScope N ps (defScope st))
  (hlen:∀ts Q,S ts Q->ts.length=ps.length)
  (hbody:∀(cdv:Value)(A:Around)(outer:List Env)(s:Shared)(H:Hp)(E:XK),Room k (A.deeper (envOfC qual (defScope st) s.heap.objs.size f cdv))->JSs (cxOf CX0 P w K mg base N qual (defScope st) f cdv A outer s H E).nox (defBody st) W)
  (hw:∀ts Q,S ts Q->W {nx:=fun _=>Q .non,rt:=Q} (startT N.length ts)):FnT P w K mg base (k + 1) f fd ps S:=by
 refine⟨F.ok SC (fun vs H Q E h=>?_) (fun cdv A outer s H vs Q E hr h=>?_),hlen⟩
 ·obtain⟨_,_,e,_⟩:=h
  exact e
 obtain⟨ts,Q0,e,r,hS,q⟩:=h
 refine⟨_,hbody cdv A outer s H E hr,startT N.length ts,{nx:=fun _=>Q0 .non,rt:=Q0},repSt_start r,hw ts Q0 hS,fun τ' σ' H' _ R n=>?_,fun t v H' S r' n=>q t v H' S r' n,fun τ' σ' H' _ R n=>n.elim,fun τ' σ' H' _ R n=>n.elim⟩
 exact q .non .non H' R.same (rep_non.mpr rfl) n
variable {st:Stmt} {rest:List Stmt} {t u:WS} {ua:WT}
def sNext:WS:=fun D τ=>D.nx τ
def sSeq(t u:WS):WS:=fun D τ=>t {D with nx:=u D} τ
theorem js0:JSs X [] sNext:=pss_of pss_nil fun D σ H ⟨τ,D0,R,hw,k,_⟩=>k τ σ H (.refl H) R hw
theorem js1(h:JS X st t):JSs X [st] t:=pss_of (pss_one h) fun D σ H z=>z
theorem jsc(h1:JS X st t)(h2:JSs X rest u):JSs X (st::rest) (sSeq t u):=pss_of (pss_cons h1 h2) fun D σ H ⟨τ,D0,R,hw,kn,kr,kb,kc⟩ =>
 ⟨τ,_,R,hw,fun τ' σ' H' K1 R' q=>⟨τ',D0,R',q,fun τ2 σ2 H2 K2 R2 q2=>kn τ2 σ2 H2 (K1.trans K2) R2 q2,kr,fun τ2 σ2 H2 K2 R2 q2=>kb τ2 σ2 H2 (K1.trans K2) R2 q2,fun τ2 σ2 H2 K2 R2 q2=>kc τ2 σ2 H2 (K1.trans K2) R2 q2⟩,
  kr,kb,kc⟩
def sRet(w:WE):WS:=fun D τ=>w τ D.rt
theorem jret(h:JE X e w):JS X (.Return (some e) pos) (sRet w):=ps_of (ps_ret h) fun D σ H ⟨τ,D0,R,hw,_,k,_⟩=>⟨τ,_,R,hw,fun t v H' S r q=>k t v H' (R.same.trans S) r q⟩
def sRetN:WS:=fun D _=>D.rt .non
def sIf(ua:WT)(t u:WS):WS:=fun D τ=>ua τ fun k=>(k=true->t D τ)/\(k=false->u D τ)
theorem jsif{c:Expr}{a b:List Stmt}(hc:JT X c ua)(ha:JSs X a t)(hb:JSs X b u):JS X (.If c a b pos) (sIf ua t u):=ps_of (ps_if hc ha hb) fun D σ H ⟨τ,D0,R,hw,kn,kr,kb,kc⟩=>by
 refine⟨τ,_,R,hw,fun d H1 S1 q=>?_⟩
 have K1:=Kp.of S1
 cases d with
 | true=>dsimp only;rw[if_pos rfl];exact⟨τ,D0,R.mono S1,q.1 rfl,fun τ2 σ2 H2 K2 R2 q2=>kn τ2 σ2 H2 (K1.trans K2) R2 q2,kr,fun τ2 σ2 H2 K2 R2 q2=>kb τ2 σ2 H2 (K1.trans K2) R2 q2,fun τ2 σ2 H2 K2 R2 q2=>kc τ2 σ2 H2 (K1.trans K2) R2 q2⟩
 | false=>dsimp only;rw[if_neg Bool.false_ne_true];exact⟨τ,D0,R.mono S1,q.2 rfl,fun τ2 σ2 H2 K2 R2 q2=>kn τ2 σ2 H2 (K1.trans K2) R2 q2,kr,fun τ2 σ2 H2 K2 R2 q2=>kb τ2 σ2 H2 (K1.trans K2) R2 q2,fun τ2 σ2 H2 K2 R2 q2=>kc τ2 σ2 H2 (K1.trans K2) R2 q2⟩
def sExpr(w:WE):WS:=fun D τ=>w τ fun _=>D.nx τ
theorem jexpr(h:JE X e w)(hs:swapsWith e none pos.line X.env=pure false:=by rfl):JS X (.Expr e pos) (sExpr w):=ps_of (ps_expr h hs) fun D σ H ⟨τ,D0,R,hw,k,_⟩=>⟨τ,_,R,hw,fun t v H' S r q=>k τ σ H' (.of S) (R.mono S) q⟩
def sSet(i:Nat)(w:WE):WS:=fun D τ=>w τ fun t=>D.nx (sput τ i (.val t))
theorem jset{i:Nat}{x:Str}{pos':Pos}(hN:X.N.Nodup)(hi:X.N[i]?=some x)(hx:Loc X.env.scope x)(he:JE X e w)(hs:swapsWith e (some (.Name x pos')) pos.line X.env=pure false:=by rfl)
  (hf:X.fn x=true∨X.env.scope.names.lookup x=some .local:=by first|exact .inl rfl|exact .inr rfl|assumption):JS X (.Assign [.Name x pos'] e pos) (sSet i w) :=
 ps_of (ps_set hN hi hx he hs hf) fun D σ H ⟨τ,D0,R,hw,k,_⟩=>⟨τ,_,R,hw,fun t v H' S r q=>k _ _ H' (.of S) ((R.mono S).put r) q⟩
def sOwn(i:Nat)(ws:WA):WS:=fun D τ=>ws τ fun ts=>ts.length<=1000/\D.nx (sput τ i (.own ts))
theorem jown{i:Nat}{x:Str}{pos' pl:Pos}(hN:X.N.Nodup)(hi:X.N[i]?=some x)(hx:Loc X.env.scope x)(he:JA X es ws)(hs:swapsWith (.List es pl) (some (.Name x pos')) pos.line X.env=pure false:=by rfl)
  (hf:X.fn x=true∨X.env.scope.names.lookup x=some .local:=by first|exact .inl rfl|exact .inr rfl|assumption):JS X (.Assign [.Name x pos'] (.List es pl) pos) (sOwn i ws) :=
 ps_of (ps_set hN hi hx (pe_lst he) hs hf) fun D σ H ⟨τ,D0,R,hw,k,_⟩=>⟨τ,_,R,hw,fun ts vs H' S r ⟨hl,q⟩ =>
  ⟨by rw[r.length];exact few hl,fun p hp=>k _ _ _ ((Kp.of S).trans (.of (same_new hp _))) ((R.mono S).putOwn hp r) q⟩⟩
def sApp(i:Nat)(w:WE):WS:=fun D τ=>match sget τ i with
 | .own ts=>w τ fun t=>ts.length < 1000/\D.nx (sput τ i (.own (ts++[t])))
 | _=>False
theorem japp{i:Nat}{x:Str}{px apos cpos:Pos}(hv:PE X (.Name x px) (tVar i))(he:JE X e w)
  (hs:swapsWith (.Call (.Attribute (.Name x px) "append" apos) [e] [] cpos) none pos.line X.env=pure false:=by rfl)
  (hbase:attributeBase (.Name x px) "append" X.env (eval (.Name x px) X.env)=eval (.Name x px) X.env:=by rfl)
  (hfew:((backTo cpos (starEach [e] X.env)).all (fun x=>!x.1)&&(backToKw cpos (keywordEach [] X.env)).all (fun x=>x.1.isSome)
   && decide ([e].length + ([]:List Keyword).length + (if ([]:List Keyword).isEmpty then 0 else 1) < 30))=true:=by rfl)
  (hline:(apos.endLine==cpos.line)=true:=by rfl) (hst:starEach [e] X.env=(false,eval e X.env)::starEach [] X.env:=by rfl) (hplain:(backTo cpos (starEach [] X.env)).any (·.1)=false:=by rfl) :
  JS X (.Expr (.Call (.Attribute (.Name x px) "append" apos) [e] [] cpos) pos) (sApp i w):=by
 refine ps_of (ps_expr (pe_bm PySem.F.plainAttrs_list PySem.F.slot_list_append PySem.F.type_list_append mt_append hv (pa_cons he pa_nil hst) hbase hfew hline hst hplain) hs) fun D σ H ⟨τ,D0,R,hw,k,_⟩=>?_
 unfold sApp at hw
 cases own:sget τ i with
 | no=>rw[own]at hw;exact hw.elim
 | val t=>rw[own]at hw;exact hw.elim
 | see t=>rw[own]at hw;exact hw.elim
 | dic t=>rw[own]at hw;exact hw.elim
 | vat t v=>rw[own]at hw;exact hw.elim
 | owd p q=>rw[own]at hw;exact hw.elim
 | own ts =>
  rw[own]at hw
  have sl:=R.slot i
  rw[own]at sl
  obtain⟨p,vs,ev,hp,rr,n0⟩:=sl
  refine⟨.ref p,ev,.inl ⟨rfl,vs,SqL.of hp⟩,τ,_,R,hw,fun t v H' S r q=>?_⟩
  refine⟨p,vs,v,rfl,rfl,S _ _ hp,by rw[rr.length];exact small1000 (Nat.le_of_lt q.1),?_⟩
  exact k _ _ _ ((Kp.of S).trans (Kp.write (S _ _ hp) _)) ((R.mono S).write own ev (S _ _ hp) ((rr.kp (.of S)).append (.one r))) q.2
def sFrz(i:Nat)(t:WS):WS:=fun D τ=>match sget τ i with
 | .own ts=>t D (sput τ i (.val (.lst ts)))
 | _=>False
theorem Inv.freeze{pins:List (Addr×Obj)}{σ:St}{H:Hp}{s:Shared}{p:Addr}{xs:List V}(I:Inv X pins σ H s)(h:H p=some (.lst xs)):∃o,Inv X pins σ (upd H p (.frz o (.lst xs))) s:=by
 obtain⟨z,its,n,r,e⟩:=I.hok p _ h
 refine⟨{cls:=.type "list", data:=.seq its.toArray n},?_⟩
 have ne:∀{b:Addr}{o:HO},H b=some o->o ≠ .lst xs->b≠p:=fun q d z=>by subst z;rw[h]at q;cases q;exact d rfl
 have nn:∀{b:Addr},H b=none->b≠p:=fun q z=>by subst z;rw[h]at q;cases q
 have u:Un X.fs [] H (upd H p (.frz {cls:=.type "list", data:=.seq its.toArray n} (.lst xs))) s.heap s.heap:=by
  refine⟨fun b o q _ _ _=>q,fun b o q _ _ _=>⟨o.slots,q⟩,fun b o _ q _=>by rw[upd_ne (nn q)];exact q,fun b o q _=>⟨o,q⟩,fun b ys q=>?_,fun b o' u' q=>?_,fun b ps q=>⟨#[],?_⟩⟩
  ·rw[upd_ne (by rintro rfl;rw[h]at q;cases q)];exact q
  ·rw[upd_ne (by rintro rfl;rw[h]at q;cases q)];exact q
  ·rw[upd_ne (by rintro rfl;rw[h]at q;cases q),q];simp
 have hok:HOk X.prog X.w (upd H p (.frz {cls:=.type "list", data:=.seq its.toArray n} (.lst xs))) s.heap:=fun b ob q=>by
  by_cases hb:b=p
  ·subst hb
   rw[upd_same]at q
   cases q
   exact⟨e,z,its,n,r,e⟩
  ·rw[upd_ne hb]at q
   refine(I.hok b ob q).stay (fun c v _ q=>q) (fun c q=>?_) fun c ys q=>?_
   ·rw[upd_ne (by rintro rfl;rw[h]at q;cases q)];exact q
   ·rw[upd_ne (by rintro rfl;rw[h]at q;cases q)];exact q
 have:=I.un (h':=s.heap) (t':=s.toks) u hok
 exact this
theorem jfrz(i:Nat){sts:List Stmt}(h:JSs X sts t):JSs X sts (sFrz i t):=by
 intro pins s σ H D I hw
 obtain⟨τ,D0,R,hw,kn,kr,kb,kc⟩:=hw
 unfold sFrz at hw
 cases own:sget τ i with
 | no=>rw[own]at hw;exact hw.elim
 | val t=>rw[own]at hw;exact hw.elim
 | see t=>rw[own]at hw;exact hw.elim
 | dic t=>rw[own]at hw;exact hw.elim
 | vat t v=>rw[own]at hw;exact hw.elim
 | owd p q=>rw[own]at hw;exact hw.elim
 | own ts =>
  rw[own]at hw
  have sl:=R.slot i
  rw[own]at sl
  obtain⟨p,vs,ev,hp,rr,n0⟩:=sl
  obtain⟨o,I'⟩:=Inv.freeze I hp
  have K1:=Kp.write hp (.frz o (.lst vs))
  exact h pins s σ _ D I' ⟨_,D0,R.freeze own ev hp rr,hw,fun τ2 σ2 H2 K2 R2 q2=>kn τ2 σ2 H2 (K1.trans K2) R2 q2,kr,fun τ2 σ2 H2 K2 R2 q2=>kb τ2 σ2 H2 (K1.trans K2) R2 q2,fun τ2 σ2 H2 K2 R2 q2=>kc τ2 σ2 H2 (K1.trans K2) R2 q2⟩
abbrev TGt:=T->List Slot->(List Slot->Prop)->Prop
abbrev TGts:=List T->List Slot->(List Slot->Prop)->Prop
def upG(K:PySem.W.Frag)(H0:Hp)(g:TGt):TG:=fun v σ H Q=>∃(t:T) (τ:List Slot) (Q0:List Slot->Prop),RepSt K H0 H σ τ/\Rep K H t v/\g t τ Q0/\∀τ' σ' H',Same H H'->RepSt K H0 H' σ' τ'->Q0 τ'->Q σ' H'
def upGs(K:PySem.W.Frag)(H0:Hp)(g:TGts):TGs:=fun vs σ H Q=>∃(ts:List T) (τ:List Slot) (Q0:List Slot->Prop),RepSt K H0 H σ τ/\Reps K H ts vs/\g ts τ Q0/\∀τ' σ' H',Same H H'->RepSt K H0 H' σ' τ'->Q0 τ'->Q σ' H'
def JG(X:Cx)(tg:Expr)(g:TGt):Prop:=PG X tg (upG X.K X.H₀ g)
def JGs(X:Cx)(tgs:List Expr)(g:TGts):Prop:=PGs X tgs (upGs X.K X.H₀ g)
theorem pg_of{tg:Expr}{t t':TG}(h:PG X tg t)(f:∀v σ H Q,t' v σ H Q->t v σ H Q):PG X tg t':=fun pins s σ H v u Q I r hw=>h pins s σ H v u Q I r (f v σ H Q hw)
theorem pgs_of{tg:List Expr}{t t':TGs}(h:PGs X tg t)(f:∀v σ H Q,t' v σ H Q->t v σ H Q):PGs X tg t':=fun pins s σ H v u Q I r hw=>h pins s σ H v u Q I r (f v σ H Q hw)
def gN(i:Nat):TGt:=fun t τ Q=>Q (sput τ i (.val t))
theorem jg{i:Nat}{x:Str}(hN:X.N.Nodup)(hi:X.N[i]?=some x)(hx:Loc X.env.scope x)(hf:X.fn x=true∨X.env.scope.names.lookup x=some .local:=by first|exact .inl rfl|exact .inr rfl|assumption):JG X (.Name x pos) (gN i) :=
 pg_of (pg_name hN hi hx hf) fun v σ H Q ⟨t,τ,Q0,R,r,hw,k⟩=>k _ _ H (.refl H) (R.put r) hw
def gs0:TGts:=fun ts τ Q=>match ts with|[]=>Q τ|_=>False
def gsC(g:TGt)(gs:TGts):TGts:=fun ts τ Q=>match ts with|t::r=>g t τ fun τ'=>gs r τ' Q|[]=>False
theorem jgs0:JGs X [] gs0:=pgs_of pgs_nil fun vs σ H Q ⟨ts,τ,Q0,R,r,hw,k⟩=>by
 cases ts with
 | nil=>exact⟨reps_nil.mp r,k τ σ H (.refl H) R hw⟩
 | cons t r=>exact hw.elim
theorem jgsc{e:Expr}{es:List Expr}{g:TGt}{gs:TGts}(h1:JG X e g)(h2:JGs X es gs)(hs:(assignEach (e::es) X.env).map (·.2)=assign e X.env::(assignEach es X.env).map (·.2):=by rfl):JGs X (e::es) (gsC g gs) :=
 pgs_of (pgs_cons h1 h2 hs) fun vs σ H Q ⟨ts,τ,Q0,R,r,hw,k⟩=>by
  cases ts with
  | nil=>exact hw.elim
  | cons t ts =>
   rw[reps_cons]at r
   obtain⟨v,vr,e1,r1,r2⟩:=r
   exact⟨v,vr,e1,t,τ,_,R,r1,hw,fun τ1 σ1 H1 S1 R1 q1=>⟨ts,τ1,Q0,R1,r2.kp (.of S1),q1,fun τ2 σ2 H2 S2 R2 q2=>k τ2 σ2 H2 (S1.trans S2) R2 q2⟩⟩
theorem draw_list{prog:Program}{w:World}{A:Around}{E:Value->Shared->Prop}{it l:Addr}{items:Array Value}(hne:l≠it):∀(n i:Nat)(s:Shared)(Q:List Value->Shared->Prop),s.heap.IsListIter it l i->s.heap.IsList l items->i + n<=items.size →
  (∀h',h'.IsListIter it l (i + n)->Heap.SameBut it s.heap h'->Q ((items.toList.drop i).take n) {s with heap:=h' })->wpAny (model prog w) A (draw (.ref it) n) Q E s
 | 0,i,s,Q,hit,_,_,hQ=>by
  show wpAny _ _ (pure []) Q E s
  exact wpAny_pure (by simpa using hQ s.heap hit (Heap.SameBut.refl ..))
 | n + 1,i,s,Q,hit,ht,hle,hQ=>by
  have hlt:i < items.size:=by omega
  show wpAny _ _ (pyNext (.ref it) >>= _) Q E s
  refine wpAny_bind (wpAny_pyNext_list_item hit ht (x:=items[i]) (by simp[hlt]) fun h₁ hit₁ hs₁=>?_)
  refine wpAny_bind (wpAny_holding (draw_list hne n (i + 1) _ _ hit₁ (ht.extBut hs₁.extBut hne) (by omega) fun h₂ hit₂ hs₂=>wpAny_pure ?_))
  have hd:items.toList.drop i=items[i]::items.toList.drop (i + 1):=by simp[List.drop_eq_getElem_cons,hlt]
  have:=hQ h₂ (by rw[show i + (n + 1)=i + 1 + n by omega];exact hit₂) (hs₁.trans hs₂)
  rw[hd,List.take_succ_cons]at this
  exact this
theorem unpackItems_list{prog:Program}{w:World}{A:Around}{E:Value->Shared->Prop}{s:Shared}{t:Addr}{items:Array Value}{Q:List Value->Shared->Prop}(hh:A.handled=none)(ht:s.heap.IsList t items)
  (hQ:∀h',Heap.ExtBut s.heap.objs.size s.heap h'->Q items.toList {s with heap:=h' }):wpAny (model prog w) A (unpackItems (.ref t) items.size none) Q E s:=by
 have hlt:t≠s.heap.objs.size:=by obtain⟨o,ho,_⟩:=ht;exact Nat.ne_of_lt (Heap.lt_size ho)
 unfold unpackItems
 refine wpAny_bind ?_
 ·unfold notIterableAtAll
  refine wpAny_bind (wpAny_specialOf ht.typeIs slot_list_iter.lookup ?_)
  refine wpAny_pure ?_
  simp only[Bool.false_eq_true,if_false]
  refine wpAny_bind (wpAny_holding (wpAny_pyIter_list ht ?_))
  have htp:(s.heap.push {cls:=.type "list_iterator", data:=.fields #[.ref t,.int 0 0]}).IsList t items:=by
   obtain⟨o,ho,r⟩:=ht
   exact⟨o,Heap.get?_push_of_some _ ho,r⟩
  refine wpAny_bind (wpAny_holding (draw_list hlt items.size 0 _ _ ⟨_,Heap.get?_push_size _ rfl,rfl,rfl⟩ htp (by omega) fun h₁ hit₁ hs₁=>?_))
  have hall:List.take items.size (List.drop 0 items.toList)=items.toList:=by
   rw[List.drop_zero];exact List.take_of_length_le (by simp)
  rw[hall]
  rw[if_neg (by simp)]
  have ht₁:h₁.IsList t items:=htp.extBut hs₁.extBut hlt
  refine wpAny_bind (wpAny_holding (wpAny_pyNext_list_end hh hit₁ ht₁ (by simp) fun h₂ he₂=>?_))
  simp only[Option.isSome_none,Bool.false_eq_true,if_false]
  refine wpAny_pure (hQ h₂ fun b o hb e=>he₂ b o hb (hs₁.extBut b o hb (Heap.get?_push_of_some _ e)))
theorem assign_Tuple_list{prog:Program}{w:World}{A:Around}{E:Value->Shared->Prop}{s:Shared}{env:Env}{elts:List Expr}{x1}{pos:Pos}{t:Addr}{items:Array Value}{Q:Unit->Shared->Prop}(hh:A.handled=none)(ht:s.heap.IsList t items)
  (hn:(assignEach elts env).length=items.size) (hstar:(assignEach elts env).findIdx? (·.1)=none)
  (h:∀h',Heap.ExtBut s.heap.objs.size s.heap h'->wpAny (model prog w) A (assignInOrder ((assignEach elts env).map (·.2)) items.toList) Q E {s with heap:=h' }) :
  wpAny (model prog w) A (assign (.Tuple elts x1 pos) env (.ref t)) Q E s:=by
 rw[assign_Tuple]
 refine wpAny_bind (wpAny_standAt ?_)
 unfold unpack
 rw[hn,hstar]
 exact wpAny_bind (wpAny_holding (unpackItems_list hh ht h))
def gT(n:Nat)(gs:TGts):TGt:=fun t τ Q=>match t with
 | .tup ts=>ts.length=n/\gs ts τ Q
 | .lst ts=>ts.length=n/\gs ts τ Q
 | _=>False
theorem jgt{es:List Expr}{k:Nat}{gs:TGts}{n:Nat}(hc:X.calm=true)(h:JGs X es gs)(hn:(assignEach es X.env).length=n:=by rfl)(hst:(assignEach es X.env).findIdx? (·.1)=none:=by rfl):JG X (.Tuple es k pos) (gT n gs):=by
 intro pins s σ H v u Q I r hw
 obtain⟨t,τ,Q0,R,rt,hw,kk⟩:=hw
 cases t<;>first|exact hw.elim|skip
 ·rename_i ts
  rw[rep_tup]at rt
  obtain⟨p,vs,rfl,sq,rr⟩:=rt
  cases r
  obtain⟨its,rv,ht,hz⟩:=I.tuple sq
  refine assign_Tuple_tuple (I.ok.hd hc) ht (by simp[hn,← hw.1,← rr.length,rv.length]) hst fun h' hx=>?_
  have I1:Inv X pins σ H {s with heap:=h' }:=I.kept (t':=s.toks) fun b o e=>hx b o (Nat.ne_of_lt (Heap.lt_size e)) e
  exact h pins _ σ H vs _ Q I1 (by simpa using rv) ⟨ts,τ,Q0,R,rr,hw.2,kk⟩
 ·rename_i ts
  rw[rep_lst]at rt
  obtain⟨p,vs,rfl,sq,rr⟩:=rt
  cases r
  obtain⟨its,rv,ht,hz⟩:=I.list sq.sq
  refine assign_Tuple_list (I.ok.hd hc) ht.isList (by simp[hn,← hw.1,← rr.length,rv.length]) hst fun h' hx=>?_
  have I1:Inv X pins σ H {s with heap:=h' }:=I.kept (t':=s.toks) fun b o e=>hx b o (Nat.ne_of_lt (Heap.lt_size e)) e
  exact h pins _ σ H vs _ Q I1 (by simpa using rv) ⟨ts,τ,Q0,R,rr,hw.2,kk⟩
def sAsg(g:TGt)(w:WE):WS:=fun D τ=>w τ fun t=>g t τ D.nx
theorem jasg{tg:Expr}{g:TGt}(hg:JG X tg g)(he:JE X e w)(hs:swapsWithSole [tg] e pos.line X.env=pure false:=by rfl)(hw:swappedStores [tg] e X.env=pure none:=by rfl)
  (h1:(assignEach [tg] X.env).map (·.2)=[assign tg X.env]:=by rfl):JS X (.Assign [tg] e pos) (sAsg g w) :=
 ps_of (ps_asg he hg hs hw h1) fun D σ H ⟨τ,D0,R,hw,k,_⟩=>⟨τ,_,R,hw,fun t v H' S r q=>⟨t,τ,_,R.mono S,r,q,fun τ' σ' H2 S2 R2 q2=>k τ' σ' H2 (.of (S.trans S2)) R2 q2⟩⟩
def sPar(i j:Nat)(ws:WA):WS:=fun D τ=>ws τ fun ts=>match ts with|[x,y]=>D.nx (sput (sput τ i (.val x)) j (.val y))|_=>False
abbrev WI:=List Slot->(List T->Prop)->Prop
def Wk(K:PySem.W.Frag)(J:It)(ts:List T)(H1:Hp):Prop:=∀H2,Kp H1 H2->(∀i t,ts[i]?=some t->J.go i H2/\∀x H3,J.yld i H2 x H3->Same H2 H3/\Rep K H3 t x)/\J.stop ts.length H2
def upI(K:PySem.W.Frag)(H0:Hp)(w:WI):TI:=fun σ H R=>∃(τ:List Slot) (Q0:List T->Prop),RepSt K H0 H σ τ/\w τ Q0/\∀ts J H',Same H H'->Wk K J ts H'->Q0 ts->R J H'
def JI(X:Cx)(tg iter:Expr)(w:WI):Prop:=PI X tg iter (upI X.K X.H₀ w)
theorem pi_of{tg iter:Expr}{t t':TI}(h:PI X tg iter t)(f:∀σ H R,t' σ H R->t σ H R):PI X tg iter t':=fun pins s σ H R I hw=>h pins s σ H R I (f σ H R hw)
def forT(g:TGt)(t:WS):List T->WS
 | [],D,τ=>D.nx τ
 | x::xs,D,τ=>g x τ fun τ1=>t {D with nx:=forT g t xs D,ct:=forT g t xs D,bk:=D.nx} τ1
def sFor(wi:WI)(g:TGt)(t:WS):WS:=fun D τ=>wi τ fun ts=>forT g t ts D τ
theorem jfor{tg iter:Expr}{body:List Stmt}{wi:WI}{g:TGt}(hp:PassesOwn (model X.prog X.w) X.A X.env X.xe)(hc:X.calm=true)(hi:JI X tg iter wi)(hg:JG X tg g)(hb:JSs X body t)
  (hs:∀x,foldedSetIterable iter X.env x=pure x:=by intro _;rfl):JS X (.For tg iter body [] pos) (sFor wi g t) :=
 ps_of (ps_for hp hc hi hg hb hs) fun D σ H ⟨τ,D0,R,hw,kn,kr,kb,kc⟩=>by
  refine⟨τ,_,R,hw,fun ts J H1 S1 wk q=>?_⟩
  have K0:=Kp.of S1
  refine⟨fun i m σ' H'=>m=ts.length - i/\i<=ts.length/\∃τ',RepSt X.K X.H₀ H' σ' τ'/\Kp H1 H'/\forT g t (ts.drop i) D0 τ',⟨ts.length,by simp,Nat.zero_le _,τ,R.mono S1,.refl H1,by simpa using q⟩,?_⟩
  rintro i m σ2 H2 ⟨rfl,hi,τ2,R2,K2,q2⟩
  obtain⟨wi,ws⟩:=wk H2 K2
  by_cases hlt:i < ts.length
  ·refine .inr ?_
   have ei:ts[i]?=some ts[i]:=List.getElem?_eq_getElem hlt
   obtain⟨go,yl⟩:=wi i _ ei
   rw[List.drop_eq_getElem_cons hlt]at q2
   refine⟨go,fun σ' H'=>∃τ',RepSt X.K X.H₀ H' σ' τ'/\Kp H1 H'/\forT g t (ts.drop (i + 1)) D0 τ',fun σ' H' ⟨τ',R',K',q'⟩=>⟨ts.length - (i + 1),by omega,rfl,hlt,τ',R',K',q'⟩,fun x H3 y=>?_⟩
   obtain⟨S3,r3⟩:=yl x H3 y
   refine⟨ts[i],τ2,_,R2.mono S3,r3,q2,fun τ4 σ4 H4 S4 R4 q4=>?_⟩
   have K4:=K2.trans (.of (S3.trans S4))
   have nx:∀τ' σ' H',Kp H4 H'->RepSt X.K X.H₀ H' σ' τ'->forT g t (ts.drop (i + 1)) D0 τ'->∃τ',RepSt X.K X.H₀ H' σ' τ'/\Kp H1 H'/\forT g t (ts.drop (i + 1)) D0 τ':=fun τ' σ' H' K5 R5 q5=>⟨τ',R5,K4.trans K5,q5⟩
   exact⟨τ4,_,R4,q4,nx,kr,fun τ' σ' H' K5 R5 q5=>kn τ' σ' H' (K0.trans (K4.trans K5)) R5 q5,nx⟩
  ·have e:i=ts.length:=by omega
   subst e
   rw[List.drop_length]at q2
   exact .inl ⟨ws,kn τ2 σ2 H2 (K0.trans K2) R2 q2⟩
def iSeq(w:WE):WI:=fun τ Q=>w τ fun t=>match t with
 | .tup ts=>Q ts
 | .lst ts=>Q ts
 | _=>False
theorem jiSeq{tg l:Expr}(h:JE X l w):JI X tg l (iSeq w):=by
 intro pins s σ H R I hw
 obtain⟨τ,Q0,Rs,hw,k⟩:=hw
 refine thn (h pins s σ H (fun v H1=>∃t,Same H H1/\Rep X.K H1 t v/\(match t with | .tup ts=>Q0 ts | .lst ts=>Q0 ts|_=>False)) I ⟨τ,_,Rs,hw,fun t v H1 S r q=>⟨t,S,r,q⟩⟩) fun v s1 ⟨x,H1,I1,r1,t,S1,rt,q1⟩=>?_
 cases t<;>first|exact q1.elim|skip
 ·rename_i ts
  rw[rep_tup]at rt
  obtain⟨a,vs,rfl,hq,rr⟩:=rt
  cases r1
  obtain⟨its,rv,p,hz⟩:=I1.tuple hq
  refine wpAny_pyIter_tuple (show s1.heap.IsTuple a its.toArray from p) ?_
  refine⟨s1.heap.objs.size,[s1.heap.objs.size],_,_,H1,rfl,I1.kept (t':=s1.toks) fun b o e=>Heap.get?_push_of_some _ e,turn_tuple a _,⟨_,Heap.get?_push_size _ rfl,rfl,rfl⟩,fun b hb=>?_,k ts (Itt X.K a) H1 S1 ?_ q1⟩
  ·have e:b=s1.heap.objs.size:=by simpa using hb
   subst e
   exact I1.fpOk (Nat.le_refl _) (I1.hok.fresh (Nat.le_refl _))
  ·intro H2 K2
   have sq2:=sqT_kp K2 hq
   refine⟨fun i t ei=>?_,⟨vs,sq2,by rw[rr.length];exact Nat.le_refl _⟩⟩
   obtain⟨v,ev,rv⟩:=rr.get ei
   refine⟨⟨vs,v,sq2,ev⟩,fun x H3 y=>?_⟩
   obtain⟨rfl,y⟩:=y
   have z:=y vs sq2
   rw[ev]at z
   cases z
   exact⟨.refl _,rv.kp K2⟩
 ·rename_i ts
  rw[rep_lst]at rt
  obtain⟨a,vs,rfl,hq,rr⟩:=rt
  cases r1
  obtain⟨its,rv,p,hz⟩:=I1.list hq.sq
  refine wpAny_pyIter_list p.isList ?_
  refine⟨s1.heap.objs.size,[s1.heap.objs.size],_,_,H1,rfl,I1.kept (t':=s1.toks) fun b o e=>Heap.get?_push_of_some _ e,turn_list a _,⟨_,Heap.get?_push_size _ rfl,rfl,rfl⟩,fun b hb=>?_,k ts (Itl X.K a) H1 S1 ?_ q1⟩
  ·have e:b=s1.heap.objs.size:=by simpa using hb
   subst e
   exact I1.fpOk (Nat.le_refl _) (I1.hok.fresh (Nat.le_refl _))
  ·intro H2 K2
   have sq2:=(sqF_kp K2 hq).sq
   refine⟨fun i t ei=>?_,⟨vs,sq2,by rw[rr.length];exact Nat.le_refl _⟩⟩
   obtain⟨v,ev,rv⟩:=rr.get ei
   refine⟨⟨vs,v,sq2,ev⟩,fun x H3 y=>?_⟩
   obtain⟨rfl,y⟩:=y
   have z:=y vs sq2
   rw[ev]at z
   cases z
   exact⟨.refl _,rv.kp K2⟩
def rangeT:Int->Nat->List T
 | _,0=>[]
 | lo,n + 1=>.int lo::rangeT (lo + 1) n
theorem rangeT_length:∀(lo:Int)(n:Nat),(rangeT lo n).length=n
 | _,0=>rfl
 | lo,n + 1=>by simp[rangeT,rangeT_length (lo + 1) n]
theorem rangeT_get:∀(lo:Int)(n i:Nat),i < n->(rangeT lo n)[i]?=some (.int (lo + i))
 | _,0,_,h=>by omega
 | lo,n + 1,0,_=>by simp[rangeT]
 | lo,n + 1,i + 1,h=>by
  simp only[rangeT,List.getElem?_cons_succ]
  rw[rangeT_get (lo + 1) n i (by omega)]
  congr 2
  push_cast
  omega
theorem wk_range{K:PySem.W.Frag}{H:Hp}(lo:Int)(n:Nat):Wk K (Itr lo n) (rangeT lo n) H:=by
 intro H2 _
 refine⟨fun i t ei=>?_,by show n<=_;rw[rangeT_length];exact Nat.le_refl _⟩
 have hi:i < n:=by
  have:=(List.getElem?_eq_some_iff.mp ei).1
  rwa [rangeT_length]at this
 rw[rangeT_get lo n i hi]at ei
 cases ei
 refine⟨hi,fun x H3 y=>?_⟩
 obtain⟨rfl,rfl⟩:=y
 exact⟨.refl _,rep_int.mpr rfl⟩
def iRange1(ws:WA):WI:=fun τ Q=>ws τ fun ts=>match ts with
 | [.int j]=>(-(2 ^ 62)<=j/\j < 2 ^ 62)/\Q (rangeT 0 j.toNat)
 | _=>False
theorem one_int{P:Int->Prop}{ts:List T}(h:match ts with|[.int j]=>P j|_=>False):∃j,ts=[.int j]/\P j:=by
 split at h
 ·exact⟨_,rfl,h⟩
 ·exact h.elim
theorem jiRange1{tg:Expr}{p:Pos} (hg:Gl X "range") (hm:X.mg "range" = none) (ha:JA X [a] ws) (hs:starEach [a] X.env=[(false,eval a X.env)]:=by rfl):JI X tg (.Call (.Name "range" p) [a] [] pos) (iRange1 ws) :=
 pi_of (pi_range1 hg hm ha hs) fun σ H R ⟨τ,Q0,Rs,hw,k⟩=>⟨τ,_,Rs,hw,fun ts vs H1 S1 r q=>by
   obtain⟨j,e0,q⟩:=one_int (P:=fun j=>(-(2 ^ 62)<=j/\j < 2 ^ 62)/\Q0 (rangeT 0 j.toNat)) q
   subst e0
   obtain⟨v,rfl,r1⟩:=reps1 r
   exact⟨j,by rw[rep_int.mp r1],q.1.1,q.1.2,k _ _ H1 S1 (wk_range 0 j.toNat) q.2⟩⟩
def iRange2(ws:WA):WI:=fun τ Q=>ws τ fun ts=>match ts with
 | [.int i,.int j]=>(-(2 ^ 62)<=i/\i < 2 ^ 62 /\ -(2 ^ 62)<=j/\j < 2 ^ 62)/\Q (rangeT i (j - i).toNat)
 | _=>False
end
end TL
end
section
namespace TL
open PySem PySem.Spec PyProof.Rows L2
section
variable {X:Cx} {pins:List (Addr×Obj)} {σ:St} {H:Hp} {s:Shared} {h':Heap}
theorem Inv.turnedT{t':Nat}{ch:List Addr}{p:Addr}{xs:List V}{us:List Value}(I:Inv X pins σ H s)(k:∀b o,b∉ch->s.heap.get? b=some o->h'.get? b=some o)(kt:∀b∈ch,∃o,h'.get? b=some o)
  (hch:∀b∈ch,FpOk X pins H b) (hp:s.heap.objs.size<=p) (hz:xs.length<=sizeLine) (r:Vals xs us) (ht:IsTup h' p us.toArray):Inv X pins σ (upd H p (.tup xs)) {s with heap:=h',toks:=t' }:=by
 have hpn:H p=none:=I.hok.fresh hp
 have nch:∀b u,H b=some u->b∉ch:=fun b u e z=>by rw[(hch b z).1]at e;cases e
 have nep:∀b u,H b=some u->b≠p:=fun b u e z=>by subst z;rw[hpn]at e;cases e
 have nlt:∀b o,s.heap.get? b=some o->b≠p:=fun b o e=>Nat.ne_of_lt (Nat.lt_of_lt_of_le (Heap.lt_size e) hp)
 refine I.step (g':=s.gens) (d':=s.drawn) (ch:=ch) (fun b hb=>?_) (fun b o _ _ hc e _=>k b o hc e) (fun b o _ _ hc e _=>⟨o.slots,k b o hc e⟩) (fun b o _ e n=>by rw[upd_ne (nlt b o e)];exact n)
  (fun b o hc e=>⟨o,k b o hc e⟩) (fun b ys e=>by rw[upd_ne (nep b _ e)];exact e) (fun b o u e=>by rw[upd_ne (nep b _ e)];exact e) (fun b ps e=>⟨#[],by rw[upd_ne (nep b _ e),e];simp⟩) (fun m hm=>?_) (fun b u e=>?_) I.bare
 ·obtain⟨f0,f1,f2,f3,f4,f5⟩:=hch b hb
  exact⟨f3,f1,f4,f5⟩
 ·obtain⟨o,es,ep,ho,r⟩:=hm
  exact⟨o,es,ep,k _ o (fun z=>(hch _ z).2.1 rfl) ho,r⟩
 ·by_cases hb:b=p
  ·subst hb
   rw[upd_same]at e
   cases e
   exact⟨hz,us,r,ht⟩
  ·rw[upd_ne hb]at e
   refine(I.hok b u e).stay (fun c v hc q=>k c v ?_ q) (fun c q=>by rw[upd_ne (nep c _ q)];exact q) fun c ys q=>by rw[upd_ne (nep c _ q)];exact q
   rcases hc with z|z
   ·rw[z];exact nch b u e
   ·exact nch c _ z
theorem Inv.turnedL{t':Nat}{ch:List Addr}(I:Inv X pins σ H s)(k:∀b o,b∉ch->s.heap.get? b=some o->h'.get? b=some o)
  (hch:∀b∈ch,FpOk X pins H b):Inv X pins σ H {s with heap:=h',toks:=t' }:=by
 have nch:∀b u,H b=some u->b∉ch:=fun b u e z=>by rw[(hch b z).1]at e;cases e
 refine I.step (g':=s.gens) (d':=s.drawn) (ch:=ch) (fun b hb=>?_) (fun b o _ _ hc e _=>k b o hc e) (fun b o _ _ hc e _=>⟨o.slots,k b o hc e⟩) (fun b o _ e n=>n)
  (fun b o hc e=>⟨o,k b o hc e⟩) (fun b ys e=>e) (fun b o u e=>e) (fun b ps e=>⟨#[],by rw[e];simp⟩) (fun m hm=>?_) (fun b u e=>?_) I.bare
 ·obtain⟨f0,f1,f2,f3,f4,f5⟩:=hch b hb
  exact⟨f3,f1,f4,f5⟩
 ·obtain⟨o,es,ep,ho,r⟩:=hm
  exact⟨o,es,ep,k _ o (fun z=>(hch _ z).2.1 rfl) ho,r⟩
 ·refine(I.hok b u e).stay (fun c v hc q=>k c v ?_ q) (fun _ q=>q) fun _ _ q=>q
  rcases hc with z|z
  ·rw[z];exact nch b u e
  ·exact nch c _ z
end
def Ite(K:PySem.W.Frag)(a:Addr):It :=
 ⟨fun i H=>∃xs x,SqL K H a xs/\xs[i]?=some x,fun i H x H'=>∃p y,H p=none/\x=.ref p/\H'=upd H p (.tup [.int i,y])/\∀xs,SqL K H a xs->xs[i]?=some y,fun i H=>∃xs,SqL K H a xs/\xs.length<=i⟩
theorem turn_enum{P:Program}{w:World}{K:PySem.W.Frag}{elts:List Expr}{x1}{tp:Pos}(a it en:Addr)(hne:en≠it) :
  Turn P w K (.Tuple elts x1 tp) (Ite K a) [en,it] en (fun i h=>(∃old,IsEnum h en it i old)/\h.IsListIter it a i) where
 mem:=by simp
 obj:=fun i h st b hb=>by
  obtain⟨⟨old,he⟩,o,e,c,d⟩:=st
  rcases List.mem_cons.mp hb with rfl|hb
  ·exact⟨_,he,fun v z=>by cases z⟩
  ·have e':b=it:=by simpa using hb
   subst e'
   exact⟨o,e,fun v z=>by rw[d]at z;cases z⟩
 keep:=fun i h h' st k=>⟨let ⟨old,he⟩:=st.1;⟨old,k en (by simp) _ he⟩,st.2.at fun o e=>k it (by simp) o e⟩
 item:=by
  intro X hP hw hK hc i pins s σ H E I hf st hg
  subst hP hw hK
  obtain⟨⟨old,he⟩,hit⟩:=st
  obtain⟨xs,x,hq,hx⟩:=hg
  obtain⟨its,rv,p,hz⟩:=I.list hq
  obtain⟨u,hu,ru⟩:=rv.get hx
  refine wpAny_pyNext_enum_item he hit p.isList (x:=u) (by simpa using hu) hne fun h1 heo hit1 ht1 hz1 hk1=>⟨_,rfl,?_⟩
  refine wpAny_letOwnedTupleGo_enum heo fun h2 he2 hs2=>?_
  have hpn:H s.heap.objs.size=none:=I.hok.fresh (Nat.le_refl _)
  have lt:∀b∈[en,it],b < s.heap.objs.size:=fun b hb=>by
   rcases List.mem_cons.mp hb with rfl|hb
   ·exact Heap.lt_size he
   ·have e':b=it:=by simpa using hb
    subst e'
    obtain⟨o,e,_⟩:=hit
    exact Heap.lt_size e
  have ht2:IsTup h2 s.heap.objs.size [Value.int i s.toks,u].toArray:=⟨_,(hs2.2 _ (Nat.ne_of_gt (lt en (by simp)))).trans ht1,rfl,_,rfl⟩
  have I2:Inv X pins σ (upd H s.heap.objs.size (.tup [.int i,x])) {s with heap:=h2,toks:=s.toks + 1}:=by
   refine Inv.turnedT (ch:=[en,it]) I (fun b o hb e=>?_) (fun b hb=>?_) hf (Nat.le_refl _) (by show 2<=sizeLine;decide) (.cons ⟨_,rfl⟩ (.cons ru .nil)) ht2
   ·have n1:b≠en:=fun z=>hb (by simp[z])
    have n2:b≠it:=fun z=>hb (by simp[z])
    exact(hs2.2 b n1).trans (hk1 b o n1 n2 e)
   ·rcases List.mem_cons.mp hb with rfl|hb
    ·exact⟨_,he2⟩
    ·have e':b=it:=by simpa using hb
     subst e'
     obtain⟨o,e,_⟩:=hit1
     exact⟨o,(hs2.2 b (Ne.symm hne)).trans e⟩
  refine⟨.ref s.heap.objs.size,_,I2,rfl,⟨_,x,hpn,rfl,rfl,fun ys hy=>by rw[I.list_inj hy hq];exact hx⟩,⟨⟨u,?_⟩,?_⟩,fun b hb=>?_⟩
  ·exact he2
  ·obtain⟨o,e,r⟩:=hit1
   exact⟨o,(hs2.2 it (Ne.symm hne)).trans e,r⟩
  ·rw[upd_ne (Nat.ne_of_lt (lt b hb))]
   exact(hf b hb).1
 done:=by
  intro X hP hw hK hc i pins s σ H E I hf st hg
  subst hP hw hK
  obtain⟨⟨old,he⟩,hit⟩:=st
  obtain⟨xs,hq,hx⟩:=hg
  obtain⟨its,rv,p,hz⟩:=I.list hq
  have hl:=rv.length
  refine wpAny_pyNext_enum_end (I.ok.hd hc) he hit p.isList (by simp;omega) fun h1 eb=>⟨rfl,?_⟩
  refine Inv.turnedL (ch:=[en,it]) I (t':=s.toks) (fun b o hb e=>eb b o (fun z=>hb (by simp[z])) e) hf
 self:=fun _ _ _ _ _ st h=>let ⟨old,he⟩:=st.1;wpAny_pyIter_enum he h
def enumT:Nat->List T->List T
 | _,[]=>[]
 | i,x::xs=>.tup [.int i,x]::enumT (i + 1) xs
theorem enumT_length:∀(i:Nat)(ts:List T),(enumT i ts).length=ts.length
 | _,[]=>rfl
 | i,_::r=>by simp[enumT,enumT_length (i + 1) r]
theorem enumT_get:∀(ts:List T)(j i:Nat)(t:T),ts[i]?=some t->(enumT j ts)[i]?=some (.tup [.int ((j + i:Nat):Int),t])
 | [],_,_,_,h=>by simp at h
 | x::r,j,0,t,h=>by simp at h;subst h;simp[enumT]
 | x::r,j,i + 1,t,h=>by
  simp only[enumT,List.getElem?_cons_succ]
  rw[enumT_get r (j + 1) i t (by simpa using h)]
  congr 5
  omega
section
variable {X:Cx} {a:Expr} {wa w:WE} {ws:WA} {pos:Pos}
def iEnum(ws:WA):WI:=fun τ Q=>ws τ fun ts=>match ts with
 | [.lst xs]=>Q (enumT 0 xs)
 | _=>False
theorem one_lst{P:List T->Prop}{ts:List T}(h:match ts with|[.lst xs]=>P xs|_=>False):∃xs,ts=[.lst xs]/\P xs:=by
 split at h
 ·exact⟨_,rfl,h⟩
 ·exact h.elim
theorem jiEnum{elts:List Expr}{x1}{tp p:Pos} (hg:Gl X "enumerate") (hm:X.mg "enumerate" = none) (ha:JA X [a] ws) (hs:starEach [a] X.env=[(false,eval a X.env)]:=by rfl) :
  JI X (.Tuple elts x1 tp) (.Call (.Name "enumerate" p) [a] [] pos) (iEnum ws):=by
 intro pins s σ H R I hw
 obtain⟨τ,Q0,Rs,hw,k⟩:=hw
 refine Call_ (ld_blt I hg hm boot_enumerate (PyProof.Rows.callWith_type1 (thn (ha pos pins s σ H (fun vs H1=>∃ts,Same H H1/\Reps X.K H1 ts vs/\(match ts with|[.lst xs]=>Q0 (enumT 0 xs)|_=>False)) I ⟨τ,_,Rs,hw,fun ts vs H1 S r q=>⟨ts,S,r,q⟩⟩) fun us s1 ⟨vs,H1,I1,r1,ts,S1,rt,q1⟩=>?_) hs rfl))
 ·obtain⟨xs,e0,q1⟩:=one_lst (P:=fun xs=>Q0 (enumT 0 xs)) q1
  subst e0
  obtain⟨v,rfl,rt1⟩:=reps1 rt
  rw[rep_lst]at rt1
  obtain⟨l,vs,rfl,hq,rr⟩:=rt1
  obtain⟨u,rfl,ru⟩:=vals1 r1
  cases ru
  obtain⟨its,rv,pl,hz⟩:=I1.list hq.sq
  refine call_enumerate_list pl.isList fun h2 he hit hsz hk=>?_
  refine wpAny_pyIter_enum he ?_
  have I2:Inv X pins σ H1 {s1 with heap:=h2}:=I1.kept (t':=s1.toks) hk
  refine⟨s1.heap.objs.size + 1,[s1.heap.objs.size + 1,s1.heap.objs.size],_,Ite X.K l,H1,rfl,I2,turn_enum l s1.heap.objs.size (s1.heap.objs.size + 1) (Nat.succ_ne_self _),⟨⟨_,he⟩,hit⟩,fun b hb=>?_,k _ _ H1 S1 ?_ q1⟩
  ·have hb':s1.heap.objs.size<=b:=by
    rcases List.mem_cons.mp hb with rfl|hb
    ·exact Nat.le_succ _
    ·have e:b=s1.heap.objs.size:=by simpa using hb
     rw[e]
     exact Nat.le_refl _
   exact I1.fpOk hb' (I1.hok.fresh hb')
  ·intro H2 K2
   have sq2:=(sqF_kp K2 hq).sq
   refine⟨fun i t ei=>?_,⟨vs,sq2,by rw[rr.length,enumT_length];exact Nat.le_refl _⟩⟩
   have hi:i < xs.length:=by
    have:=(List.getElem?_eq_some_iff.mp ei).1
    rwa [enumT_length]at this
   have ex:xs[i]?=some xs[i]:=List.getElem?_eq_getElem hi
   rw[enumT_get xs 0 i _ ex]at ei
   cases ei
   obtain⟨v,ev,rv⟩:=rr.get ex
   refine⟨⟨vs,v,sq2,ev⟩,fun x H3 y=>?_⟩
   obtain⟨p,y,hp,rfl,rfl,hy⟩:=y
   have z:=hy vs sq2
   rw[ev]at z
   cases z
   refine⟨same_new hp _,rep_tup.mpr ⟨p,_,rfl,SqT.of upd_same,.cons (rep_int.mpr ?_) (.one ((rv.kp K2).kp (.of (same_new hp _))))⟩⟩
   simp
end
end TL
end
section
namespace TL
open PySem PySem.Spec PyProof.Rows L2
def Cal(P:Program)(w:World)(K:PySem.W.Frag)(mg:Str->Option Value)(base:Heap)(k:Nat)(x:Str)(ps:List Str)(S:SpT):Prop :=
 ∃f fd,FnT P w K mg base k f fd ps S/\Binds K fd ps []/\PySem.W.keepIn K (.ref f)=true/\mg x=some (.ref f)
theorem Cal.mk{P:Program}{w:World}{K:PySem.W.Frag}{mg:Str->Option Value}{base:Heap}{k:Nat}{x qual:Str}{ps:List Str}{S:SpT}{st:Stmt}{f:Addr}{fd:FuncData}(F:Fun K x qual st f fd)(m:mg x=some (.ref f))
  (b:Binds K fd ps []) (h:FnT P w K mg base k f fd ps S):Cal P w K mg base k x ps S:=⟨f,fd,h,b,F.kp,m⟩
section
variable {X:Cx} {a b c e:Expr} {es:List Expr} {wa wb wc w:WE} {ws:WA} {pos:Pos} {st:Stmt}
theorem jcallC{k:Nat}{ps:List Str}{S:SpT}{x:Str}{p:Pos}(C:Cal X.prog X.w X.K X.mg X.base k x ps S)(hr:Room k X.A)(hg:Gl X x)
  (ha:JA X (e::es) ws) (hdb:(x==("__debug__" : Str))=false:=by decide) (he:starEach (e::es) X.env=(false,eval e X.env)::starEach es X.env:=by exact star1 rfl)
  (hpl:(backTo pos (starEach es X.env)).any (·.1)=false:=by exact stars rfl):JE X (.Call (.Name x p) (e::es) [] pos) (wCall S ws):=by
 obtain⟨f,fd,F,hb,hk,hm⟩:=C
 exact jcall F hr hg hm hk hb ha hdb he hpl
def sNever:WS:=fun _ _=>False
def GlV(K:PySem.W.Frag)(t:T)(u:Value):Prop:=∃v,RelV v u/\∀H,Rep K H t v
def GlC(K:PySem.W.Frag)(mg:Str->Option Value)(x:Str)(t:T):Prop:=∃u,mg x=some u/\GlV K t u
theorem jglobC{x:Str}{t:T}{pos:Pos}(g:GlC X.K X.mg x t)(hg:Gl X x) (hd:(x==("__debug__" : Str))=false:=by decide):JE X (.Name x pos) (wC t):=by
 obtain⟨u,hm,v,r,q⟩:=g
 exact jglob hg hm r q hd
end
def lawSp:SpT:=fun ts Q=>∃ns:List Int,ts=[.lst (ns.map T.int)]/\ns.length<=63/\Q (.bl true)
theorem len_law:∀ts Q,lawSp ts Q->ts.length=1:=fun ts Q ⟨ns,e,_⟩=>by subst e;rfl
theorem law_start{K:PySem.W.Frag}{H:Hp}{a:Addr}{ns:List Int}(hl:ns.length<=63)(hO:Only H)(hS:SqL K H a (ns.map V.int)):spT K 1 lawSp [.ref a] H (fun v _=>v=.bl true) fun _ _ _=>False:=by
 have sq:SqF K H a (ns.map V.int):=by
  rcases hS with (h|⟨o,h⟩)|h
  ·rcases hO a with z|⟨o,xs,z⟩
   ·rw[z]at h;cases h
   ·rw[z]at h;cases h
  ·exact .inl ⟨o,h⟩
  ·exact .inr h
 exact⟨_,fun t=>t=.bl true,rfl,.one (rep_lst.mpr ⟨a,_,rfl,sq,reps_ints ns⟩),⟨ns,rfl,hl,rfl⟩,fun t v H' S r q=>by subst q;exact rep_bl.mp r⟩
theorem walk{l:PySem.W.OpenLaw}{k:Nat}{x:Str}{q:Program}{loose:List Str}{XP:(Str->Option Value)->Heap->Prop}{YP:World->Heap->Prop}{d:DefRec}{K:Params->PySem.W.Frag}(hn:l.most=some 63)(hdf:d.params.defaults=[])(hr:Room k callerA)
  (hY:∀(w:World)(h:Heap),YP w h->(K w.params).In h)
  (F:∀(w:World)(mg:Str->Option Value)(fa:Addr)(h:Heap),(K w.params).In h->h.Ns mainGlobals mg->mg d.name=some (.ref fa) →
   ∃fd:FuncData,(∀(s:Shared)(u:Value),BindsTo s fd ⟨[u],[]⟩ [(x,u)])/\∀base:Heap,(K w.params).In base->base.Ns mainGlobals mg->FnOk l.prog w (K w.params) mg base CX0 k fa fd [x] (spT (K w.params) 1 lawSp)) :
  PySem.W.WalkO q loose XP YP l.row.toRowW d [] (fun f vs=>PySem.call f vs) :=
 L2.walk_of (n:=63) (k:=k) (x:=x) (CX:=fun _=>CX0) (sp:=fun w=>spT (K w.params) 1 lawSp) hn (by decide) hdf hr hY F (fun _ _ _ _ hl hO hS=>law_start hl hO hS) fun _ _ _ _ _ z=>z
end TL
end
section
namespace TL
open PySem PySem.Spec PyProof.Rows L2
theorem closLoop{env:Env}:∀(names:List (Str×NameKind))(cs:List (Str×Addr)),(∀x∈names,x.2=.free->∃c,env.cells.lookup x.1=some c)->(∀x c,cs.lookup x=some c->env.cells.lookup x=some c) →
  ∃cl,(forIn names cs fun x cs=>(if (x.2==NameKind.free)=true then do let a ← cellOf env x.1;pure (ForInStep.yield ((x.1,a)::cs)) else pure (ForInStep.yield cs):Sem (ForInStep (List (Str×Addr)))))=(pure cl:Sem (List (Str×Addr))) ∧
   (∀x c,cl.lookup x=some c->env.cells.lookup x=some c)/\(∀x c,cs.lookup x=some c->∃c,cl.lookup x=some c)/\∀x∈names,x.2=.free->∃c,cl.lookup x.1=some c
 | [],cs,_,hc=>⟨cs,rfl,hc,fun x c e=>⟨c,e⟩,fun _ h=>nomatch h⟩
 | (n,k)::r,cs,h,hc=>by
  by_cases hk:k=.free
  ·subst hk
   obtain⟨c,ec⟩:=h (n,.free) List.mem_cons_self rfl
   have e0:cellOf env n=pure c:=by unfold cellOf;rw[ec]
   obtain⟨cl,e,p1,p2,p3⟩:=closLoop (env:=env) r ((n,c)::cs) (fun x hx=>h x (List.mem_cons_of_mem _ hx)) (fun x d e=>by
    by_cases hx:x=n
    ·subst hx
     simp at e
     subst e
     exact ec
    ·have hb:(x==n)=false:=by simpa using hx
     rw[List.lookup_cons,hb]at e
     exact hc x d e)
   refine⟨cl,?_,p1,fun x d e=>?_,fun x hx hf=>?_⟩
   ·rw[List.forIn_cons]
    show ((if (NameKind.free==NameKind.free)=true then _ else _) >>= _)=_
    rw[if_pos (show (NameKind.free==NameKind.free)=true from rfl)]
    show ((cellOf env n >>= fun a=>pure (ForInStep.yield ((n,a)::cs))) >>= _)=_
    rw[e0]
    exact e
   ·by_cases hx:x=n
    ·subst hx
     exact p2 x c (by simp)
    ·have hb:(x==n)=false:=by simpa using hx
     exact p2 x d (by rw[List.lookup_cons,hb];exact e)
   ·rcases List.mem_cons.mp hx with rfl|hx
    ·exact p2 n c (by simp)
    ·exact p3 x hx hf
  ·have hb:(k==NameKind.free)=false:=by simpa using hk
   obtain⟨cl,e,p1,p2,p3⟩:=closLoop (env:=env) r cs (fun x hx=>h x (List.mem_cons_of_mem _ hx)) hc
   refine⟨cl,?_,p1,p2,fun x hx hf=>?_⟩
   ·rw[List.forIn_cons]
    show ((if (k==NameKind.free)=true then _ else _) >>= _)=_
    rw[if_neg (by rw[hb];exact Bool.false_ne_true)]
    exact e
   ·rcases List.mem_cons.mp hx with rfl|hx
    ·exact absurd hf hk
    ·exact p3 x hx hf
theorem closureFor_of{scope:Scope}{env:Env}(h:∀x∈scope.names,x.2=.free->∃c,env.cells.lookup x.1=some c) :
  ∃cl,closureFor scope env=pure cl/\(∀x c,cl.lookup x=some c->env.cells.lookup x=some c)/\∀x∈scope.names,x.2=.free->∃c,cl.lookup x.1=some c:=by
 obtain⟨cl,e,p1,_,p3⟩:=closLoop (env:=env) scope.names [] h (fun x c e=>by simp at e)
 refine⟨cl,?_,p1,p3⟩
 unfold closureFor
 have:(forIn scope.names ([]:List (Str×Addr)) fun x cs=>(match x with|(name,kind)=>(if (kind==NameKind.free)=true then do let a ← cellOf env name;pure (ForInStep.yield ((name,a)::cs)) else pure (ForInStep.yield cs):Sem (ForInStep (List (Str×Addr))))))=(pure cl:Sem (List (Str×Addr))):=e
 first
  | (rw[this];rfl)
  | (show (forIn scope.names ([]:List (Str×Addr)) _ >>= fun cs=>pure cs)=_;rw[this];rfl)
def compCx(X:Cx)(N:List Str)(scope:Scope)(cl:List (Str×Addr))(C:Addr)(s3:Shared)(H2:Hp)(ex:List Addr):Cx where
 prog:=X.prog
 w:=X.w
 K:=X.K
 mg:=X.mg
 base:=X.base
 A:=X.A
 N:=N
 s₀:=s3
 H₀:=H2
 env:=compEnvC scope cl C X.env
 outer:=X.stack
 stack:=X.stack
 ex:=ex
 fn:=fun _=>false
 calm:=true
 pn:=[]
 xe:=fun _ _=>False
section
variable {prog:Program} {w:World} {A:Around} {E:Value->Shared->Prop} {R:Result->Shared->Prop} {s:Shared}
theorem codeAny_compLoop_any{elt target iter:Expr}{ifs:List Expr}{scope:Scope}{pos:Pos}{it acc:Value}{env:Env}(I:Nat->Shared->Prop)
  (turn:∀n s,I n s->wpAny (model prog w) A (pyNext it) (fun r s₁=>match r with
   | none=>R (.ok .next) s₁
   | some v=>wpAny (model prog w) A (letOwnedTupleGo target it v) (fun _ s₁'=>wpAny (model prog w) A (assign target env v) (fun _ s₂ =>
     wpAny (model prog w) A (forIn ifs true fun c r=>if r=true then do let ok ← isTrue c env (eval c env);pure (ForInStep.yield ok) else pure (ForInStep.yield r)) (fun ok s₃ =>
      if ok=true then wpAny (model prog w) A (eval elt env) (fun x s₄ =>
       wpAny (model prog w) A (call (.builtin "list.append") [acc,x]) (fun _ s₅=>∃m,m < n/\I m s₅) (fun _ _=>False) s₄) (fun _ _=>False) s₃
      else ∃m,m < n/\I m s₃) (fun _ _=>False) s₂) (fun _ _=>False) s₁') (fun _ _=>False) s₁) (fun _ _=>False) s)
  (n:Nat) (h:I n s) :
  codeAny (model prog w) A (.compLoop (.ListComp elt [⟨target,iter,ifs,0⟩] scope pos) 0 it acc env) R s:=by
 refine codeAny_loop rfl I (fun n s hI=>?_) n h
 show wpAny _ A ((compTurn (.ListComp elt [⟨target,iter,ifs,0⟩] scope pos) 0 it acc env).onRaise (fun x=>do noteFrame x env;theTreesLotGoes x)) _ _ s
 refine wpAny_noted ?_
 rw[compTurn_list]
 refine wpAny_bind (wpAny_standAt (wpAny_bind (wpAny_mono (turn n s hI) (fun r s₁ h₁=>?_) fun _ _ h'=>h'.elim)))
 cases r with
 | none=>exact wpAny_pure h₁
 | some v =>
  refine wpAny_bind (wpAny_mono h₁ (fun _ s₁' h₁'=>?_) fun _ _ h'=>h'.elim)
  refine wpAny_bind (wpAny_mono h₁' (fun _ s₂ h₂=>wpAny_bind (wpAny_mono h₂ (fun ok s₃ h₃=>?_) fun _ _ h'=>h'.elim)) fun _ _ h'=>h'.elim)
  cases ok with
  | false=>exact wpAny_pure ⟨rfl,h₃⟩
  | true =>
   exact wpAny_bind (wpAny_bind (wpAny_mono h₃ (fun x s₄ h₄=>wpAny_bind (wpAny_mono h₄ (fun _ s₅ h₅=>wpAny_pure (wpAny_pure ⟨rfl,h₅⟩)) fun _ _ h'=>h'.elim)) fun _ _ h'=>h'.elim))
end
def hide:Slot->Slot
 | .own ts=>.see ts
 | .see _=>.no
 | .vat t _=>.val t
 | .owd _ _=>.no
 | s=>s
def compT(g:TGt)(ut:WT)(we:WE):List T->List T->List Slot->(List T->Prop)->Prop
 | [],acc,_,Q=>Q acc
 | x::xs,acc,τ,Q=>g x τ fun τ1=>ut τ1 fun k=>(k=true->we τ1 fun t=>compT g ut we xs (acc++[t]) τ1 Q)/\(k=false->compT g ut we xs acc τ1 Q)
def wComp(wi:WI)(g:TGt)(ut:WT)(we:WE)(n:Nat)(fr:List Nat):WE:=fun τ Q=>wi τ fun ts=>ts.length<=1000/\compT g ut we ts [] (List.replicate n Slot.no++fr.map fun i=>hide (sget τ i)) fun rs=>Q (.lst rs)
def JTs(X:Cx)(ifs:List Expr)(u:WT):Prop :=
 ∀(pins:List (Addr×Obj))(s:Shared)(σ:St)(H:Hp)(Q:Bool->Hp->Prop),Inv X pins σ H s->upT X.K X.H₀ u σ H Q →
  wpAny (model X.prog X.w) X.A (forIn ifs true fun c r=>if r=true then do let ok ← isTrue c X.env (eval c X.env);pure (ForInStep.yield ok) else pure (ForInStep.yield r)) (TP X pins σ Q) X.xe s
def tTrue:WT:=fun _ Q=>Q true
theorem jts0{X:Cx}:JTs X [] tTrue:=fun pins s σ H Q I ⟨τ,Q0,R,hw,k⟩=>wpAny_tests_nil ⟨H,I,k _ H (.refl H) hw⟩
theorem jts1{X:Cx}{c:Expr}{u:WT}(h:JT X c u):JTs X [c] u:=fun pins s σ H Q I hw=>wpAny_tests_one (h pins s σ H Q I hw)
theorem relabel_mem{scope:Scope}{env:Env}{x:Str}{k':NameKind}(h:(relabel scope env).names.lookup x=some k'):∃k,(x,k)∈scope.names/\(k'=k∨(k=.free/\k'=.cell)):=by
 have hm:=PySem.mem_of_lookup h
 obtain⟨⟨n,k⟩,hn,e⟩:=List.mem_map.mp hm
 by_cases hc:(k==NameKind.free&&env.scope.kind == .function&&env.kindOf n==some .cell)=true
 ·have e':(n,NameKind.cell)=(x,k'):=by simpa [hc] using e
  cases e'
  have hfree:=(Bool.and_eq_true_iff.mp (Bool.and_eq_true_iff.mp hc).1).1
  exact⟨_,hn,.inr ⟨by simpa using hfree,rfl⟩⟩
 ·have e':(n,k)=(x,k'):=by simpa [hc] using e
  cases e'
  exact⟨_,hn,.inl rfl⟩
theorem relabel_free{env:Env}(hk:env.scope.kind=.function):∀{names:List (Str×NameKind)}{x:Str},names.lookup x=some .free->env.kindOf x=some .cell →
  (names.map fun (n,k)=>if (k==NameKind.free&&env.scope.kind == .function&&env.kindOf n==some .cell) then (n,NameKind.cell) else (n,k)).lookup x=some .cell
 | [],_,h,_=>by simp at h
 | (n,k)::r,x,h,hx=>by
  have ih:=@relabel_free env hk r x
  show List.lookup x ((if (k==NameKind.free&&env.scope.kind == .function&&env.kindOf n==some .cell)=true then (n,NameKind.cell) else (n,k))::_)=_
  cases hb:x==n with
  | true =>
   have e:x=n:=by simpa using hb
   subst e
   simp only[List.lookup_cons,hb]at h
   cases h
   rw[if_pos (by rw[hk,hx];rfl)]
   simp[List.lookup_cons]
  | false =>
   simp only[List.lookup_cons,hb]at h
   by_cases hc:(k==NameKind.free&&env.scope.kind == .function&&env.kindOf n==some .cell)=true
   ·rw[if_pos hc];simp only[List.lookup_cons,hb];exact ih h hx
   ·rw[if_neg hc];simp only[List.lookup_cons,hb];exact ih h hx
section
variable {X:Cx} {pos:Pos}
theorem comp_start{pins:List (Addr×Obj)}{σ:St}{H:Hp}{s:Shared}{scope:Scope}{cl:List (Str×Addr)}{C:Addr}{N:List Str}{σ':St}{s4:Shared}{ex:List Addr}
  (I:Inv X pins σ H s) (hc:X.calm=true) (hk:scope.kind=.function) (hC:s.heap.objs.size<=C)
  (hcl:∀x c,cl.lookup x=some c->X.env.cells.lookup x=some c)
  (hhas:∀x,((relabel scope X.env).names.lookup x=some .cell∨(relabel scope X.env).names.lookup x=some .free)->∃c,cl.lookup x=some c)
  (hex:∀b∈ex,FpOk X pins H b) (hlt:∀b∈ex,b < s.heap.objs.size)
  (hos:s4.os=s.os) (hbare:AllBare s4.gens) (hkeep:∀b o,s.heap.get? b=some o->s4.heap.get? b=some o) {m:Str->Option Value} (hns:s4.heap.Ns C m)
  (hloc:∀(i:Nat)(x:Str)(v:V),N[i]?=some x->σ'[i]?=some (some v)->∃u,RelV v u/\Look (compEnvC scope cl C X.env) s4.heap m x u) (hlen:σ'.length=N.length) :
  Inv (compCx X N scope cl C s H ex) [] σ' H s4:=by
 have bs:=I.bs
 refine⟨⟨I.ok.mod,hk,I.ok.glob,I.ok.blt,hC,fun x y c h1 h2=>I.ok.inj x y c (hcl _ _ h1) (hcl _ _ h2),hhas,fun _ _ z=>(by cases z),fun _=>I.ok.hd hc,I.ok.frames,.inl rfl,
   fun b hb=>⟨Nat.ne_of_lt (Nat.lt_of_lt_of_le (hlt b hb) hC),fun x c e=>(hex b hb).2.2.2.2.1 x c (hcl _ _ e)⟩,bs,Nat.le_trans I.ok.bsz I.sz,fun b o e hb=>?_,fun b hb=>?_,I.stack,I.stkFree⟩,
  hos,hbare,Un.kept hkeep,⟨m,hns,fun i x v h1 h2 _=>hloc i x v h1 h2⟩,fun x c e=>?_,I.hok.fresh hC,fun x c e=>I.freeC x c (hcl _ _ e),fun p hp=>absurd (show p∈([]:List (Addr×Obj)) from hp) (by simp),I.hok.kept hkeep,hlen⟩
 ·rcases (hex b hb).2.2.2.1 with z|z
  ·exact I.ok.noex b o e z
  ·exact absurd (Nat.lt_of_lt_of_le (Heap.lt_size e) (Nat.le_trans I.ok.bsz z)) (Nat.lt_irrefl _)
 ·intro z
  obtain⟨_,f1,f2,_⟩:=hex b hb
  rcases List.mem_cons.mp (I.stkSub b z) with e|e
  ·exact f1 e
  ·exact f2 e
 ·obtain⟨v,o,ho,hd⟩:=I.cell x c (hcl _ _ e)
  exact⟨v,o,hkeep c o ho,hd⟩
def slotsOf(σ:St)(n:Nat)(fr:List (Str×Nat)):St:=List.replicate n none++fr.map fun p=>(σ[p.2]?).getD none
theorem repSt_comp{K:PySem.W.Frag}{H0 H H2:Hp}{σ:St}{τ:List Slot}(n:Nat)(fr:List (Str×Nat))(R:RepSt K H0 H σ τ)(S:Same H H2) :
  RepSt K H2 H2 (slotsOf σ n fr) (List.replicate n Slot.no++(fr.map (·.2)).map fun i=>hide (sget τ i)):=by
 have key:∀i,sget (List.replicate n Slot.no++(fr.map (·.2)).map fun i=>hide (sget τ i)) i=.no∨∃p,fr[i - n]?=some p/\n<=i/\sget (List.replicate n Slot.no++(fr.map (·.2)).map fun i=>hide (sget τ i)) i=hide (sget τ p.2):=fun i=>by
  by_cases hi:i < n
  ·left
   rw[sget_append_left (by simpa using hi),sget_no]
  ·rw[sget_append_right (by simpa using hi),List.length_replicate]
   have gen:∀(l:List (Str×Nat))(j:Nat),sget ((l.map (·.2)).map fun i=>hide (sget τ i)) j=.no∨∃p,l[j]?=some p/\sget ((l.map (·.2)).map fun i=>hide (sget τ i)) j=hide (sget τ p.2):=by
    intro l
    induction l with
    | nil=>intro j;left;rfl
    | cons p r ih =>
     intro j
     cases j with
     | zero=>exact .inr ⟨p,rfl,rfl⟩
     | succ j=>exact ih j
   rcases gen fr (i - n) with z|⟨p,e1,e2⟩
   ·exact .inl z
   ·exact .inr ⟨p,e1,by omega,e2⟩
 have noOwn:∀s ts,hide s ≠ .own ts:=fun s ts=>by cases s<;>simp[hide]
 refine⟨.refl H2,by simp[slotsOf],fun i=>?_,fun i j ts us p _ h1 _ _ _=>?_⟩
 ·rcases key i with z|⟨p,e1,hi,e2⟩
  ·rw[z];trivial
  ·rw[e2]
   have ge:(slotsOf σ n fr)[i]?=some ((σ[p.2]?).getD none):=by
    unfold slotsOf
    rw[List.getElem?_append_right (by simpa using hi),List.length_replicate,List.getElem?_map,e1]
    rfl
   have sl:=R.slot p.2
   cases e:sget τ p.2 with
   | no=>trivial
   | see ts=>trivial
   | owd _ _=>trivial
   | vat t v =>
    rw[e]at sl
    exact⟨v,by rw[ge,sl.1];rfl,sl.2.kp (.of S)⟩
   | dic ps =>
    rw[e]at sl
    obtain⟨q,o,kvs,ev,h1,ek,r⟩:=sl
    exact⟨q,o,kvs,by rw[ge,ev];rfl,S _ _ h1,ek,r.kp (.of S)⟩
   | own ts =>
    rw[e]at sl
    obtain⟨q,vs,ev,h1,r,_⟩:=sl
    exact⟨q,vs,by rw[ge,ev];rfl,S _ _ h1,r.kp (.of S),by rw[S _ _ h1];exact fun z=>by cases z⟩
   | val t =>
    rw[e]at sl
    obtain⟨v,ev,r⟩:=sl
    exact⟨v,by rw[ge,ev];rfl,r.kp (.of S)⟩
 ·rcases key i with z|⟨p,_,_,e2⟩
  ·rw[z]at h1;cases h1
  ·rw[e2]at h1;exact noOwn _ _ h1
theorem comp_end{X X':Cx}{pins pins':List (Addr×Obj)}{σ σ5:St}{H2 H5:Hp}{s2 s6:Shared}{fp:List Addr}{Da:Addr}{h3:Heap}{vs:List V}{its:List Value}{k5:Nat}(eP:X'.prog=X.prog)(eW:X'.w=X.w)(eFs:X'.fs=frs X.stack)(eEx:X'.ex=Da::fp)(eH:X'.H₀=H2)
  (eS:X'.s₀.heap=h3) (eOs:X'.s₀.os=s2.os) (hCn:X'.env.locals=Da + 1) (pushK:∀b o,s2.heap.get? b=some o->h3.get? b=some o) (hDa:s2.heap.objs.size=Da) (I2:Inv X pins σ H2 s2) (f2:∀b∈fp,FpOk X pins H2 b) (I6:Inv X' pins' σ5 H5 s6)
  (frD:H5 Da=none) (hD:s6.heap.get? Da=some {cls:=.type "list", dict:=none,data:=.seq its.toArray k5}) (rv:Vals vs its) (hz:vs.length<=sizeLine) :
  Inv X pins σ (upd H5 Da (.frz {cls:=.type "list", dict:=none,data:=.seq its.toArray k5} (.lst vs))) s6:=by
 have un:=I6.base
 rw[eFs,eEx,eH,eS]at un
 have old:∀b o,s2.heap.get? b=some o->b≠Da:=fun b o e=>by
  have lt:=Heap.lt_size e
  rw[hDa]at lt
  exact Nat.ne_of_lt lt
 have hnD:∀b,H5 b≠none->b≠Da:=fun b h z=>h (by rw[z];exact frD)
 have ex:∀b o,s2.heap.get? b=some o->b∉fp->b∉Da::fp:=fun b o e hb z=>by
  rcases List.mem_cons.mp z with z|z
  ·exact old b o e z
  ·exact hb z
 refine I2.call' (s':=s6) (ch:=fp) (by rw[I6.os,eOs]) ⟨fun b o e n hf hx=>?_,fun b o e n hf hx=>?_,fun b o e n hx=>?_,fun b o e hx=>?_,fun b xs e=>?_,fun b o u e=>?_,fun b ps e=>?_⟩ (fun b ob eb=>?_) I6.bare fun b hb=>?_
 ·exact un.keep b o (pushK b o e) n hf (ex b o e hx)
 ·exact un.slot b o (pushK b o e) n hf (ex b o e hx)
 ·rw[upd_ne (old b o e)]
  exact un.free b o (pushK b o e) n (ex b o e hx)
 ·exact un.there b o (pushK b o e) (ex b o e hx)
 ·have e1:=un.tups b xs e
  rw[upd_ne (hnD b (by rw[e1];simp))]
  exact e1
 ·have e1:=un.frzs b o u e
  rw[upd_ne (hnD b (by rw[e1];simp))]
  exact e1
 ·obtain⟨more,e1⟩:=un.tbls b ps e
  exact⟨more,by rw[upd_ne (hnD b (by rw[e1];simp))];exact e1⟩
 ·by_cases hb:b=Da
  ·subst hb
   rw[upd_same]at eb
   cases eb
   exact⟨hD,hz,its,k5,rv,hD⟩
  ·rw[upd_ne hb]at eb
   have o5:=I6.hok b ob eb
   rw[eP,eW]at o5
   exact o5.stay (fun c v hc q=>q) (fun c q=>by rw[upd_ne (hnD c (by rw[q];simp))];exact q) fun c ys q=>by rw[upd_ne (hnD c (by rw[q];simp))];exact q
 ·obtain⟨g1,g2,g3,g4,g5,g6⟩:=f2 b hb
  exact⟨g4,g2,g5,g6⟩
def WkS(K:PySem.W.Frag)(J:It)(ts:List T)(H1:Hp):Prop:=∀H2,Same H1 H2->(∀i t,ts[i]?=some t->J.go i H2/\∀x H3,J.yld i H2 x H3->Same H2 H3/\Rep K H3 t x)/\J.stop ts.length H2
theorem Wk.s{K:PySem.W.Frag}{J:It}{ts:List T}{H:Hp}(h:Wk K J ts H):WkS K J ts H:=fun H2 S=>h H2 (.of S)
def upIc(K:PySem.W.Frag)(H0:Hp)(w:WI):TI:=fun σ H R=>∃(τ:List Slot) (Q0:List T->Prop),RepSt K H0 H σ τ/\w τ Q0/\∀ts J H',Same H H'->WkS K J ts H'->Q0 ts->R J H'
def JIc(X:Cx)(tg iter:Expr)(w:WI):Prop:=PI X tg iter (upIc X.K X.H₀ w)
theorem JI.c{X:Cx}{tg iter:Expr}{w:WI}(h:JI X tg iter w):JIc X tg iter w:=pi_of h fun σ H R ⟨τ,Q0,R0,hw,k⟩=>⟨τ,Q0,R0,hw,fun ts J H' S wk q=>k ts J H' S wk.s q⟩
inductive CompInv (K:PySem.W.Frag) (X':Cx) (ts:List T) (g:TGt) (ut:WT) (we:WE) (Q0:T->Prop) (tn':Nat->Heap->Prop) (Da:Addr) (fp:List Addr) (n:Nat) (s':Shared):Prop
 | mk (i:Nat) (σ':St) (H':Hp) (τ':List Slot) (acc:List T) (vs:List V) (its:List Value) (k:Nat) (e:n=ts.length - i) (hi:i<=ts.length) (I:Inv X' [] σ' H' s') (st:tn' i s'.heap) (fr:∀b∈Da::fp,H' b=none)
  (R:RepSt X'.K X'.H₀ H' σ' τ') (hD:s'.heap.get? Da=some {cls:=.type "list", dict:=none,data:=.seq (List.toArray its) k}) (rv:Vals vs its) (ra:Reps K H' acc vs) (hl:acc.length<=i) (q:compT g ut we (ts.drop i) acc τ' fun rs=>Q0 (.lst rs)) :
  CompInv K X' ts g ut we Q0 tn' Da fp n s'
theorem comp_loop{X X':Cx}{elt target iter:Expr}{ifs:List Expr}{scope:Scope}{pos:Pos}{g:TGt}{ut:WT}{we:WE}{use:Option (Value->Sem Unit)}{QQ:Value->Shared->Prop}{pins:List (Addr×Obj)}{σ σ4:St}{H H2:Hp}{s2 s4:Shared}{h3:Heap}{it Da:Addr}{fp:List Addr}{tn':Nat->Heap->Prop}{J:It}{ts:List T}{Q0:T->Prop}{τ4:List Slot}
  (hg':JG X' target g) (hu':JTs X' ifs ut) (he':JE X' elt we) (eP:X'.prog=X.prog) (eW:X'.w=X.w) (eK:X'.K=X.K) (eA:X'.A=X.A) (eH:X'.H₀=H2) (eE:X'.xe=fun _ _=>False) (eC:X'.calm=true) (eFs:X'.fs=frs X.stack) (eEx:X'.ex=Da::fp) (eS:X'.s₀.heap=h3) (eOs:X'.s₀.os=s2.os) (ePn:X'.pn=[])
  (hCn:X'.env.locals=Da + 1) (pushK:∀b o,s2.heap.get? b=some o->h3.get? b=some o) (hDa:s2.heap.objs.size=Da) (I2:Inv X pins σ H2 s2) (f2:∀b∈fp,FpOk X pins H2 b) (Tn:Turn X.prog X.w X.K target J fp it tn') (ne:Da∉fp) (S2:Same H H2) (wk:WkS X.K J ts H2) (hlen:ts.length<=1000)
  (J4:Inv X' [] σ4 H2 s4) (R4:RepSt X'.K X'.H₀ H2 σ4 τ4) (st4:tn' 0 s4.heap) (fr4:∀b∈Da::fp,H2 b=none) (hDat:s4.heap.get? Da=some {cls:=.type "list", dict:=none,data:=.seq ([]:List Value).toArray}) (q:compT g ut we ts [] τ4 fun rs=>Q0 (.lst rs))
  (hfp:∀H6:Hp,H6 X'.env.locals=none->FpOk X pins H6 X'.env.locals)
  (hend:∀(s6:Shared)(H6:Hp)(D C:Addr)(m6:Str->Option Value)(t:T)(f:Flow),Inv X pins σ H6 s6->FpOk X pins H6 C->s6.heap.Ns C m6->Same H H6->Rep X.K H6 t (.ref D)->Q0 t->(∃(H5:Hp) (o:Obj) (vs:List V) (ts:List T),H6=upd H5 D (.frz o (.lst vs))/\H5 D=none/\Same H H5/\t=.lst ts/\Reps X.K H5 ts vs)->compPost (model X.prog X.w) X.A X.xe use QQ (.ref D) C (.ok f) s6) :
  codeAny (model X.prog X.w) X.A (.compLoop (.ListComp elt [⟨target,iter,ifs,0⟩] scope pos) 0 (.ref it) (.ref Da) X'.env) (compPost (model X.prog X.w) X.A X.xe use QQ (.ref Da) X'.env.locals) s4:=by
 have stat:∀{H':Hp}{b:Addr},b∈Da::fp->H' b=none->FpOk X' [] H' b:=fun {H' b} hb hn=>by
  have o:=(J4.ok.exf b (by rw[eEx];exact hb))
  refine⟨hn,o.1,J4.ok.exfs b (by rw[eEx];exact hb),.inl (by rw[eEx];exact hb),o.2,fun p hp=>?_⟩
  rw[ePn]at hp
  exact absurd (show p∈([]:List (Addr×Obj)) from hp) (by simp)
 refine codeAny_compLoop_any (CompInv X.K X' ts g ut we Q0 tn' Da fp) ?_ ts.length
  ⟨0,_,H2,_,[],[],[],0,by simp,Nat.zero_le _,J4,st4,fr4,R4,hDat,.nil,reps_nil.mpr rfl,Nat.le_refl _,by simpa using q⟩
 rintro n s5 ⟨i,σ5,H5,τ5,acc,vs,its,k5,rfl,hi5,I5,st5,fr5,R5,hD5,rv5,ra5,hl5,q5⟩
 have K5:Same H2 H5:=by
  have:=R5.same
  rwa [eH]at this
 obtain⟨wi5,ws5⟩:=wk H5 K5
 have fp5:∀b∈fp,FpOk X' [] H5 b:=fun b hb=>stat (List.mem_cons_of_mem _ hb) (fr5 b (List.mem_cons_of_mem _ hb))
 rw[← eA]
 by_cases hlt:i < ts.length
 ·have ei:ts[i]?=some ts[i]:=List.getElem?_eq_getElem hlt
  obtain⟨go,yl⟩:=wi5 i _ ei
  rw[List.drop_eq_getElem_cons hlt]at q5
  have ID:Inv X' ([]++pinsAt [Da] s5.heap) σ5 H5 s5:=I5.pinned (fp:=[Da]) (fun b hb=>stat (by rw[List.mem_singleton.mp hb];exact List.mem_cons_self) (fr5 b (by rw[List.mem_singleton.mp hb];exact List.mem_cons_self))) fun b hb=>by
   rw[List.mem_singleton.mp hb]
   exact⟨_,hD5,fun v z=>(by cases z)⟩
  have fpp:∀{H':Hp},(∀b∈fp,H' b=none)->∀b∈fp,FpOk X' ([]++pinsAt [Da] s5.heap) H' b:=fun hn b hb=>by
   obtain⟨g1,g2,g3,g4,g5,g6⟩:=stat (H':=_) (List.mem_cons_of_mem _ hb) (hn b hb)
   refine⟨g1,g2,g3,g4,g5,fun p hp=>?_⟩
   rcases List.mem_append.mp hp with z|z
   ·rw[ePn]at z;exact absurd (show p∈([]:List (Addr×Obj)) from z) (by simp)
   ·rw[List.nil_append]at z
    obtain⟨z1,_⟩:=of_pinsAt z
    rw[List.mem_singleton.mp z1]
    intro e
    exact ne (by rw[e];exact hb)
  have frf:∀b∈fp,H5 b=none:=fun b hb=>fr5 b (List.mem_cons_of_mem _ hb)
  refine wpAny_mono (Tn.item X' eP eW eK eC i _ s5 σ5 H5 (fun _ _=>False) ID (fpp frf) st5 go) (fun r s6 h6=>?_) fun _ _ z=>z
  obtain⟨u,rfl,h6⟩:=h6
  refine wpAny_mono h6 (fun _ s7 h7=>?_) fun _ _ z=>z
  obtain⟨x,H7,I7,rx,y7,st7,fr7⟩:=h7
  obtain⟨S7,r7⟩:=yl x H7 y7
  have I7p:=I7.pinned (fpp fr7) (Tn.obj _ _ st7)
  have R7:=R5.mono S7
  have g7:=hg' _ s7 σ5 H7 x u (fun σ8 H8=>∃τ8,Same H7 H8/\RepSt X'.K X'.H₀ H8 σ8 τ8/\ut τ8 fun k=>(k=true->we τ8 fun t=>compT g ut we (ts.drop (i + 1)) (acc++[t]) τ8 fun rs=>Q0 (.lst rs))/\(k=false->compT g ut we (ts.drop (i + 1)) acc τ8 fun rs=>Q0 (.lst rs))) I7p rx
   ⟨ts[i],τ5,_,R7,(by rw[eK];exact r7),q5,fun τ8 σ8 H8 S8 R8 q8=>⟨τ8,S8,R8,q8⟩⟩
  rw[eE,eP,eW]at g7
  refine wpAny_mono g7 (fun _ s8 h8=>?_) fun _ _ z=>z
  obtain⟨σ8,H8,I8,τ8,S8,R8,q8⟩:=h8
  have u8:=hu' _ s8 σ8 H8 (fun k H9=>Same H8 H9/\((k=true->we τ8 fun t=>compT g ut we (ts.drop (i + 1)) (acc++[t]) τ8 fun rs=>Q0 (.lst rs))/\(k=false->compT g ut we (ts.drop (i + 1)) acc τ8 fun rs=>Q0 (.lst rs)))) I8 ⟨τ8,_,R8,q8,fun k H9 S9 q9=>⟨S9,q9⟩⟩
  rw[eE,eP,eW]at u8
  refine wpAny_mono u8 (fun k s9 h9=>?_) fun _ _ z=>z
  obtain⟨H9,I9,S9,q9⟩:=h9
  have R9:=R8.mono S9
  have pinD:∀{s':Shared}{σ':St}{H':Hp},Inv X' (([]++pinsAt [Da] s5.heap)++pinsAt fp s7.heap) σ' H' s'->s'.heap.get? Da=some {cls:=.type "list", dict:=none,data:=.seq its.toArray k5}/\H' Da=none:=fun I'=>by
   have z:=I'.pin (Da,_) (List.mem_append_right _ (List.mem_append_left _ (by rw[List.nil_append];exact mem_pinsAt (List.mem_singleton.mpr rfl) hD5)))
   exact⟨z.1,z.2.1⟩
  have pinF:∀{s':Shared}{σ':St}{H':Hp},Inv X' (([]++pinsAt [Da] s5.heap)++pinsAt fp s7.heap) σ' H' s'->tn' (i + 1) s'.heap/\∀b∈fp,H' b=none:=fun {s' σ' H'} I'=>by
   refine⟨Tn.keep _ _ _ st7 fun b hb o e=>(I'.pin (b,o) (List.mem_append_right _ (List.mem_append_right _ (mem_pinsAt hb e)))).1,fun b hb=>?_⟩
   obtain⟨o,e,d⟩:=Tn.obj _ _ st7 b hb
   exact(I'.pin (b,o) (List.mem_append_right _ (List.mem_append_right _ (mem_pinsAt hb e)))).2.1
  have frD:∀{H':Hp},H' Da=none->(∀b∈fp,H' b=none)->∀b∈Da::fp,H' b=none:=fun h1 h2 b hb=>by
   rcases List.mem_cons.mp hb with rfl|hb
   ·exact h1
   ·exact h2 b hb
  have unp:∀{s':Shared}{σ':St}{H':Hp},Inv X' (([]++pinsAt [Da] s5.heap)++pinsAt fp s7.heap) σ' H' s'->Inv X' [] σ' H' s':=fun I'=>I'.pins_of fun p hp=>absurd hp (by simp)
  cases k with
  | false =>
   rw[if_neg Bool.false_ne_true]
   refine⟨ts.length - (i + 1),by omega,i + 1,σ8,H9,τ8,acc,vs,its,k5,rfl,hlt,unp I9,(pinF I9).1,frD (pinD I9).2 (pinF I9).2,R9,(pinD I9).1,rv5,ra5.kp (.of (S7.trans (S8.trans S9))),by omega,q9.2 rfl⟩
  | true =>
   rw[if_pos rfl]
   have e9:=he' _ s9 σ8 H9 (fun v H10=>∃t,Same H9 H10/\Rep X'.K H10 t v/\compT g ut we (ts.drop (i + 1)) (acc++[t]) τ8 fun rs=>Q0 (.lst rs)) I9 ⟨τ8,_,R9,q9.1 rfl,fun t v H10 S10 r10 q10=>⟨t,S10,r10,q10⟩⟩
   rw[eE,eP,eW]at e9
   refine wpAny_mono e9 (fun y s10 h10=>?_) fun _ _ z=>z
   obtain⟨v,H10,I10,rv,t,S10,r10,q10⟩:=h10
   have hlen5:its.length<=1000:=by
    have e1:=rv5.length
    have e2:=ra5.length
    omega
   refine wpAny_list_append_plain (hsz:=by rw[List.size_toArray];exact few hlen5) ⟨k5,(pinD I10).1⟩ fun h11 hl11 hs11=>?_
   obtain⟨k11,hl11⟩:=hl11
   have I11:Inv X' [] σ8 H10 {s10 with heap:=h11}:=by
    obtain⟨g1,g2,g3,g4,g5,g6⟩:=stat (H':=H10) List.mem_cons_self (pinD I10).2
    exact(unp I10).turned (t':=s10.toks) (it:=Da) (fun b o hb e=>(hs11.2 b hb).trans e) g1 g2 g4 g5 g6
   have st11:tn' (i + 1) h11:=Tn.keep _ _ _ (pinF I10).1 fun b hb o e=>(hs11.2 b (fun z=>ne (by rw[← z];exact hb))).trans e
   refine⟨ts.length - (i + 1),by omega,i + 1,σ8,H10,τ8,acc++[t],vs++[v],its++[y],k11,rfl,hlt,I11,st11,frD (pinD I10).2 (pinF I10).2,R9.mono S10,?_,rv5.append (.cons rv .nil),(ra5.kp (.of (S7.trans (S8.trans (S9.trans S10))))).append (.one (by rw[← eK];exact r10)),by simp;omega,q10⟩
   have ea:(its++[y]).toArray=its.toArray.push y:=by simp
   rw[ea]
   exact hl11
 ·have e:i=ts.length:=by omega
  subst e
  rw[List.drop_length]at q5
  have q5':Q0 (.lst acc):=q5
  refine wpAny_mono (Tn.done X' eP eW eK eC ts.length ([]++pinsAt [Da] s5.heap) s5 σ5 H5 (fun _ _=>False) ?_ ?_ st5 ws5) (fun r s6 h6=>?_) fun _ _ z=>z
  ·exact I5.pinned (fp:=[Da]) (fun b hb=>stat (by rw[List.mem_singleton.mp hb];exact List.mem_cons_self) (fr5 b (by rw[List.mem_singleton.mp hb];exact List.mem_cons_self))) fun b hb=>by
    rw[List.mem_singleton.mp hb]
    exact⟨_,hD5,fun v z=>(by cases z)⟩
  ·intro b hb
   obtain⟨g1,g2,g3,g4,g5,g6⟩:=stat (H':=H5) (List.mem_cons_of_mem _ hb) (fr5 b (List.mem_cons_of_mem _ hb))
   refine⟨g1,g2,g3,g4,g5,fun p hp=>?_⟩
   rcases List.mem_append.mp hp with z|z
   ·rw[ePn]at z;exact absurd (show p∈([]:List (Addr×Obj)) from z) (by simp)
   ·rw[List.nil_append]at z
    obtain⟨z1,_⟩:=of_pinsAt z
    rw[List.mem_singleton.mp z1]
    intro e
    exact ne (by rw[e];exact hb)
  obtain⟨rfl,I6⟩:=h6
  have z6:=I6.pin (Da,_) (List.mem_append_right _ (by rw[List.nil_append];exact mem_pinsAt (List.mem_singleton.mpr rfl) hD5))
  obtain⟨m6,hn6,_⟩:=I6.loc
  have hz:vs.length<=sizeLine:=by rw[ra5.length];exact few (by omega)
  have fin:=comp_end eP eW eFs eEx eH eS eOs hCn pushK hDa I2 f2 I6 (fr5 _ List.mem_cons_self) z6.1 rv5 hz
  have S5:Same H2 H5:=by have:=R5.same;rwa [eH]at this
  have S6:Same H2 (upd H5 Da (.frz {cls:=.type "list", dict:=none,data:=.seq its.toArray k5} (.lst vs))):=S5.trans (same_new (fr5 _ List.mem_cons_self) _)
  have hfpC:=hfp _ (show (upd H5 Da (.frz {cls:=.type "list", dict:=none,data:=.seq its.toArray k5} (.lst vs))) X'.env.locals=none by rw[upd_ne (by rw[hCn];exact Nat.succ_ne_self _)];exact I6.free)
  show compPost (model X.prog X.w) X'.A X.xe use QQ (.ref Da) X'.env.locals (.ok .next) s6
  rw[eA]
  exact hend s6 _ _ _ m6 (.lst acc) _ fin hfpC hn6 (S2.trans S6) (rep_lst.mpr ⟨_,vs,rfl,.inl ⟨_,upd_same⟩,ra5.kp (.of (same_new (fr5 _ List.mem_cons_self) _))⟩) q5' ⟨H5,_,vs,acc,rfl,fr5 _ List.mem_cons_self,S2.trans S5,rfl,ra5⟩
theorem comp_core{elt target iter:Expr}{ifs:List Expr}{scope sc0:Scope}{tn N0:List Str}{fr:List (Str×Nat)}{wi:WI}{g:TGt}{ut:WT}{we:WE}(hsc:X.env.scope=sc0)(hN0:X.N=N0)(hc:X.calm=true)
  (hi:JIc X target iter wi) (hk:scope.kind=.function) (hk0:sc0.kind=.function)
  (hnames:(scope.names.all fun x=>x.2 != .local||scope.names.lookup x.1==some .local)=true) (hcell:(scope.names.all fun x=>x.2 != .cell)=true)
  (hfree:(scope.names.all fun x=>x.2 != .free||sc0.names.lookup x.1==some .cell)=true)
  (hfr:(fr.all fun p=>(sc0.names.lookup p.1==some .cell&&scope.names.lookup p.1==some .free)&&N0[p.2]?==some p.1)=true)
  (hg:∀cl C s3 H2 ex,JG (compCx X (tn++fr.map (·.1)) scope cl C s3 H2 ex) target g) (hu:∀cl C s3 H2 ex,JTs (compCx X (tn++fr.map (·.1)) scope cl C s3 H2 ex) ifs ut)
  (he:∀cl C s3 H2 ex,JE (compCx X (tn++fr.map (·.1)) scope cl C s3 H2 ex) elt we)
  (hs:∀x,foldedSetIterable iter X.env x=pure x) {pos':Pos} {pins:List (Addr×Obj)} {s:Shared} {σ:St} {H:Hp} {QQ:Value->Shared->Prop} {use:Option (Value->Sem Unit)} (I:Inv X pins σ H s)
  {τ:List Slot} {Q0:T->Prop} (R0:RepSt X.K X.H₀ H σ τ) (hw:wComp wi g ut we tn.length (fr.map (·.2)) τ Q0)
  (hend:∀(s6:Shared)(H6:Hp)(D C:Addr)(m6:Str->Option Value)(t:T)(f:Flow),Inv X pins σ H6 s6->FpOk X pins H6 C->s6.heap.Ns C m6->Same H H6->Rep X.K H6 t (.ref D)->Q0 t->(∃(H5:Hp) (o:Obj) (vs:List V) (ts:List T),H6=upd H5 D (.frz o (.lst vs))/\H5 D=none/\Same H H5/\t=.lst ts/\Reps X.K H5 ts vs)->compPost (model X.prog X.w) X.A X.xe use QQ (.ref D) C (.ok f) s6) :
  wpAny (model X.prog X.w) X.A (comprehension (.ListComp elt [⟨target,iter,ifs,0⟩] scope pos) scope X.env pos' (newList []) false (eval iter X.env) use) QQ X.xe s:=by
 have hkindOf:∀x,X.env.kindOf x=sc0.names.lookup x:=fun x=>by show X.env.scope.names.lookup x=_;rw[hsc]
 have hfree':∀x∈scope.names,x.2=.free->X.env.kindOf x.1=some .cell:=fun x hx hf=>by
  have:=List.all_eq_true.mp hfree x hx
  rw[hkindOf]
  simpa [hf] using this
 have hcell':∀x∈scope.names,x.2 ≠ .cell:=fun x hx=>by
  have:=List.all_eq_true.mp hcell x hx
  simpa using this
 have hfN:∀p∈fr,X.N[p.2]?=some p.1:=fun p hp=>by
  have:=List.all_eq_true.mp hfr p hp
  rw[hN0]
  simp only[Bool.and_eq_true,beq_iff_eq]at this
  exact this.2
 have hfr':∀p∈fr,X.env.kindOf p.1=some .cell/\scope.names.lookup p.1=some .free:=fun p hp=>by
  have:=List.all_eq_true.mp hfr p hp
  rw[hkindOf]
  simp only[Bool.and_eq_true,beq_iff_eq]at this
  exact this.1
 obtain⟨cl,hclos,p1,p3⟩:=closureFor_of (scope:=scope) (env:=X.env) fun x hx hf=>I.ok.has x.1 (.inl (hfree' x hx hf))
 refine wpAny_comprehension_free (use:=use) rfl hs hclos hk (fun x hx hl=>?_) ?_
 ·have:=List.all_eq_true.mp hnames x hx
  simpa [hl] using this
 refine thn (hi pins s σ H (fun J H1=>∃ts,Same H H1/\WkS X.K J ts H1/\ts.length<=1000/\compT g ut we ts [] (List.replicate tn.length Slot.no++(fr.map (·.2)).map fun i=>hide (sget τ i)) fun rs=>Q0 (.lst rs)) I
  ⟨τ,_,R0,hw,fun ts J H' S wk q=>⟨ts,S,wk,q.1,q.2⟩⟩) fun v s1 h1=>thn h1 fun itv s2 h2=>?_
 obtain⟨it,fp,tn',J,H2,rfl,I2,Tn,st2,f2,ts,S2,wk,hlen,q⟩:=h2
 refine wpAny_newObj_type (wpAny_newFunctionEnv hcell' (by intro y hy;simp at hy) (fun h4 hns hsb=>?_) hk)
 dsimp only at hns hsb ⊢
 have hDn:H2 s2.heap.objs.size=none:=I2.hok.fresh (Nat.le_refl _)
 have I3:Inv X pins σ H2 {s2 with heap:=s2.heap.push {cls:=.type "list", dict:=none,data:=.seq ([]:List Value).toArray} }:=I2.kept (t':=s2.toks) fun b u e=>Heap.get?_push_of_some _ e
 have hsz:(s2.heap.push {cls:=.type "list", dict:=none,data:=.seq ([]:List Value).toArray}).objs.size=s2.heap.objs.size + 1:=Heap.size_push ..
 have hkeep:∀b o,(s2.heap.push {cls:=.type "list", dict:=none,data:=.seq ([]:List Value).toArray}).get? b=some o->h4.get? b=some o:=fun b o e=>hsb.extBut b o (Nat.ne_of_lt (Heap.lt_size e)) (Heap.get?_push_of_some _ e)
 have hDat:h4.get? s2.heap.objs.size=some {cls:=.type "list", dict:=none,data:=.seq ([]:List Value).toArray}:=hkeep _ _ (Heap.get?_push_size _ rfl)
 have fpD:∀b∈s2.heap.objs.size::fp,FpOk X pins H2 b:=fun b hb=>by
  rcases List.mem_cons.mp hb with rfl|hb
  ·exact I2.fpOk (Nat.le_refl _) hDn
  ·exact f2 b hb
 have ltD:∀b∈fp,b < s2.heap.objs.size:=fun b hb=>by
  obtain⟨o,e,_⟩:=Tn.obj _ _ st2 b hb
  exact Heap.lt_size e
 have ltD':∀b∈s2.heap.objs.size::fp,b < (s2.heap.push {cls:=.type "list", dict:=none,data:=.seq ([]:List Value).toArray}).objs.size:=fun b hb=>by
  rw[hsz]
  rcases List.mem_cons.mp hb with rfl|hb
  ·exact Nat.lt_succ_self _
  ·exact Nat.lt_succ_of_lt (ltD b hb)
 have hhas:∀x,((relabel scope X.env).names.lookup x=some .cell∨(relabel scope X.env).names.lookup x=some .free)->∃c,cl.lookup x=some c:=fun x hx=>by
  have z:∃k',(relabel scope X.env).names.lookup x=some k'/\(k'=.cell∨k'=.free):=by
   rcases hx with hx|hx
   ·exact⟨_,hx,.inl rfl⟩
   ·exact⟨_,hx,.inr rfl⟩
  obtain⟨k',e,hk'⟩:=z
  obtain⟨k,hm,hkk⟩:=relabel_mem e
  have hf:k=.free:=by
   rcases hkk with rfl|⟨h,_⟩
   ·rcases hk' with rfl|rfl
    ·exact absurd rfl (hcell' _ hm)
    ·rfl
   ·exact h
  subst hf
  exact p3 (x,.free) hm rfl
 obtain⟨m3,hn3,hl3⟩:=I3.loc
 have J4:Inv (compCx X (tn++fr.map (·.1)) scope cl (s2.heap.push {cls:=.type "list", dict:=none,data:=.seq ([]:List Value).toArray}).objs.size {s2 with heap:=s2.heap.push {cls:=.type "list", dict:=none,data:=.seq ([]:List Value).toArray} } H2 (s2.heap.objs.size::fp)) []
   (slotsOf σ tn.length fr) H2 {s2 with heap:=h4,toks:=s2.toks + ([]:List (Str×Value)).length}:=by
  refine comp_start I3 hc hk (Nat.le_refl _) p1 hhas fpD ltD' rfl I2.bare hkeep hns (fun i x v h1 h2=>?_) (by simp[slotsOf])
  unfold slotsOf at h2
  by_cases hi:i < tn.length
  ·rw[List.getElem?_append_left (by simpa using hi),List.getElem?_replicate]at h2
   split at h2<;>cases h2
  ·rw [List.getElem?_append_right (by simpa using hi),List.length_replicate,List.getElem?_map]at h2
   rw[List.getElem?_append_right (by omega),List.getElem?_map]at h1
   cases ep:fr[i - tn.length]? with
   | none=>rw[ep]at h1;cases h1
   | some p =>
    rw[ep]at h1 h2
    have h1':p.1=x:=by simpa using h1
    have h2':(σ[p.2]?).getD none=some v:=by simpa using h2
    have h2'':σ[p.2]?=some (some v):=by
     cases e:σ[p.2]? with
     | none=>rw[e]at h2';cases h2'
     | some z=>rw[e]at h2';exact congrArg some h2'
    have hp:p∈fr:=List.mem_of_getElem? ep
    obtain⟨k1,k2⟩:=hfr' p hp
    subst h1'
    obtain⟨u,ru,lk⟩:=hl3 p.2 p.1 v (hfN p hp) h2'' (.inr (.inl k1))
    refine⟨u,ru,.inr ⟨.inl ?_,?_⟩⟩
    ·exact relabel_free (by rw[hsc];exact hk0) k2 k1
    ·rcases lk with ⟨z,_⟩|⟨_,c,e,o,ho,hd⟩
     ·rw[k1]at z;cases z
     ·obtain⟨c',e'⟩:=p3 (p.1,.free) (PySem.mem_of_lookup k2) rfl
      have:=p1 _ _ e'
      rw[e]at this
      cases this
      exact⟨c,e',o,hkeep c o ho,hd⟩
 have R4:RepSt X.K H2 H2 (slotsOf σ tn.length fr) (List.replicate tn.length Slot.no++(fr.map (·.2)).map fun i=>hide (sget τ i)):=repSt_comp tn.length fr R0 S2
 have ne:(s2.heap.objs.size:Addr)∉fp:=fun z=>absurd (ltD _ z) (Nat.lt_irrefl _)
 have st4:tn' 0 h4:=Tn.keep _ _ _ st2 fun b hb o e=>hkeep b o (Heap.get?_push_of_some _ e)
 have lp:=comp_loop (scope:=scope) (H2:=H2) (s2:=s2) (X:=X) (X':=compCx X (tn++fr.map (·.1)) scope cl (s2.heap.push {cls:=.type "list", dict:=none,data:=.seq ([]:List Value).toArray}).objs.size {s2 with heap:=s2.heap.push {cls:=.type "list", dict:=none,data:=.seq ([]:List Value).toArray} } H2 (s2.heap.objs.size::fp)) (h3:=s2.heap.push {cls:=.type "list", dict:=none,data:=.seq ([]:List Value).toArray}) (pins:=pins) (s4:={s2 with heap:=h4,toks:=s2.toks + ([]:List (Str×Value)).length}) (use:=use) (QQ:=QQ) (iter:=iter) (pos:=pos) (hg _ _ _ _ _) (hu _ _ _ _ _) (he _ _ _ _ _) rfl rfl rfl rfl rfl rfl rfl rfl rfl rfl rfl rfl hsz (fun b o e=>Heap.get?_push_of_some _ e) rfl I2 f2 Tn ne S2 wk hlen J4 R4 st4 (fun b hb=>(fpD b hb).1) hDat q (fun H6 h=>I3.fpOk (Nat.le_refl _) h) hend
 exact codeAny_compStart_list lp (Tn.self _ 0 _ _ _ st4 lp)
theorem jcomp{elt target iter:Expr}{ifs:List Expr}{scope sc0:Scope}{tn N0:List Str}{fr:List (Str×Nat)}{wi:WI}{g:TGt}{ut:WT}{we:WE}(hsc:X.env.scope=sc0)(hN0:X.N=N0)(hc:X.calm=true)
  (hi:JI X target iter wi) (hk:scope.kind=.function) (hk0:sc0.kind=.function)
  (hnames:(scope.names.all fun x=>x.2 != .local||scope.names.lookup x.1==some .local)=true) (hcell:(scope.names.all fun x=>x.2 != .cell)=true)
  (hfree:(scope.names.all fun x=>x.2 != .free||sc0.names.lookup x.1==some .cell)=true)
  (hfr:(fr.all fun p=>(sc0.names.lookup p.1==some .cell&&scope.names.lookup p.1==some .free)&&N0[p.2]?==some p.1)=true)
  (hg:∀cl C s3 H2 ex,JG (compCx X (tn++fr.map (·.1)) scope cl C s3 H2 ex) target g) (hu:∀cl C s3 H2 ex,JTs (compCx X (tn++fr.map (·.1)) scope cl C s3 H2 ex) ifs ut)
  (he:∀cl C s3 H2 ex,JE (compCx X (tn++fr.map (·.1)) scope cl C s3 H2 ex) elt we)
  (hs:∀x,foldedSetIterable iter X.env x=pure x:=by intro _;rfl):JE X (.ListComp elt [⟨target,iter,ifs,0⟩] scope pos) (wComp wi g ut we tn.length (fr.map (·.2))):=by
 intro pins s σ H Q I hw
 obtain⟨τ,Q0,R0,hw,kk⟩:=hw
 rw[eval_ListComp]
 refine comp_core hsc hN0 hc hi.c hk hk0 hnames hcell hfree hfr hg hu he hs (pos':=_) (use:=none) I R0 hw fun s6 H6 D C m6 t f I6 fp hn S r q _=>?_
 refine⟨m6,hn,fun h7 hs7=>?_⟩
 obtain⟨g1,g2,g3,g4,g5,g6⟩:=fp
 exact⟨.ref D,H6,I6.turned (t':=s6.toks) (it:=C) (fun b o hb e=>(hs7.2 b hb).trans e) g1 g2 g4 g5 g6,rfl,kk _ _ _ S r q⟩
theorem jsetc{elt target iter:Expr}{ifs:List Expr}{scope sc0:Scope}{tn N0:List Str}{fr:List (Str×Nat)}{wi:WI}{g:TGt}{ut:WT}{we:WE}{i:Nat}{x:Str}{pos' spos:Pos}(hN:X.N.Nodup)(hiN:X.N[i]?=some x)(hx:Loc X.env.scope x)
  (hsc:X.env.scope=sc0) (hN0:X.N=N0) (hc:X.calm=true)
  (hi:JI X target iter wi) (hk:scope.kind=.function) (hk0:sc0.kind=.function)
  (hnames:(scope.names.all fun x=>x.2 != .local||scope.names.lookup x.1==some .local)=true) (hcell:(scope.names.all fun x=>x.2 != .cell)=true)
  (hfree:(scope.names.all fun x=>x.2 != .free||sc0.names.lookup x.1==some .cell)=true)
  (hfr:(fr.all fun p=>(sc0.names.lookup p.1==some .cell&&scope.names.lookup p.1==some .free)&&N0[p.2]?==some p.1)=true)
  (hg:∀cl C s3 H2 ex,JG (compCx X (tn++fr.map (·.1)) scope cl C s3 H2 ex) target g) (hu:∀cl C s3 H2 ex,JTs (compCx X (tn++fr.map (·.1)) scope cl C s3 H2 ex) ifs ut)
  (he:∀cl C s3 H2 ex,JE (compCx X (tn++fr.map (·.1)) scope cl C s3 H2 ex) elt we)
  (hs:∀x,foldedSetIterable iter X.env x=pure x:=by intro _;rfl)
  (hsw:swapsWith (.ListComp elt [⟨target,iter,ifs,0⟩] scope pos) (some (.Name x pos')) spos.line X.env=pure true:=by rfl)
  (hf:X.fn x=true∨X.env.scope.names.lookup x=some .local:=by first|exact .inl rfl|exact .inr rfl|assumption) :
  JS X (.Assign [.Name x pos'] (.ListComp elt [⟨target,iter,ifs,0⟩] scope pos) spos) (sSet i (wComp wi g ut we tn.length (fr.map (·.2)))):=by
 intro pins s σ H D I ⟨τ,D0,R0,hw,k,_⟩
 rw[exec_Assign_Name_used _ _ _ _ hsw]
 refine wpAny_bind (wpAny_standAt (wpAny_bind ?_))
 rw[arm_evalThenUse_ListComp]
 dsimp only
 refine wpAny_bind (wpAny_mono (comp_core (QQ:=fun _ s'=>SP X pins D .next s') hsc hN0 hc hi.c hk hk0 hnames hcell hfree hfr hg hu he hs (use:=some (assign (.Name x pos') X.env)) I R0 hw fun s6 H6 Da C m6 t f I6 fp hn S r q _=>?_) (fun _ s' h=>wpAny_pure (wpAny_pure h)) fun _ _ z=>z)
 obtain⟨oC,es,ep,hoC,hdC,hrC⟩:=id hn
 have Ip:=I6.pinned (fp:=[C]) (fun b hb=>by rw[List.mem_singleton.mp hb];exact fp) fun b hb=>by
  rw[List.mem_singleton.mp hb]
  exact⟨oC,hoC,fun v z=>by rw[hdC]at z;cases z⟩
 have gn:=pg_name (pos:=pos') hN hiN hx hf _ s6 σ H6 (.ref Da) (.ref Da) (fun σ' H'=>σ'=σ.set i (some (.ref Da))/\H'=H6) Ip rfl ⟨rfl,rfl⟩
 refine wpAny_mono gn (fun _ s7 h7=>?_) fun _ _ z=>z
 obtain⟨σ7,H7,I7,rfl,rfl⟩:=h7
 have pC:=(I7.pin (C,oC) (List.mem_append_right _ (List.mem_append_right _ (mem_pinsAt (List.mem_singleton.mpr rfl) hoC)))).1
 refine⟨m6,⟨oC,es,ep,pC,hdC,hrC⟩,fun h8 hs8=>?_⟩
 obtain⟨g1,g2,g3,g4,g5,g6⟩:=fp
 have I8:Inv X pins (σ.set i (some (.ref Da))) H7 s7:=I7.pins_of fun p hp=>I7.pin p (List.mem_append_right _ (List.mem_append_left _ hp))
 exact⟨_,H7,I8.turned (t':=s7.toks) (it:=C) (fun b o hb e=>(hs8.2 b hb).trans e) g1 g2 g4 g5 g6,k _ _ H7 (.of S) ((R0.mono S).put r) q⟩
end
end TL
end
section
namespace TL
open PySem PySem.Spec PyProof.Rows L2
section
variable {X:Cx}
def intsOf:List T->Option (List Int)
 | []=>some []
 | .int i::r=>(intsOf r).map (i :: ·)
 | _=>none
theorem intsOf_eq:∀{ts:List T}{ns:List Int},intsOf ts=some ns->ts=ns.map T.int
 | [],ns,h=>by simp only[intsOf,Option.some.injEq]at h;subst h;rfl
 | t::r,ns,h=>by
  cases t with
  | int i =>
   simp only[intsOf,Option.map_eq_some_iff]at h
   obtain⟨ms,e,rfl⟩:=h
   rw[intsOf_eq e]
   rfl
  | _=>simp[intsOf]at h
theorem reps_ints_inv{K:PySem.W.Frag}{H:Hp}:∀{ns:List Int}{vs:List V},Reps K H (ns.map T.int) vs->vs=ns.map V.int
 | [],vs,h=>by simpa using reps_nil.mp h
 | n::ns,vs,h=>by
  simp only[List.map_cons]at h
  rw[reps_cons]at h
  obtain⟨v,r,rfl,h1,h2⟩:=h
  rw[rep_int.mp h1,reps_ints_inv h2]
  rfl
def rSumT(ts:List T)(Q:T->Prop):Prop:=match ts with
 | [.lst xs]=>(match intsOf xs with|some ns=>Q (.int ns.sum)|none=>False)
 | _=>False
theorem boolsAre_of:∀{bs:List Bool}{us:List Value},Vals (bs.map V.bl) us->LSm.BoolsAre us bs
 | [],us,h=>by cases h;exact .nil
 | b::bs,us,h=>by
  simp only[List.map_cons]at h
  cases h with
  | cons r1 r2=>cases r1;exact .cons b (boolsAre_of r2)
theorem call_allL(hc:X.calm=true):CallR X (.builtin "all") (fun xs H Q=>∃(p:Addr) (bs:List Bool),xs=[.ref p]/\SqL X.K H p (bs.map V.bl)/\Q (.bl (bs.all id)) H):=by
 intro pins s σ H xs us Q I r h
 obtain⟨p,bs,rfl,hq,q⟩:=h
 obtain⟨u,rfl,rx⟩:=vals1 r
 cases rx
 obtain⟨its,r',pl,hz⟩:=I.list hq
 have hb:LSm.BoolsAre its bs:=boolsAre_of r'
 have hl:=pl.isList
 have hlt:p < s.heap.objs.size:=by obtain⟨_,e,_⟩:=hl;exact Heap.lt_size e
 refine call_all_walk (wpAny_pyIter_list hl ?_)
 refine⟨s.heap.objs.size,[s.heap.objs.size,p],[s.heap.objs.size],its.toArray.size,_,_,fun i=>(bs[i]?).getD true,rfl,Walks.list (A:=X.A.in1) (I.ok.hd hc) _ p (Nat.ne_of_lt hlt) its.toArray,
  ⟨⟨_,Heap.get?_push_size _ rfl,rfl,rfl⟩,hl.push _⟩,fun i v s' Q' E' hP hQ=>?_,fun h' tk hk=>?_⟩
 ·obtain⟨b,e,rfl⟩:=hb.get i v (by simpa using hP)
  simp only[e,Option.getD_some]at hQ
  exact wpAny_truthy_bool hQ
 ·have e:((List.range its.toArray.size).all fun i=>(bs[i]?).getD true)=bs.all id:=by
   rw[List.size_toArray,hb.length];exact LSm.range_all bs
  rw[e]
  exact⟨.bl (bs.all id),H,I.kept (t':=tk) (LSm.kept_iter hk),rfl,q⟩
def boolsOf:List T->Option (List Bool)
 | []=>some []
 | .bl i::r=>(boolsOf r).map (i :: ·)
 | _=>none
theorem boolsOf_eq:∀{ts:List T}{ns:List Bool},boolsOf ts=some ns->ts=ns.map T.bl
 | [],ns,h=>by simp only[boolsOf,Option.some.injEq]at h;subst h;rfl
 | t::r,ns,h=>by
  cases t with
  | bl i =>
   simp only[boolsOf,Option.map_eq_some_iff]at h
   obtain⟨ms,e,rfl⟩:=h
   rw[boolsOf_eq e]
   rfl
  | _=>simp[boolsOf]at h
theorem reps_bools_inv{K:PySem.W.Frag}{H:Hp}:∀{ns:List Bool}{vs:List V},Reps K H (ns.map T.bl) vs->vs=ns.map V.bl
 | [],vs,h=>by simpa using reps_nil.mp h
 | n::ns,vs,h=>by
  simp only[List.map_cons]at h
  rw[reps_cons]at h
  obtain⟨v,r,rfl,h1,h2⟩:=h
  rw[rep_bl.mp h1,reps_bools_inv h2]
  rfl
def rAllT(ts:List T)(Q:T->Prop):Prop:=match ts with
 | [.lst xs]=>(match boolsOf xs with|some bs=>Q (.bl (bs.all id))|none=>False)
 | _=>False
theorem bl_all(hc:X.calm=true):BlR X (.builtin "all") rAllT:=by
 refine⟨_,call_allL hc,fun ts vs H Q0 Q r q k=>?_⟩
 unfold rAllT at q
 split at q
 ·obtain⟨v,rfl,r1⟩:=reps1 r
  split at q
  ·rename_i ns e
   rw[boolsOf_eq e,rep_lst]at r1
   obtain⟨p,ys,rfl,sq,rr⟩:=r1
   rw[reps_bools_inv rr]at sq
   exact⟨p,ns,rfl,sq.sq,k _ _ H (.refl H) (rep_bl.mpr rfl) q⟩
  ·exact q.elim
 ·exact q.elim
theorem upd_upd{H:Hp}{p:Addr}{a b:HO}:upd (upd H p a) p b=upd H p b:=by
 funext c
 by_cases h:c=p
 ·subst h;rw[upd_same,upd_same]
 ·rw[upd_ne h,upd_ne h,upd_ne h]
theorem call_listF:CallR X (.type "list") (fun xs H Q=>∃p ys,xs=[.ref p]/\(SqL X.K H p ys∨SqT X.K H p ys)/\∀l o,H l=none->Q (.ref l) (upd H l (.frz o (.lst ys)))):=by
 intro pins s σ H xs us Q I r h
 obtain⟨p,ys,e,hq,q⟩:=h
 refine thn (call_list_of pins s σ H xs us (fun v H'=>∃l,v=.ref l/\H l=none/\H'=upd H l (.lst ys)) I r ⟨p,ys,e,hq,fun l hl=>⟨l,rfl,hl,rfl⟩⟩) fun u s1 ⟨v,H1,I1,rv,l,e1,hl,e2⟩=>?_
 subst e1 e2
 obtain⟨o,I2⟩:=Inv.freeze I1 (upd_same (o:=.lst ys))
 rw[upd_upd]at I2
 exact⟨_,_,I2,rv,q l o hl⟩
def rListT(ts:List T)(Q:T->Prop):Prop:=match ts with
 | [.tup xs]=>Q (.lst xs)
 | [.lst xs]=>Q (.lst xs)
 | _=>False
end
end TL
end
section
namespace TL
open PySem PySem.Spec PyProof.Rows L2
section
variable {X:Cx} {a b c e:Expr} {es:List Expr} {wa wb wc w:WE} {ws:WA} {pos:Pos}
def Itr3(lo c:Int)(n:Nat):It:=⟨fun i _=>i < n,fun i H x H'=>H'=H/\x=.int (lo + i * c),fun i _=>n<=i⟩
theorem turn_range3{P:Program}{w:World}{K:PySem.W.Frag}{tg:Expr}(it:Addr)(lo c:Int)(n:Nat):Turn P w K tg (Itr3 lo c n) [it] it (fun i h=>IsRangeIter h it (lo + (i:Nat) * c) ((n:Int) - (i:Nat)) c) where
 mem:=by simp
 obj:=fun i h st b hb=>by
  have e:b=it:=by simpa using hb
  subst e
  exact⟨_,st,fun v z=>by
   have z':Data.fields _=Data.cell v:=z
   cases z'⟩
 keep:=fun i h h' st k=>k it (by simp) _ st
 item:=by
  intro X hP hw hK hc i pins s σ H E I hf st hg
  subst hP hw hK
  obtain⟨f0,f1,f2,f3,f4,f5⟩:=hf it (by simp)
  have W:=Walks.range (prog:=X.prog) (w:=X.w) (I.ok.hd hc) it lo c n
  refine W.item i s _ _ hg st fun v h' tk hv st' kk=>?_
  obtain⟨t,rfl⟩:=hv
  have I1:Inv X pins σ H {s with heap:=h',toks:=tk}:=I.turned (fun b o hb e=>kk b o (by simpa using hb) e) f0 f1 f3 f4 f5
  exact⟨_,rfl,go_of (s:={s with heap:=h',toks:=tk}) (n := "range_iterator") st' rfl rfl (by decide) ⟨.int (lo + i * c),H,I1,⟨t,rfl⟩,⟨rfl,rfl⟩,st',fun b hb=>(hf b hb).1⟩⟩
 done:=by
  intro X hP hw hK hc i pins s σ H E I hf st hg
  subst hP hw hK
  obtain⟨f0,f1,f2,f3,f4,f5⟩:=hf it (by simp)
  exact wpAny_pyNext_range_end (I.ok.hd hc) st (by have:n<=i:=hg;omega) fun h' eb=>⟨rfl,I.turned (t':=s.toks) (fun b o hb e=>eb b o hb e) f0 f1 f3 f4 f5⟩
 self:=fun _ _ _ _ _ st h=>wpAny_pyIter_rangeiter st h
theorem small_up{a b c:Int}(ha:-(2 ^ 30)<=a)(ha':a < 2 ^ 30)(hb:-(2 ^ 30)<=b)(hb':b < 2 ^ 30)(hc:0 < c)(hc':c < 2 ^ 30):Builtin.Range.small a b c=true:=by
 unfold Builtin.Range.small
 simp only[Builtin.Range.rangeFitsLong,Builtin.Range.rangeSize,Bool.and_eq_true,Bool.or_eq_true,decide_eq_true_eq,beq_iff_eq,show c > 0 from hc,if_true]
 by_cases h:a < b
 ·rw[if_pos h]
  have h1:0<=(b - a - 1) / c:=Int.ediv_nonneg (by omega) (by omega)
  have h2:(b - a - 1) / c<=b - a - 1:=Int.ediv_le_self _ (by omega)
  have h3:(b - a - 1) / c * c<=b - a - 1:=Int.ediv_mul_le _ (by omega)
  have h4:((b - a - 1) / c + 1) * c=(b - a - 1) / c * c + c:=by rw[Int.add_mul,Int.one_mul]
  have h5:0<=(b - a - 1) / c * c:=Int.mul_nonneg h1 (by omega)
  have h6:c * ((b - a - 1) / c)=(b - a - 1) / c * c:=Int.mul_comm _ _
  have h7:(b - a - 1) / c + 1 - 1=(b - a - 1) / c:=by omega
  have h8:c * ((b - a - 1) / c + 1)=(b - a - 1) / c * c + c:=by rw[Int.mul_add,h6,Int.mul_one]
  omega
 ·rw[if_neg h]
  omega
def cnt3(lo hi c:Int):Nat:=(Builtin.Range.rangeSize lo hi c).toNat
theorem range_it3{tg:Expr}{pins:List (Addr×Obj)}{σ:St}{H:Hp}{s:Shared}{R:It->Hp->Prop}{E:Value->Shared->Prop}{lo hi c:Int}{t u v:Tok}{tk:Nat}(I:Inv X pins σ H s)(h1:-(2 ^ 30)<=lo)(h2:lo < 2 ^ 30)(h3:-(2 ^ 30)<=hi)(h4:hi < 2 ^ 30)(h5:0 < c)(h6:c < 2 ^ 30)
  (q:R (Itr3 lo c (cnt3 lo hi c)) H):wpAny (model X.prog X.w) X.A (pyIter (.ref s.heap.objs.size)) (PIE X pins σ tg R) E {s with heap:=s.heap.push {cls:=.type "range", data:=.fields #[.int lo t,.int hi u,.int c v]},toks:=tk}:=by
 refine wpAny_pyIter_range (IsRange.new ..) (small_up h1 h2 h3 h4 h5 h6) ?_
 have I1:Inv X pins σ H {s with heap:=s.heap.push {cls:=.type "range", data:=.fields #[.int lo t,.int hi u,.int c v]},toks:=tk}:=I.kept fun b o e=>Heap.get?_push_of_some _ e
 refine⟨(s.heap.push {cls:=.type "range", data:=.fields #[.int lo t,.int hi u,.int c v]}).objs.size,[(s.heap.push {cls:=.type "range", data:=.fields #[.int lo t,.int hi u,.int c v]}).objs.size],_,_,H,rfl,
  I1.kept (t':=tk) fun b o e=>Heap.get?_push_of_some _ e,turn_range3 _ lo c (cnt3 lo hi c),?_,fun b hb=>?_,q⟩
 ·have e1:lo + ((0:Nat):Int) * c=lo:=by simp
  have e2:((cnt3 lo hi c:Nat):Int) - ((0:Nat):Int)=Builtin.Range.rangeSize lo hi c:=by
   have:0<=Builtin.Range.rangeSize lo hi c:=by
    unfold Builtin.Range.rangeSize
    rw[if_pos h5]
    split
    ·have:=Int.ediv_nonneg (a:=hi - lo - 1) (b:=c) (by omega) (by omega)
     omega
    ·omega
   unfold cnt3
   omega
  show IsRangeIter _ _ (lo + ((0:Nat):Int) * c) (((cnt3 lo hi c:Nat):Int) - ((0:Nat):Int)) c
  rw[e1,e2]
  exact Heap.get?_push_size _ rfl
 ·have e:b=(s.heap.push {cls:=.type "range", data:=.fields #[.int lo t,.int hi u,.int c v]}).objs.size:=by simpa using hb
  subst e
  exact I1.fpOk (Nat.le_refl _) (I1.hok.fresh (Nat.le_refl _))
def iRng3(ta:TA):TI:=fun σ H R=>ta σ H fun vs H1=>∃i j k:Int,vs=[.int i,.int j,.int k]/\(-(2 ^ 30)<=i/\i < 2 ^ 30 /\ -(2 ^ 30)<=j/\j < 2 ^ 30/\0 < k/\k < 2 ^ 30)/\R (Itr3 i k (cnt3 i j k)) H1
theorem pi_range3{tg:Expr}{ta:TA}{p pos:Pos} (hg:Gl X "range") (hm:X.mg "range" = none) (ha:PA X [a,b,c] ta) (hs:starEach [a,b,c] X.env=(false,eval a X.env)::starEach [b,c] X.env:=by exact star1 rfl) (hpl:(backTo pos (starEach [b,c] X.env)).any (·.1)=false:=by exact stars rfl) :
  PI X tg (.Call (.Name "range" p) [a,b,c] [] pos) (iRng3 ta):=by
 intro pins s σ H R I h
 refine Call_ (ld_blt I hg hm boot_range (PyProof.Rows.callWith_type1 (thn (ha pos pins s σ H _ I h) fun us s1 ⟨vs,H1,I1,r1,q1⟩=>?_) hs hpl))
 obtain⟨i,j,k,e,⟨q1,q2,q3,q4,q5,q6⟩,q⟩:=q1
 subst e
 cases r1 with
 | cons r rr =>
  cases rr with
  | cons r' rr =>
   cases rr with
   | cons r'' rr =>
    cases rr
    obtain⟨t,rfl⟩:=r
    obtain⟨t',rfl⟩:=r'
    obtain⟨t'',rfl⟩:=r''
    exact call_range_3 (by omega) (range_it3 I1 q1 q2 q3 q4 q5 q6 q) (.inl (PyProof.noPylong_small (by omega)))
def range3T:Int->Int->Nat->List T
 | _,_,0=>[]
 | lo,c,n + 1=>.int lo::range3T (lo + c) c n
theorem range3T_length:∀(lo c:Int)(n:Nat),(range3T lo c n).length=n
 | _,_,0=>rfl
 | lo,c,n + 1=>by simp[range3T,range3T_length (lo + c) c n]
theorem range3T_get:∀(lo c:Int)(n i:Nat),i < n->(range3T lo c n)[i]?=some (.int (lo + i * c))
 | _,_,0,i,h=>by omega
 | lo,c,n + 1,0,h=>by simp[range3T]
 | lo,c,n + 1,i + 1,h=>by
  have e:lo + c + (i:Int) * c=lo + ((i + 1:Nat):Int) * c:=by
   have:((i + 1:Nat):Int)=(i:Int) + 1:=by omega
   rw[this,Int.add_mul,Int.one_mul]
   omega
  rw[range3T,List.getElem?_cons_succ,range3T_get (lo + c) c n i (by omega),e]
theorem wk_range3{K:PySem.W.Frag}{H:Hp}(lo c:Int)(n:Nat):Wk K (Itr3 lo c n) (range3T lo c n) H:=by
 intro H2 _
 refine⟨fun i t ei=>?_,by show n<=_;rw[range3T_length];exact Nat.le_refl _⟩
 have hi:i < n:=by
  have:=(List.getElem?_eq_some_iff.mp ei).1
  rwa [range3T_length]at this
 rw[range3T_get lo c n i hi]at ei
 cases ei
 refine⟨hi,fun x H3 y=>?_⟩
 obtain⟨rfl,rfl⟩:=y
 exact⟨.refl _,rep_int.mpr rfl⟩
def iRange3(ws:WA):WI:=fun τ Q=>ws τ fun ts=>match ts with
 | [.int i,.int j,.int k]=>(-(2 ^ 30)<=i/\i < 2 ^ 30 /\ -(2 ^ 30)<=j/\j < 2 ^ 30/\0 < k/\k < 2 ^ 30)/\Q (range3T i k (cnt3 i j k))
 | _=>False
theorem three_int{P:Int->Int->Int->Prop}{ts:List T}(h:match ts with|[.int i,.int j,.int k]=>P i j k|_=>False):∃i j k,ts=[.int i,.int j,.int k]/\P i j k:=by
 split at h
 ·exact⟨_,_,_,rfl,h⟩
 ·exact h.elim
theorem reps3{K:PySem.W.Frag}{H:Hp}{t t' t'':T}{vs:List V}(r:Reps K H [t,t',t''] vs):∃v v' v'',vs=[v,v',v'']/\Rep K H t v/\Rep K H t' v'/\Rep K H t'' v'':=by
 rw[reps_cons]at r
 obtain⟨v,vr,rfl,r1,r2⟩:=r
 obtain⟨v',v'',rfl,r3,r4⟩:=reps2 r2
 exact⟨v,v',v'',rfl,r1,r3,r4⟩
theorem jiRange3{tg:Expr}{p:Pos} (hg:Gl X "range") (hm:X.mg "range" = none) (ha:JA X [a,b,c] ws) (hs:starEach [a,b,c] X.env=(false,eval a X.env)::starEach [b,c] X.env:=by exact star1 rfl) (hpl:(backTo pos (starEach [b,c] X.env)).any (·.1)=false:=by exact stars rfl) :
  JI X tg (.Call (.Name "range" p) [a,b,c] [] pos) (iRange3 ws) :=
 pi_of (pi_range3 hg hm ha hs hpl) fun σ H R ⟨τ,Q0,Rs,hw,k⟩=>⟨τ,_,Rs,hw,fun ts vs H1 S1 r q=>by
   obtain⟨i,j,l,e0,q⟩:=three_int (P:=fun i j k=>(-(2 ^ 30)<=i/\i < 2 ^ 30 /\ -(2 ^ 30)<=j/\j < 2 ^ 30/\0 < k/\k < 2 ^ 30)/\Q0 (range3T i k (cnt3 i j k))) q
   subst e0
   obtain⟨v,v',v'',rfl,r1,r2,r3⟩:=reps3 r
   exact⟨i,j,l,by rw[rep_int.mp r1,rep_int.mp r2,rep_int.mp r3],q.1,k _ _ H1 S1 (wk_range3 i l (cnt3 i j l)) q.2⟩⟩
theorem Vals.reverse:∀{vs:List V}{us:List Value},Vals vs us->Vals vs.reverse us.reverse
 | _,_,.nil=>.nil
 | _,_,.cons r rr=>by
  rw[List.reverse_cons,List.reverse_cons]
  exact(Vals.reverse rr).append (.cons r .nil)
theorem Reps.reverse{K:PySem.W.Frag}{H:Hp}:∀{ts:List T}{vs:List V},Reps K H ts vs->Reps K H ts.reverse vs.reverse
 | [],vs,h=>by rw[reps_nil]at h;subst h;simp[reps_nil]
 | t::ts,vs,h=>by
  rw[reps_cons]at h
  obtain⟨v,r,rfl,a,b⟩:=h
  rw[List.reverse_cons,List.reverse_cons]
  exact(Reps.reverse b).append (.one a)
def wRev(wa ws:WE):WE:=fun τ Q=>wa τ fun x=>ws τ fun y=>match x,y with | .lst ts,.int i=>i=-1/\Q (.lst ts.reverse)|_,_=>False
end
end TL
end
section
namespace TL
open PySem PySem.Spec PyProof.Rows L2
section
variable {prog:Program} {w:World} {A:Around} {E:Value->Shared->Prop} {s:Shared}
end
section
variable {X:Cx} {a b c e:Expr} {es:List Expr} {wa wb wc w:WE} {ws:WA} {pos:Pos}
def wRevA(wa ws:WE):WE:=fun τ Q=>wa τ fun x=>ws τ fun y=>match x,y with | .tup ts,.int i=>i=-1/\Q (.tup ts.reverse) | .lst ts,.int i=>i=-1/\Q (.lst ts.reverse)|_,_=>False
abbrev WO:=List Slot->(Option Int->Prop)->Prop
def upO(K:PySem.W.Frag)(H0:Hp)(w:WO):TO:=fun σ H Q=>∃(τ:List Slot) (Q0:Option Int->Prop),RepSt K H0 H σ τ/\w τ Q0/\∀o H',Same H H'->Q0 o->Q o H'
def JO(X:Cx)(e:Option Expr)(w:WO):Prop:=PO X e (upO X.K X.H₀ w)
def wo0:WO:=fun _ Q=>Q none
def wo(wa:WE):WO:=fun τ Q=>wa τ fun x=>match x with | .int i=>Q (some i)|_=>False
theorem po_of{e:Option Expr}{t t':TO}(h:PO X e t)(f:∀σ H Q,t' σ H Q->t σ H Q):PO X e t':=fun pins s σ H Q I hw=>h pins s σ H Q I (f σ H Q hw)
theorem jo0:JO X none wo0:=po_of po_none fun σ H Q ⟨τ,Q0,R,hw,k⟩=>k _ H (.refl H) hw
theorem jo(h:JE X e wa):JO X (some e) (wo wa):=po_of (po_some h) fun σ H Q ⟨τ,Q0,R,hw,k⟩=>⟨τ,_,R,hw,fun t v H1 S1 r q=>by
 cases t<;>first|exact q.elim|skip
 exact⟨_,rep_int.mp r,k _ H1 S1 q⟩⟩
def cutT(ts:List T)(lo hi:Option Int):List T:=(ts.drop (HT.sIx ts.length 0 lo)).take (HT.sIx ts.length ts.length hi - HT.sIx ts.length 0 lo)
theorem cut_reps{K:PySem.W.Frag}{H:Hp}{ts:List T}{vs:List V}{lo hi:Option Int}(r:Reps K H ts vs):Reps K H (cutT ts lo hi) (cutV vs lo hi):=by
 unfold cutT cutV
 rw[r.length]
 exact(r.drop _).take _
def rSlTT(x:T)(lo hi:Option Int)(Q:T->Prop):Prop:=match x with
 | .tup ts=>¬ (HT.sIx ts.length 0 lo=0/\HT.sIx ts.length ts.length hi=ts.length)/\Q (.tup (cutT ts lo hi))
 | .lst ts=>Q (.lst (cutT ts lo hi))
 | _=>False
def wSl(wa:WE)(wl wh:WO):WE:=fun τ Q=>wa τ fun x=>wl τ fun lo=>wh τ fun hi=>rSlTT x lo hi Q
def rSlF(K:PySem.W.Frag):V->Option Int->Option Int->Hp->VK->Prop:=fun x lo hi H Q=>∃a xs,x=.ref a/\SqL K H a xs/\∀p o,H p=none->Q (.ref p) (upd H p (.frz o (.lst (cutV xs lo hi))))
theorem sl_listF:SlR X (rSlF X.K):=by
 intro pins s σ H x v vl vu lo hi sl Q I rx hs pl pu h
 obtain⟨a,xs,rfl,hx,q⟩:=h
 cases rx
 obtain⟨its,r,ht,hz⟩:=I.list hx
 have hlen:=r.length
 refine⟨"list", _,slot_list_getitem.lookup,ht.isList.typeIs,?_⟩
 refine wpAny_getItem_list_slice ht.isList hs pl pu .none (by simp) ?_ (by rw[List.size_toArray]<;>omega)
 rw[slicePick_cut,← hlen]
 refine⟨.ref s.heap.objs.size,_,I.laid (t':=s.toks) (o:=.frz {cls:=.type "list", data:=.seq ((its.drop (HT.sIx xs.length 0 lo)).take (HT.sIx xs.length xs.length hi - HT.sIx xs.length 0 lo)).toArray} (.lst (cutV xs lo hi))) (fun b ob q=>Heap.get?_push_of_some _ q) (Nat.le_refl _) ?_,rfl,q _ _ (I.hok.fresh (Nat.le_refl _))⟩
 exact⟨Heap.get?_push_size _ rfl,Nat.le_trans (cutV_length xs lo hi) hz,_,0,(r.drop (HT.sIx xs.length 0 lo)).take (HT.sIx xs.length xs.length hi - HT.sIx xs.length 0 lo),Heap.get?_push_size _ rfl⟩
theorem jsl{lo hi:Option Expr}{wl wh:WO}{p2:Pos}(ha:JE X e wa)(hl:JO X lo wl)(hh:JO X hi wh):JE X (.Subscript e (.Slice lo hi none p2) pos) (wSl wa wl wh):=pe_of (pe_slice (sl_listF.or sl_tup) ha hl hh) fun σ H Q ⟨τ,Q0,R,hw,k⟩ =>
 ⟨τ,_,R,hw,fun t v H1 S1 r1 q1=>⟨τ,_,R.mono S1,q1,fun l H2 S2 q2=>⟨τ,_,R.mono (S1.trans S2),q2,fun h H3 S3 q3=>by
  have r1':=r1.kp (.of (S2.trans S3))
  cases t<;>first|exact q3.elim|skip
  ·rename_i ts
   rw[rep_tup]at r1'
   obtain⟨p,vs,rfl,sq,rr⟩:=r1'
   refine .inr ⟨p,vs,rfl,sq,by rw[rr.length];exact q3.1,fun pp hp=>k _ _ _ (S1.trans (S2.trans (S3.trans (same_new hp _)))) (rep_tup.mpr ⟨pp,_,rfl,SqT.of upd_same,(cut_reps rr).kp (.of (same_new hp _))⟩) q3.2⟩
  ·rename_i ts
   rw[rep_lst]at r1'
   obtain⟨p,vs,rfl,sq,rr⟩:=r1'
   exact .inl ⟨p,vs,rfl,sq.sq,fun pp o hp=>k _ _ _ (S1.trans (S2.trans (S3.trans (same_new hp _)))) (rep_lst.mpr ⟨pp,_,rfl,.inl ⟨o,upd_same⟩,(cut_reps rr).kp (.of (same_new hp _))⟩) q3⟩⟩⟩⟩
end
end TL
end
section
namespace TL
open PySem PySem.Spec PyProof.Rows L2
structure Fly(P:Program)(w:World)(outer:List Env)(H:Hp)(s:Shared)(H':Hp)(e:Addr)(cls:Value)(s':Shared):Prop where
 os:s'.os=s.os
 bare:AllBare s'.gens
 un:Un (frs outer) [] H H' s.heap s'.heap
 hok:HOk P w H' s'.heap
 new:s.heap.get? e=none
 non:H' e=none
 fly:∃B a0,Heap.FlyingW B outer e cls a0 s'.heap/\(∀b o,H' b=some o->∃u,B.get? b=some u)/\∀b u o,s.heap.get? b=some u->s'.heap.get? b=some o->b∉frs outer->B.get? b=some o
theorem objOk_some{P:Program}{w:World}{H:Hp}{h:Heap}{a:Addr}{o:HO}(x:ObjOk P w H h a o):∃u,h.get? a=some u:=by
 induction o with
 | lst xs=>obtain⟨_,_,_,_,e⟩:=x;exact⟨_,e⟩
 | tup xs=>obtain⟨_,_,_,ob,e,_⟩:=x;exact⟨_,e⟩
 | dK kvs=>obtain⟨_,_,_,_,o,_,_,e,_⟩:=x;exact⟨_,e⟩
 | dT kvs=>obtain⟨_,_,_,_,o,_,_,e,_⟩:=x;exact⟨_,e⟩
 | set S n=>obtain⟨o,_,_,_,e,_⟩:=x;exact⟨_,e⟩
 | ins C dx fs=>obtain⟨_,_,_,e,_⟩:=x;exact⟨_,e⟩
 | own y=>obtain⟨_,e⟩:=x;exact⟨_,e⟩
 | xd fs=>obtain⟨_,⟨_,_,_,e,_⟩,_⟩:=x;exact⟨_,e⟩
 | rng lo hi=>obtain⟨_,_,_,e⟩:=x;exact⟨_,e⟩
 | frz ob u=>obtain⟨e,_⟩:=x;exact⟨_,e⟩
 | tbl ps=>exact⟨_,(show h.get? a=some _ from x)⟩
 | met f y=>exact⟨_,(show h.get? a=some _ from x)⟩
 | ext φ=>obtain⟨_,⟨_,e⟩,_⟩:=x;exact⟨_,e⟩
theorem hok_objs{P:Program}{w:World}{H:Hp}{h h':Heap}(ok:HOk P w H h)(k:∀b o u,H b=some o->h.get? b=some u->h'.get? b=some u):HOk P w H h':=fun b o e =>
 (ok b o e).stay (fun c v hc q=>by
  rcases hc with rfl|hc
  ·exact k _ _ v e q
  ·exact k _ _ v hc q) (fun _ q=>q) fun _ _ q=>q
section
variable {X:Cx} {pins:List (Addr×Obj)} {σ:St} {H H':Hp} {s s':Shared} {e:Addr}
structure DefCx(X:Cx):Prop where
 stk:X.stack=X.env::X.outer
 frame:X.env.frame=some X.env.locals
 ex:X.ex=[]
theorem frs_cons(D:DefCx X):frs X.stack=X.env.locals::frs X.outer:=by
 rw[D.stk]
 unfold frs
 rw[List.filterMap_cons,D.frame]
end
section
variable {M:Model} {A:Around} {E:Value->Shared->Prop} {s:Shared}
theorem dict_fields(o:Obj)(f:Array Value->Array Value):(o.mapFields f).dict=o.dict:=by
 obtain⟨c,d,dt,sl⟩:=o
 cases dt<;>rfl
def DAt(h:Heap)(e:Addr)(d:Option Addr):Prop:=∃o,h.get? e=some o/\o.dict=d
theorem two_writes{base h0 h1:Heap}{l:List Env}{e:Addr}{oe tb:Obj}{vs ts:Array Value}{a0:Value}
  (hl:h0.FunFrames base l) (he:h0.get? e=some oe) (hkb:base.StaysIn h0) (hen:base.get? e=none) (hd:oe.data=.fields vs) (hsz:1 < vs.size) (hv:vs[0]?=some a0)
  (S1:Heap.SlotsOnly (l.filterMap (·.frame)) h0 h1) (htb:tb.data=.fields ts) (h3:3 < ts.size) :
  Heap.LeftW base l e oe.cls a0 h0 (((h1.push tb).update e (Obj.mapFields (·.setIfInBounds 1 (.ref h1.objs.size)))).update h1.objs.size (Obj.mapFields (·.setIfInBounds 3 .none))) ∧
   DAt (((h1.push tb).update e (Obj.mapFields (·.setIfInBounds 1 (.ref h1.objs.size)))).update h1.objs.size (Obj.mapFields (·.setIfInBounds 3 .none))) e oe.dict:=by
 have eN:e∉l.filterMap (·.frame):=by
  intro m
  obtain⟨_,o,q,n⟩:=hl.mem m
  rw[he]at q
  cases q
  exact n vs hd
 have e1:h1.get? e=some oe:=by rw[S1.2.1 e eN];exact he
 have ne:h1.objs.size≠e:=Nat.ne_of_gt (Heap.lt_size e1)
 have d3:=Obj.data_mapFields hd (·.setIfInBounds 1 (Value.ref h1.objs.size))
 have e2:=Heap.get?_update_self (Obj.mapFields (·.setIfInBounds 1 (Value.ref h1.objs.size))) (Heap.get?_push_of_some tb e1) (Obj.isFreed_of_fields d3)
 have t1:((h1.push tb).update e (Obj.mapFields (·.setIfInBounds 1 (Value.ref h1.objs.size)))).get? h1.objs.size=some tb:=by
  rw[Heap.get?_update_other _ _ (Ne.symm ne)]
  exact Heap.get?_push_size h1 (Obj.isFreed_of_fields htb)
 have d4:=Obj.data_mapFields htb (·.setIfInBounds 3 Value.none)
 have t2:=Heap.get?_update_self (Obj.mapFields (·.setIfInBounds 3 Value.none)) t1 (Obj.isFreed_of_fields d4)
 have e3:=(Heap.get?_update_other ((h1.push tb).update e (Obj.mapFields (·.setIfInBounds 1 (Value.ref h1.objs.size)))) (Obj.mapFields (·.setIfInBounds 3 Value.none)) ne).trans e2
 have rest:∀b o,b≠e->h1.get? b=some o->(((h1.push tb).update e (Obj.mapFields (·.setIfInBounds 1 (Value.ref h1.objs.size)))).update h1.objs.size (Obj.mapFields (·.setIfInBounds 3 Value.none))).get? b=some o:=by
  intro b o n q
  rw[Heap.get?_update_other _ _ (Nat.ne_of_gt (Heap.lt_size q)),Heap.get?_update_other _ _ (Ne.symm n)]
  exact Heap.get?_push_of_some _ q
 have inb:∀b o,base.get? b=some o->h1.get? b=some o:=by
  intro b o q
  rw[S1.2.1 b (by intro m;rw[(hl.mem m).1]at q;cases q)]
  exact hkb b o q
 have nr:∀b o,h0.get? b=some o->(∀us,o.data ≠ .fields us)->b≠e:=by
  rintro b o q n rfl
  rw[he]at q
  cases q
  exact n vs hd
 refine⟨⟨fun b o q=>rest b o (by rintro rfl;rw[hen]at q;cases q) (inb b o q),hl.of_keeps fun b o q n=>?_,?_,fun b o q n=>?_⟩,_,e3,dict_fields _ _⟩
 ·obtain⟨sl,z⟩:=S1.2.2 b o q
  exact⟨_,rest b _ (nr b o q n) z,rfl⟩
 ·refine⟨_,_,h1.objs.size,_,_,e3,⟨Obj.cls_mapFields _ _,?_⟩,d3,?_,?_,ne,t2,d4,?_⟩
  ·rw[Array.getElem?_setIfInBounds_ne (by decide)]
   exact hv
  ·simp[hsz]
  ·exact Heap.StaysIn.fresh inb
  ·simp[h3]
 ·obtain⟨sl,z⟩:=S1.2.2 b o q
  exact⟨sl,rest b _ (nr b o q n) z⟩
theorem entryD{base:Heap}{env:Env}{outer:List Env}{L e:Addr}{oe:Obj}{vs:Array Value}{head a0:Value}{hn:Bool}{Q:Unit->Shared->Prop}
  (hfr:A.frames=some (env::outer)) (hl:s.heap.FunFrames base (env::outer)) (hf:env.frame=some L) (he:s.heap.get? e=some oe)
  (hkb:base.StaysIn s.heap) (hen:base.get? e=none) (hd:oe.data=.fields vs) (hsz:1 < vs.size) (hv:vs[0]?=some a0)
  (h:∀h',Heap.LeftW base (env::outer) e oe.cls a0 s.heap h'->DAt h' e oe.dict->Q () {s with heap:=h' }) :
  wpAny M A (do
   let a ← frameOf env
   let pl ← entryPlaceOf L hn
   let b ← EntryCells.newEntry head a .none (rawInt L) .none pl
   setField (.ref e) 1 b) (fun _ s'=>wpAny M A (setFlight (.ref e) none) Q E s') E s:=by
 refine wpAny_bind (wpAny_frameOf_fun hfr hl hf fun h1 S1=>wpAny_bind (wpAny_entryPlaceOf fun pl hp=>?_))
 unfold EntryCells.newEntry newFields
 refine wpAny_bind (wpAny_newObj_type ?_ (hp.sizeOk5 _ _ _ _ _))
 have eN:e∉(env::outer).filterMap (·.frame):=by
  intro m
  obtain⟨_,o,q,n⟩:=hl.mem m
  rw[he]at q
  cases q
  exact n vs hd
 have e1:h1.get? e=some oe:=by rw[S1.2.1 e eN];exact he
 have ne:h1.objs.size≠e:=Nat.ne_of_gt (Heap.lt_size e1)
 have d3:=Obj.data_mapFields hd (·.setIfInBounds 1 (Value.ref h1.objs.size))
 refine wpAny_setField (Heap.get?_push_of_some _ e1) hd hsz ?_
 unfold setFlight
 refine wpAny_bind (wpAny_field (Heap.get?_update_self _ (Heap.get?_push_of_some _ e1) (Obj.isFreed_of_fields d3)) d3 (x:=.ref h1.objs.size) (by simp[hsz]) ?_)
 rw[if_pos (by simp)]
 have W:=fun z=>two_writes (tb:={cls:=.type "traceback", dict:=none,data:=.fields ([head,.ref L,.none,rawInt L,.none]++(if pl.isEmpty then List.replicate 6 Value.none else pl)).toArray}) hl he hkb hen hd hsz hv S1 rfl z
 have z:3 < ([head,.ref L,.none,rawInt L,.none]++(if pl.isEmpty then List.replicate 6 Value.none else pl)).toArray.size:=by
  simp only[List.size_toArray,List.length_append,List.length_cons,List.length_nil]
  omega
 refine wpAny_setField ((Heap.get?_update_other _ _ (Ne.symm ne)).trans (Heap.get?_push_size h1 rfl)) rfl z ?_
 exact h _ (W z).1 (W z).2
theorem firstD{base:Heap}{env:Env}{outer:List Env}{L e:Addr}{oe:Obj}{vs:Array Value}{a0:Value}{Q:Unit->Shared->Prop}
  (hfr:A.frames=some (env::outer)) (hl:s.heap.FunFrames base (env::outer)) (hf:env.frame=some L) (he:s.heap.get? e=some oe)
  (hkb:base.StaysIn s.heap) (hen:base.get? e=none) (hd:oe.data=.fields vs) (hn:vs[1]?=some .none) (hv:vs[0]?=some a0)
  (h:∀h',Heap.LeftW base (env::outer) e oe.cls a0 s.heap h'->DAt h' e oe.dict->Q () {s with heap:=h' }):wpAny M A (leaving env (.ref e)) Q E s:=by
 unfold leaving noteFrame
 rw[hf]
 refine wpAny_bind (wpAny_bind (wpAny_field he hd hn ?_))
 rw[if_neg (by decide)]
 exact entryD hfr hl hf he hkb hen hd (Array.getElem?_eq_some_iff.mp hn).1 hv h
theorem nextD{base:Heap}{env:Env}{outer:List Env}{L e:Addr}{cls a0:Value}{d:Option Addr}{Q:Unit->Shared->Prop}
  (hfr:A.frames=some (env::outer)) (hf:env.frame=some L) (fl:Heap.FlyingW base (env::outer) e cls a0 s.heap) (da:DAt s.heap e d)
  (hQ:∀h',Heap.FlyingW base outer e cls a0 h'->s.heap.UpToSlots h'->DAt h' e d->Q () {s with heap:=h' }):wpAny M A (leaving env (.ref e)) Q E s:=by
 obtain⟨hkb,hen,hl,oe,vs,tr,ot,ts,he,⟨rfl,hv⟩,hd,hn,hnt,hte,ht,hdt,h3⟩:=fl
 obtain⟨o,q,rfl⟩:=da
 rw[he]at q
 cases q
 unfold leaving noteFrame
 rw[hf]
 refine wpAny_bind (wpAny_bind (wpAny_field he hd hn ?_))
 rw[if_pos (by simp)]
 refine wpAny_bind (wpAny_field ht hdt h3 ?_)
 rw[if_neg (by simp[rawInt])]
 refine wpAny_bind (wpAny_setField ht hdt (Array.getElem?_eq_some_iff.mp h3).1 ?_)
 have oth:∀b,b≠tr->(s.heap.update tr (Obj.mapFields (·.setIfInBounds 3 .none))).get? b=s.heap.get? b:=fun b n=>Heap.get?_update_other _ _ (Ne.symm n)
 have nr:∀b o,s.heap.get? b=some o->(∀us,o.data ≠ .fields us)->b≠tr:=by
  rintro b o q n rfl
  rw[ht]at q
  cases q
  exact n ts hdt
 refine entryD hfr (hl.of_keeps fun b o q n=>⟨o,(oth b (nr b o q n)).trans q,rfl⟩) hf ((oth e (Ne.symm hte)).trans he) (fun b o q=>(oth b (by rintro rfl;rw[hnt]at q;cases q)).trans (hkb b o q)) hen hd (Array.getElem?_eq_some_iff.mp hn).1 hv fun h' x y=>?_
 obtain⟨k1,⟨_,_,k2⟩,k3,k4⟩:=x
 exact hQ h' ⟨k1,hen,k2,k3⟩ (fun b o q n=>k4 b o ((oth b (nr b o q n)).trans q) n) y
theorem one_write{base h0 h1:Heap}{l:List Env}{e:Addr}{oe tb:Obj}{vs ts:Array Value}{a0 fl:Value}
  (hl:h0.FunFrames base l) (he:h0.get? e=some oe) (hkb:base.StaysIn h0) (hen:base.get? e=none) (hd:oe.data=.fields vs) (hsz:1 < vs.size) (hv:vs[0]?=some a0)
  (S1:Heap.SlotsOnly (l.filterMap (·.frame)) h0 h1) (htb:tb.data=.fields ts) (h3:ts[3]?=some fl) :
  Heap.NotedW base l e oe.cls a0 fl h0 ((h1.push tb).update e (Obj.mapFields (·.setIfInBounds 1 (.ref h1.objs.size)))) ∧
   DAt ((h1.push tb).update e (Obj.mapFields (·.setIfInBounds 1 (.ref h1.objs.size)))) e oe.dict:=by
 have eN:e∉l.filterMap (·.frame):=by
  intro m
  obtain⟨_,o,q,n⟩:=hl.mem m
  rw[he]at q
  cases q
  exact n vs hd
 have e1:h1.get? e=some oe:=by rw[S1.2.1 e eN];exact he
 have ne:h1.objs.size≠e:=Nat.ne_of_gt (Heap.lt_size e1)
 have d3:=Obj.data_mapFields hd (·.setIfInBounds 1 (Value.ref h1.objs.size))
 have e2:=Heap.get?_update_self (Obj.mapFields (·.setIfInBounds 1 (Value.ref h1.objs.size))) (Heap.get?_push_of_some tb e1) (Obj.isFreed_of_fields d3)
 have t1:((h1.push tb).update e (Obj.mapFields (·.setIfInBounds 1 (Value.ref h1.objs.size)))).get? h1.objs.size=some tb:=by
  rw[Heap.get?_update_other _ _ (Ne.symm ne)]
  exact Heap.get?_push_size h1 (Obj.isFreed_of_fields htb)
 have rest:∀b o,b≠e->h1.get? b=some o->((h1.push tb).update e (Obj.mapFields (·.setIfInBounds 1 (Value.ref h1.objs.size)))).get? b=some o:=by
  intro b o n q
  rw[Heap.get?_update_other _ _ (Ne.symm n)]
  exact Heap.get?_push_of_some _ q
 have inb:∀b o,base.get? b=some o->h1.get? b=some o:=by
  intro b o q
  rw[S1.2.1 b (by intro m;rw[(hl.mem m).1]at q;cases q)]
  exact hkb b o q
 have nr:∀b o,h0.get? b=some o->(∀us,o.data ≠ .fields us)->b≠e:=by
  rintro b o q n rfl
  rw[he]at q
  cases q
  exact n vs hd
 refine⟨⟨fun b o q=>rest b o (by rintro rfl;rw[hen]at q;cases q) (inb b o q),hl.of_keeps fun b o q n=>?_,?_,fun b o q n=>?_⟩,_,e2,dict_fields _ _⟩
 ·obtain⟨sl,z⟩:=S1.2.2 b o q
  exact⟨_,rest b _ (nr b o q n) z,rfl⟩
 ·refine⟨_,_,h1.objs.size,_,_,e2,⟨Obj.cls_mapFields _ _,?_⟩,d3,?_,?_,ne,t1,htb,h3⟩
  ·rw[Array.getElem?_setIfInBounds_ne (by decide)]
   exact hv
  ·simp[hsz]
  ·exact Heap.StaysIn.fresh inb
 ·obtain⟨sl,z⟩:=S1.2.2 b o q
  exact⟨sl,rest b _ (nr b o q n) z⟩
theorem noteD{base:Heap}{env:Env}{outer:List Env}{L e:Addr}{cls a0:Value}{d:Option Addr}{Q:Unit->Shared->Prop}
  (hfr:A.frames=some (env::outer)) (hf:env.frame=some L) (fl:Heap.FlyingW base (env::outer) e cls a0 s.heap) (da:DAt s.heap e d)
  (hQ:∀h',Heap.HeldW base (env::outer) e cls a0 L h'->s.heap.UpToSlots h'->DAt h' e d->Q () {s with heap:=h' }):wpAny M A (noteFrame (.ref e) env) Q E s:=by
 obtain⟨hkb,hen,hl,oe,vs,tr,ot,ts,he,⟨rfl,hv⟩,hd,hn,hnt,hte,ht,hdt,h3⟩:=fl
 obtain⟨o,q,rfl⟩:=da
 rw[he]at q
 cases q
 unfold noteFrame
 rw[hf]
 refine wpAny_bind (wpAny_field he hd hn ?_)
 rw[if_pos (by simp)]
 refine wpAny_bind (wpAny_field ht hdt h3 ?_)
 rw[if_neg (by simp[rawInt])]
 refine wpAny_bind (wpAny_setField ht hdt (Array.getElem?_eq_some_iff.mp h3).1 ?_)
 obtain⟨h0,hh0⟩:∃h0,h0=s.heap.update tr (Obj.mapFields (·.setIfInBounds 3 .none)):=⟨_,rfl⟩
 have oth:∀b,b≠tr->h0.get? b=s.heap.get? b:=fun b n=>by rw[hh0];exact Heap.get?_update_other _ _ (Ne.symm n)
 have nr:∀b o,s.heap.get? b=some o->(∀us,o.data ≠ .fields us)->b≠tr:=by
  rintro b o q n rfl
  rw[ht]at q
  cases q
  exact n ts hdt
 rw[← hh0]
 have hl0:h0.FunFrames base (env::outer):=hl.of_keeps fun b o q n=>⟨o,(oth b (nr b o q n)).trans q,rfl⟩
 have he0:h0.get? e=some oe:=(oth e (Ne.symm hte)).trans he
 refine wpAny_bind (wpAny_frameOf_fun (s:={s with heap:=h0}) hfr hl0 hf fun h1 S1=>wpAny_bind (wpAny_entryPlaceOf fun pl hp=>?_))
 unfold EntryCells.newEntry newFields
 refine wpAny_bind (wpAny_newObj_type ?_ (hp.sizeOk5 _ _ _ _ _))
 have eN:e∉(env::outer).filterMap (·.frame):=by
  intro m
  obtain⟨_,o,q,n⟩:=hl0.mem m
  rw[he0]at q
  cases q
  exact n vs hd
 have e1:h1.get? e=some oe:=by rw[S1.2.1 e eN];exact he0
 refine wpAny_setField (Heap.get?_push_of_some _ e1) hd (Array.getElem?_eq_some_iff.mp hn).1 ?_
 have W:=one_write (tb:={cls:=.type "traceback", dict:=none,data:=.fields ([.ref tr,.ref L,.none,rawInt L,.none]++(if pl.isEmpty then List.replicate 6 Value.none else pl)).toArray}) hl0 he0 (fun b o q=>(oth b (by rintro rfl;rw[hnt]at q;cases q)).trans (hkb b o q)) hen hd (Array.getElem?_eq_some_iff.mp hn).1 hv S1 rfl (fl:=rawInt L) (by rfl)
 obtain⟨⟨k1,k2,k3,k4⟩,k5⟩:=W
 exact hQ _ ⟨k1,hen,k2,k3⟩ (fun b o q n=>k4 b o ((oth b (nr b o q n)).trans q) n) k5
theorem landD{base:Heap}{l:List Env}{e:Addr}{cls a0 fl:Value}{d:Option Addr}{Q:Unit->Shared->Prop}(hkb:base.StaysIn s.heap)(hen:base.get? e=none)(hl:s.heap.FunFrames base l)(tr:s.heap.TracedAtW base e cls a0 fl)(da:DAt s.heap e d)
  (hQ:∀h',Heap.FlyingW base l e cls a0 h'->s.heap.UpToSlots h'->DAt h' e d->Q () {s with heap:=h' }):wpAny M A (setFlight (.ref e) none) Q E s:=by
 obtain⟨oe,vs,t,oT,ts,he,hcls,hd,h1,hnT,hTe,hT,hdT,h3⟩:=tr
 obtain⟨o,q,rfl⟩:=da
 rw[he]at q
 cases q
 have hsz3:3 < ts.size:=(Array.getElem?_eq_some_iff.mp h3).1
 have oth:∀b,b≠t->(s.heap.update t (Obj.mapFields (·.setIfInBounds 3 ((none:Option Addr).elim Value.none fun f=>rawInt f)))).get? b=s.heap.get? b:=fun b n=>Heap.get?_update_other _ _ (Ne.symm n)
 have nr:∀b o,s.heap.get? b=some o->(∀us,o.data ≠ .fields us)->b≠t:=by
  rintro b o q n rfl
  rw[hT]at q
  cases q
  exact n ts hdT
 unfold setFlight
 refine wpAny_bind (wpAny_field he hd h1 ?_)
 rw[if_pos (by simp)]
 have e2:=(oth e (Ne.symm hTe)).trans he
 refine wpAny_setField hT hdT hsz3 (hQ _ ⟨fun b o q=>(oth b (by rintro rfl;rw[hnT]at q;cases q)).trans (hkb b o q),hen,hl.of_keeps fun b o q n=>⟨o,(oth b (nr b o q n)).trans q,rfl⟩,?_⟩ (fun b o q n=>⟨o.slots,(oth b (nr b o q n)).trans q⟩) ⟨oe,e2,rfl⟩)
 exact⟨oe,vs,t,_,_,e2,hcls,hd,h1,hnT,hTe,Heap.get?_update_self _ hT (Obj.isFreed_of_fields (Obj.data_mapFields hdT _)),Obj.data_mapFields hdT _,by simp[hsz3]⟩
end
section
variable {P:Program} {w:World} {A:Around} {E:Value->Shared->Prop} {h:Heap} {g:Array GenState} {d:Drawn} {t:Nat} {os:OsState}
variable {nm q:Str} {C N fI:Addr} {bs bm bB:List Value} {hd ab:Bool} {sn:List Str} {sub:List Value} {col:Option Bool} {dd:Option Addr} {k0 k1 k2 k3 k5:Option Value} {B nid iid:String} {mN:Str->Option Value} {oI:Obj} {rest:List Value}
theorem tcall_own(F:ExcBaseFacts B nid iid bB)(hB:bB.contains (.type B)=true)(TT:OwnTail h bB bm){Q:Fin->Shared->Prop}
  (hC:h.get? C=some (excClassObj nm q C N bs bm hd sn sub ab col dd k0 k1 k2 k3 k5 nid)) (hN:h.Ns N mN) (hi:mN "__init__" = some (.ref fI)) (hf:h.get? fI=some oI) (hc:oI.cls=.type "function")
  (hq:∀h' e,Heap.MadeExcOf h h' e (.ref C) rest->h.objs.size<=e->wpAny (model P w) A (call (.ref fI) (.ref e::rest)) (fun r s'=>r=.none/\Q (.done (.ret (.ref e))) s') E ⟨h',g,d,t,os⟩)
  (hr:rest.length<=sizeLine):wpAny (model P w) A (Builtin.«type.__call__» ⟨.ref C::rest,[]⟩) Q E ⟨h,g,d,t,os⟩:=by
 repeat (first|with_reducible refine wpAny_loadPart_at hC ?_|with_reducible refine wpAny_madeBy_exc hC ?_|wp_step)
 refine codeAny_call_builtin_code (Code.quiet_builtin _ F.quiet) (wpAny_check_new_subU F hB TT hC (codeAny_exc_new_subU F hB F TT hC ?_ hr))
 show wpAny _ _ _ _ _ _
 have up:∀b o,h.get? b=some o->((h.push {cls:=.type "tuple", data:=.seq rest.toArray}).push {cls:=.ref C,data:=.fields #[.ref h.objs.size,.none,.none,.none,.bool false,.none]}).get? b=some o:=fun b o z=>Heap.get?_push_of_some _ (Heap.get?_push_of_some _ z)
 have at1:((h.push {cls:=.type "tuple", data:=.seq rest.toArray}).push {cls:=.ref C,data:=.fields #[.ref h.objs.size,.none,.none,.none,.bool false,.none]}).get? (h.objs.size + 1)=some {cls:=.ref C,data:=.fields #[.ref h.objs.size,.none,.none,.none,.bool false,.none]}:=by heap_get
 have self:(Value.ref C::bm).contains (.ref C)=true:=by simp
 have hC1:=up _ _ hC
 unfold isInstance
 repeat (first|with_reducible refine wpAny_loadPart_at at1 ?_|(with_reducible refine wpAny_isSubtype_exc hC1 ?_;rw[self])|wp_step)
 show wpAny _ _ (typeLookup (.ref C) _) _ _ _
 refine wpAny_typeLookup_tail hC1 (hN.keeps up) (TT.keeps up) F.mroIs F.init.lookup ?_
 rw[hi]
 refine wpAny_holding (wpAny_bind ?_)
 unfold bindSpecial
 refine wpAny_bind (wpAny_typeOf (T := "function") ⟨_,up _ _ hf,hc⟩ ?_)
 rw[if_pos (by decide)]
 have mk:Heap.MadeExcOf h ((h.push {cls:=.type "tuple", data:=.seq rest.toArray}).push {cls:=.ref C,data:=.fields #[.ref h.objs.size,.none,.none,.none,.bool false,.none]}) (h.objs.size + 1) (.ref C) rest :=
  ⟨up,Heap.get?_none_of_le (Nat.le_succ _),h.objs.size,at1,Heap.get?_none_of_le (Nat.le_refl _),Heap.get?_push_of_some _ (Heap.get?_push_at rfl rfl)⟩
 refine wpAny_pure (wpAny_bind (wpAny_mono (hq _ _ mk (Nat.le_succ _)) (fun r s' z=>?_) fun _ _ z=>z))
 obtain⟨rfl,z⟩:=z
 wp_walk
 exact z
theorem call_own(F:ExcBaseFacts B nid iid bB)(hB:bB.contains (.type B)=true)(TT:OwnTail h bB bm){Q:Value->Shared->Prop}
  (hC:h.get? C=some (excClassObj nm q C N bs bm hd sn sub ab col dd k0 k1 k2 k3 k5 nid)) (hN:h.Ns N mN) (hi:mN "__init__" = some (.ref fI)) (hf:h.get? fI=some oI) (hc:oI.cls=.type "function")
  (hq:∀h' e,Heap.MadeExcOf h h' e (.ref C) rest->h.objs.size<=e->wpAny (model P w) (A.under (.builtin "type.__call__" ⟨.ref C::rest,[]⟩)) (call (.ref fI) (.ref e::rest)) (fun r s'=>r=.none/\Q (.ref e) s') E ⟨h',g,d,t,os⟩)
  (hr:rest.length<=sizeLine):wpAny (model P w) A (call (.ref C) rest) Q E ⟨h,g,d,t,os⟩:=by
 have z1:=tc_lookup
 have z2:=tc_bind (.ref C)
 have z3:(⟨h,g,d,t,os⟩:Shared).TypeIs (.ref C) "type" := ⟨_,hC,rfl⟩
 refine wpAny_call (codeAny_of_tree ?_)
 show wpAny _ _ (callAny (.ref C) _) _ _ _
 repeat (any_goals (first|assumption|with_reducible refine wpAny_loadPart_at hC ?_|wp_step))
 exact⟨rfl,codeAny_call_builtin_at (Code.quiet_builtin _ (by decide +kernel)) entry_typeCall (wpAny_check_type_call_sub hC (tcall_own F hB TT hC hN hi hf hc (fun h' e m l=>hq h' e m l) hr))⟩
end
section
variable {P:Program} {w:World} {A:Around} {E:Value->Shared->Prop} {s:Shared} {env:Env} {M:Model}
variable {nm q:Str} {C N fI:Addr} {bs bm bB:List Value} {hd ab:Bool} {sn:List Str} {sub:List Value} {col:Option Bool} {dd:Option Addr} {k0 k1 k2 k3 k5:Option Value} {B nid iid:String} {mN:Str->Option Value} {oI:Obj}
abbrev excObj(C:Addr)(a0:Value)(dx:Option Addr):Obj:={cls:=.ref C,dict:=dx,data:=.fields #[a0,.none,.none,.none,.bool false,.none]}
theorem raise_made{x:Sem Value}{Q:Flow->Shared->Prop} (hb:bm.contains (.type "BaseException")=true) (hh:A.handled=none)
  (h:wpAny M A x (fun v s1=>∃e a0 dx,v=.ref e/\s1.heap.get? C=some (excClassObj nm q C N bs bm hd sn sub ab col dd k0 k1 k2 k3 k5 nid)/\s1.heap.get? e=some (excObj C a0 dx)/\E (.ref e) s1) E s) :
  wpAny M A (raiseStmt env (some x) none) Q E s:=by
 have hcB:(Value.ref C::bm).contains (.type "BaseException")=true:=by rw[List.contains_cons,hb,Bool.or_true]
 unfold raiseStmt
 refine wpAny_bind (wpAny_mono h (fun v s1 z=>?_) fun _ _ z=>z)
 obtain⟨e,a0,dx,rfl,hC,he,hE⟩:=z
 obtain⟨hp,g,d,tk,os⟩:=s1
 repeat (first|with_reducible refine wpAny_loadPart_at he ?_|with_reducible refine wpAny_loadPart_at hC ?_|(with_reducible refine wpAny_isSubtype_exc hC ?_;rw[hcB])|wp_step)
 exact wpAny_raiseNew_none hh hE
theorem raise_own(F:ExcBaseFacts B nid iid bB)(hB:bB.contains (.type B)=true){x:Str}{np cpos pos:Pos}{args:List Expr}{Q:Flow->Shared->Prop}
  (hb:bm.contains (.type "BaseException")=true) (hh:A.handled=none) (hpl:(backTo cpos (starEach args env)).any (·.1)=false) (hi:mN "__init__" = some (.ref fI)) (hc:oI.cls=.type "function")
  (h : wpAny (model P w) A (eval (.Name x np) env) (fun f s1=>f=.ref C/\wpAny (model P w) A (evalArgs (.ref C) true (backTo cpos (starEach args env)) [])
   (fun a s2=>a.kw=[]/\a.pos.length<=sizeLine/\s2.heap.get? C=some (excClassObj nm q C N bs bm hd sn sub ab col dd k0 k1 k2 k3 k5 nid)/\s2.heap.Ns N mN/\s2.heap.get? fI=some oI/\OwnTail s2.heap bB bm ∧
    ∀h' e,Heap.MadeExcOf s2.heap h' e (.ref C) a.pos->s2.heap.objs.size<=e->wpAny (model P w) (A.under (.builtin "type.__call__" ⟨.ref C::a.pos,[]⟩)) (call (.ref fI) (.ref e::a.pos))
     (fun r s'=>r=.none/\s'.heap.get? C=some (excClassObj nm q C N bs bm hd sn sub ab col dd k0 k1 k2 k3 k5 nid)/\(∃a0 dx,s'.heap.get? e=some (excObj C a0 dx))/\E (.ref e) s') E {s2 with heap:=h' }) E s1) E s) :
  wpAny (model P w) A (exec (.Raise (some (.Call (.Name x np) args [] cpos)) none pos) env) Q E s:=by
 rw[arm_exec_Raise]
 have z:wpAny (model P w) A (eval (.Call (.Name x np) args [] cpos) env) (fun v s1=>∃e a0 dx,v=.ref e/\s1.heap.get? C=some (excClassObj nm q C N bs bm hd sn sub ab col dd k0 k1 k2 k3 k5 nid)/\s1.heap.get? e=some (excObj C a0 dx)/\E (.ref e) s1) E s:=by
  refine wpAny_Call_ofName (wpAny_mono h (fun f s1 y=>?_) fun _ _ y=>y)
  obtain⟨rfl,y⟩:=y
  unfold callWith
  refine wpAny_bind (wpAny_holding (wpAny_mono y (fun a s2 y=>wpAny_bind (wpAny_standAt ?_)) fun _ _ y=>y))
  obtain⟨apos,akw⟩:=a
  obtain⟨hkw,hlen,hC,hN,hf,TT,y⟩:=y
  obtain rfl:akw=[]:=hkw
  obtain⟨hp,g,d,tk,os⟩:=s2
  simp only[hpl]
  refine wpAny_bind (wpAny_keeperOf_exc hC (wpAny_bind (call_own F hB TT hC hN hi hf hc (fun h' e m l=>wpAny_mono (y h' e m l) (fun r s' y=>⟨y.1,wpAny_bind (wpAny_holding (wpAny_point (wpAny_pure ?_)))⟩) fun _ _ y=>y) hlen)))
  obtain⟨_,hC',⟨a0,dx,he⟩,hE⟩:=y
  exact⟨e,a0,dx,rfl,hC',he,hE⟩
 first
  | exact wpAny_bind (wpAny_standAt (raise_made hb hh (wpAny_bind (wpAny_mono z (fun v s3 y=>wpAny_bind (wpAny_standAt (wpAny_pure y))) fun _ _ y=>y))))
  | (simp only[evalOpt,Option.map];exact wpAny_bind (wpAny_standAt (raise_made hb hh (wpAny_bind (wpAny_mono z (fun v s3 y=>wpAny_bind (wpAny_standAt (wpAny_pure y))) fun _ _ y=>y)))))
end
open Builtin Builtin.ObjectAttr
section
variable {P:Program} {w:World} {A:Around} {E:Value->Shared->Prop} {s:Shared} {K:PySem.W.Frag} {x C:Addr} {ox:Obj} {name:Str} {v:Value} {cd:ClassData} {rs:List Addr}
abbrev mroVE:List Value:=[.type "ValueError", .type "Exception", .type "BaseException", .type "object"]
theorem refuse_refs(self:Value):∀rs:List Addr,refuseLoop self "__setattr__" (rs.map Value.ref++mroVE)=pure ()
 | []=>PySem.F.store_ValueError.passes self
 | c::r=>by rw[List.map_cons,List.cons_append,refuseLoop_ref];exact refuse_refs self r
theorem inst_new{a0:Value}(hx:s.heap.get? x=some (excObj C a0 none)):PySem.W.InstAt s.heap x (excObj C a0 none) C none:=⟨hx,rfl,rfl,trivial⟩
theorem osa_exc{R:Result->Shared->Prop}{tk:Tok}{a0:Value}(X:K.In s.heap)(hx:s.heap.get? x=some (excObj C a0 none))
  (hna:PySem.W.findIn K (.ref C) name=some none) (hc:PySem.W.clsIn K C=some cd) (hm:cd.mro=rs.map Value.ref++mroVE) (hh:cd.hasDict=true)
  (h:∀h' t',h'.get? x=some (excObj C a0 (some s.heap.objs.size))->h'.Ns1 s.heap.objs.size (fun y=>if y=name then some v else none)->(∀b o,b≠x->s.heap.get? b=some o->h'.get? b=some o)->R (.ok (.ret .none)) {s with heap:=h',toks:=t' }) :
  codeAny (model P w) A (.call (.builtin "object.__setattr__") ⟨[.ref x,.str name tk,v],[]⟩) R s:=by
 have SF:=PySem.F.store_object
 have I:=inst_new hx
 have ne:cd.mro.isEmpty=false:=by rw[hm];cases rs<;>rfl
 have has:cd.mro.contains (.type "object")=true:=by rw[hm];simp
 have sub:PySem.W.Looks (model P w) s.heap (isInstance (.ref x) (.type "object")) true:=I.type.andThen (PySem.W.looks_mroIn X (by unfold PySem.W.mroIn;rw[hc,Option.bind_some,if_neg (by rw[ne];decide),has]))
 refine codeAny_call_builtin SF.slot.plain SF.entry (@PySem.W.check_slot (model P w) _ _ s "object.__setattr__" "object" "__setattr__" (.ref x) [.str name tk,v] [] _ SF.kind SF.split sub (SF.args (.ref x) (.str name tk) v) ?_)
 have hmr:PySem.W.Looks (model P w) s.heap (mroOf (.ref C)) cd.mro:=(PySem.W.looks_clsIn X hc).andThen .now
 rw[PySem.W.osa_eq,refuse_eq]
 refine wpAny_bind (wpAny_bind (I.type.here (wpAny_bind (hmr.here ?_))))
 rw[hm,refuse_refs]
 refine wpAny_pure (wpAny_bind (I.type.here (wpAny_bind ((PySem.W.looks_findIn X hna).here (wpAny_bind (wpAny_pure ?_))))))
 dsimp only
 unfold storeInOwnDict
 refine wpAny_bind (wpAny_pure ?_)
 show wpAny _ _ (if (Value.ref C==Value.type "module")=true then _ else _) _ _ _
 rw[if_neg (by simp)]
 refine wpAny_bind ?_
 show wpAny _ _ (instanceDict x true) _ _ _
 unfold instanceDict
 refine wpAny_bind (wpAny_loadPart hx ?_)
 dsimp only
 refine wpAny_bind ((PySem.W.looks_clsIn X hc).here ?_)
 rw[hh,if_neg (by decide),if_neg (by simp[typeHasDict])]
 have ns:x≠s.heap.objs.size:=Nat.ne_of_lt (Heap.lt_size hx)
 have hx1:(s.heap.push {cls:=.type "dict", data:=.dict #[]}).get? x=some (excObj C a0 none):=Heap.get?_push_of_some _ hx
 have at1:=Heap.get?_update_self (fun o:Obj=>{cls:=o.cls,dict:=some s.heap.objs.size,data:=o.data,slots:=o.slots}) hx1 rfl
 have dat:((s.heap.push {cls:=.type "dict", data:=.dict #[]}).update x fun o=>{cls:=o.cls,dict:=some s.heap.objs.size,data:=o.data,slots:=o.slots}).get? s.heap.objs.size=some {cls:=.type "dict", data:=.dict #[]} :=
  (Heap.get?_update_other _ _ ns).trans (Heap.get?_push_size _ rfl)
 refine wpAny_bind (wpAny_alloc (wpAny_bind (wpAny_update hx1 ?_)))
 refine wpAny_pure ?_
 show wpAny _ _ (storeInDict s.heap.objs.size (.str name tk) name v) _ _ _
 unfold storeInDict newKeyGuard
 refine wpAny_bind (wpAny_pure (wpAny_bind (wpAny_nsSet1 (m:=fun _=>none) (Heap.Ns1.of_empty ⟨_,#[],_,dat,rfl,fun _ z=>absurd z (by simp),fun _=>rfl⟩) fun h' n1 sb=>?_)))
 obtain⟨oD,es,ep,e1,e2,e3⟩:=n1.count (Within.cons name v Within.nil)
 refine wpAny_bind (wpAny_lookBehind e1 (by rw[e2];exact pastItsLine_dict (Nat.le_trans e3 (by rw[List.length_cons,List.length_nil,sizeLine_eq];omega))) ?_)
 refine wpAny_pure ?_
 refine h h' _ ?_ n1 fun b o nb q=>?_
 ·exact(sb.2 x ns).trans at1
 ·exact(sb.2 b (Nat.ne_of_lt (Heap.lt_size q))).trans ((Heap.get?_update_other _ _ (Ne.symm nb)).trans (Heap.get?_push_of_some _ q))
theorem set_exc{Q:Unit->Shared->Prop}{a0:Value}(X:K.In s.heap)(hx:s.heap.get? x=some (excObj C a0 none)) (hs:PySem.W.findIn K (.ref C) "__setattr__" = some (some (.builtin "object.__setattr__")))
  (hna:PySem.W.findIn K (.ref C) name=some none) (hc:PySem.W.clsIn K C=some cd) (hm:cd.mro=rs.map Value.ref++mroVE) (hh:cd.hasDict=true)
  (h:∀h' t',h'.get? x=some (excObj C a0 (some s.heap.objs.size))->h'.Ns1 s.heap.objs.size (fun y=>if y=name then some v else none)->(∀b o,b≠x->s.heap.get? b=some o->h'.get? b=some o)->Q () {s with heap:=h',toks:=t' }) :
  wpAny (model P w) A (setAttr (.ref x) name v) Q E s :=
 PySem.W.set_plain X (inst_new hx) hs (osa_exc (s:={s with toks:=s.toks + 1}) X hx hna hc hm hh h)
end
section
variable {P:Program} {w:World} {A:Around} {E:Value->Shared->Prop} {s:Shared} {K:PySem.W.Frag} {x C:Addr} {ox:Obj} {od:Option Obj} {name:Str} {v:Value} {cd:ClassData} {rs:List Addr}
theorem slot_ga:PySem.Slot "ValueError" "__getattribute__" "BaseException.__getattribute__" := PySem.F.excAttr_ValueError.ga
theorem get_exc{Q:Value->Shared->Prop}{expr:Bool}(X:K.In s.heap)(I:PySem.W.InstAt s.heap x ox C od) (hga:PySem.W.findIn K (.ref C) "__getattribute__" = some (some (.builtin "BaseException.__getattribute__")))
  (hk:PySem.W.findIn K (.ref C) "__getattr__" = some none) (hc:PySem.W.clsIn K C=some cd) (hm:cd.mro=rs.map Value.ref++mroVE) (hf:PySem.W.findObj K C od name=some (.value v)) (hh:PySem.W.handedIn v=true)
  (h:Q v {s with toks:=s.toks + 1}):wpAny (model P w) A (getAttr (.ref x) name expr) Q E s:=by
 have ht:PySem.W.Looks (model P w) s.heap (typeOf (.ref x)) (.ref C):=I.type
 have ne:cd.mro.isEmpty=false:=by rw[hm];cases rs<;>rfl
 have has:cd.mro.contains (.type "BaseException")=true:=by rw[hm];simp
 have sub:PySem.W.Looks (model P w) s.heap (isInstance (.ref x) (.type "BaseException")) true:=I.type.andThen (PySem.W.looks_mroIn X (by unfold PySem.W.mroIn;rw[hc,Option.bind_some,if_neg (by rw[ne];decide),has]))
 have hb:PySem.W.Looks (model P w) s.heap (hookBefore (.ref C)) none:=PySem.W.looks_hook X (by rw[show onTheHeap (Value.ref C)=true from rfl,if_pos rfl];exact hk)
 have lf:=PySem.W.looks_find (M:=model P w) X I hf
 refine wpAny_bind (wpAny_mkText (wpAny_holding (wpAny_bind (ht _ _ _ _ (fun _ _ e=>e) (wpAny_bind (PySem.W.looks_findIn X hga _ _ _ _ (fun _ _ e=>e) ?_))))))
 dsimp only
 rw[show (onTheHeap (.ref C)&&Value.builtin "BaseException.__getattribute__" == Value.builtin "object.__getattribute__")=false from by rw[show (Value.builtin "BaseException.__getattribute__" == Value.builtin "object.__getattribute__")=false from by decide +kernel,Bool.and_false],if_neg (by decide)]
 refine wpAny_bind (hb _ _ _ _ (fun _ _ e=>e) (wpAny_bind (wpAny_attempt (wpAny_holding ?_))))
 unfold callGetattribute
 rw[show (expr&&onTheHeap (Value.builtin "BaseException.__getattribute__"))=false from Bool.and_false _,if_neg (by decide)]
 unfold boundAndCalled
 rw[slot_ga.bind]
 refine wpAny_bind (wpAny_pure ?_)
 show wpAny _ _ (call (.builtin "BaseException.__getattribute__") [.ref x,.str name s.toks]) _ _ _
 refine wpAny_call (codeAny_call_builtin slot_ga.plain PySem.F.entry_bexc_ga ?_)
 refine @PySem.W.check_slot (model P w) _ _ {s with toks:=s.toks + 1} "BaseException.__getattribute__" "BaseException" "__getattribute__" (.ref x) [.str name s.toks] [] _ (by decide +kernel) (by decide +kernel) sub (PySem.F.args_bexc_ga (.ref x) (.str name s.toks)) ?_
 refine wpAny_bind (wpAny_pure (wpAny_bind (wpAny_pure (wpAny_bind (ht _ _ _ _ (fun _ _ e=>e) (wpAny_bind (lf _ _ _ _ (fun _ _ e=>e) (wpAny_pure ?_))))))))
 show wpAny _ _ (handedOut v) _ _ _
 rw[PySem.W.handedOut_of hh]
 exact wpAny_pure h
end
section
variable {P:Program} {w:World} {A:Around} {E:Value->Shared->Prop} {h:Heap} {g:Array GenState} {d:Drawn} {t:Nat} {os:OsState}
variable {nm q:Str} {C N e t0:Addr} {bs bm bB:List Value} {hd ab:Bool} {sn:List Str} {sub:List Value} {col:Option Bool} {dd:Option Addr} {k0 k1 k2 k3 k5:Option Value} {B nid iid:String} {u:Value}
theorem init_call(F:ExcBaseFacts B nid iid bB)(TT:OwnTail h bB bm){Q:Value->Shared->Prop}(hC:h.get? C=some (excClassObj nm q C N bs bm hd sn sub ab col dd k0 k1 k2 k3 k5 nid))(he:h.get? e=some (excObj C (.ref t0) none))
  (hq:∀h',h'.get? e=some (excObj C (.ref h.objs.size) none)->(∀b o,b≠e->h.get? b=some o->h'.get? b=some o)->Q .none ⟨h',g,d,t,os⟩) :
  wpAny (model P w) A (call (.builtin iid) [.ref e,u]) Q E ⟨h,g,d,t,os⟩:=by
 refine wpAny_call (codeAny_call_builtin F.init.plain F.initEntry (wpAny_check_init_subU F TT hC he rfl ?_))
 wp_walk
 have e1:(h.push {cls:=.type "tuple", data:=.seq #[u]}).get? e=some (excObj C (.ref t0) none):=Heap.get?_push_of_some _ he
 refine hq _ (Heap.get?_update_self _ e1 rfl) fun b o n z=>?_
 exact(Heap.get?_update_other _ _ (Ne.symm n)).trans (Heap.get?_push_of_some _ z)
end
section
variable {X:Cx} {pins:List (Addr×Obj)} {σ:St} {H H':Hp} {s s':Shared} {e:Addr} {oe:Obj}
abbrev opCx(X:Cx)(e:Addr):Cx:={X with ex:=[e],xe:=fun _ _=>False}
theorem Inv.openE(I:Inv X [] σ H s)(hex:X.ex=[])(hpn:X.pn=[])(hfn:∀x,X.fn x=true)(h0:X.s₀.heap.get? e=some oe)(hs:s.heap.get? e=some oe)(hb:X.base.get? e=none)(hH:H e=none)(hfs:e∉X.fs)
  (hdc:∀v,oe.data ≠ .cell v):Inv (opCx X e) [(e,oe)] σ H s:=by
 have lt:=Heap.lt_size h0
 have nl:e≠X.env.locals:=Nat.ne_of_lt (Nat.lt_of_lt_of_le lt I.ok.above)
 have nx:∀b:Addr,b∉X.ex:=fun b=>by rw[hex];simp
 have ok:=I.ok
 refine⟨⟨ok.mod,ok.kind,ok.glob,ok.blt,ok.above,ok.inj,ok.has,ok.cab,ok.hd,ok.frames,ok.stk,fun b z=>?_,ok.bs,ok.bsz,fun b o q z=>?_,fun b z=>?_,ok.funs,ok.frf⟩,I.os,I.bare,
  ⟨fun b o q n hf _=>I.base.keep b o q n hf (nx b),fun b o q n hf _=>I.base.slot b o q n hf (nx b),fun b o q n _=>I.base.free b o q n (nx b),fun b o q _=>I.base.there b o q (nx b),I.base.tups,I.base.frzs,I.base.tbls⟩,
  I.loc,I.cell,I.free,I.freeC,fun p z=>?_,I.hok,I.len⟩
 ·obtain rfl:b=e:=List.mem_singleton.mp z
  exact⟨nl,fun x c q z=>by subst z;exact absurd (Nat.lt_of_lt_of_le lt (ok.cab x c (hfn x) q)) (Nat.lt_irrefl _)⟩
 ·obtain rfl:b=e:=List.mem_singleton.mp z
  rw[hb]at q
  cases q
 ·obtain rfl:b=e:=List.mem_singleton.mp z
  exact hfs
 ·have z:p∈X.pn++[(e,oe)]:=z
  rw[hpn,List.nil_append,List.mem_singleton]at z
  subst z
  exact⟨hs,hH,nl,hfs,hdc⟩
theorem Inv.made{C:Value}{us:List Value}{h1:Heap}(I:Inv X pins σ H s)(mk:Heap.MadeExcOf s.heap h1 e C us)(hl:s.heap.objs.size<=e)(ho:s'.os=s.os)(u:Un (frs X.stack) [e] H H' h1 s'.heap)(hok:HOk X.prog X.w H' s'.heap)(hg:AllBare s'.gens):Inv X pins σ H' s':=by
 have I1:Inv X pins σ H {s with heap:=h1,toks:=s.toks}:=I.kept mk.keeps
 refine I1.call' (ch:=[e]) ho u hok hg fun b z=>?_
 obtain rfl:b=e:=List.mem_singleton.mp z
 refine⟨.inr (Nat.le_trans I.sz hl),fun q=>?_,fun x c q z=>?_,fun p hp z=>?_⟩
 ·have:=I.lt
  rw[← q]at this
  exact absurd (Nat.lt_of_lt_of_le this hl) (Nat.lt_irrefl _)
 ·obtain⟨v,o,e1,_⟩:=I.cell x c q
  subst z
  exact absurd (Nat.lt_of_lt_of_le (Heap.lt_size e1) hl) (Nat.lt_irrefl _)
 ·have:=(I.pin p hp).1
  rw[z]at this
  exact absurd (Nat.lt_of_lt_of_le (Heap.lt_size this) hl) (Nat.lt_irrefl _)
end
section
theorem run_open{CX:CXT}{P:Program}{w:World}{K:PySem.W.Frag}{mg:Str->Option Value}{base:Heap}{k:Nat}{f e:Addr}{name qual:Str}{params:Arguments}{body:List Stmt}{scope:Scope}{dV kV doc pm cdv ct oc:Value}{an od:Option Addr}
  {osl:Array (Option Value)} {N ps:List Str} {A:Around} {outer:List Env} {s:Shared} {H:Hp} {args:Args} {us:List Value} {vs:List V} {E:XK} {oe:Obj} {R:Result->Shared->Prop}
  (lk:K.lookup f=some ⟨oc,od,.func (PySem.W.fnOf name qual params body scope dV kV doc pm an cdv ct),osl⟩) (hcd:PySem.W.codeIn K cdv qual=true) (S:FnScope N ps scope) (hr:Room (k + 1) A) (e0:Env0 P w K mg base A outer s H)
  (hb:BindsTo s (PySem.W.fnOf name qual params body scope dV kV doc pm an cdv ct) args (ps.zip us)) (r:Vals vs us) (hl:vs.length=ps.length) (he:s.heap.get? e=some oe) (hbe:base.get? e=none) (hHe:H e=none) (hfe:e∉frs outer) (hdc:∀v,oe.data ≠ .cell v)
  (hbody:∀s1,Inv (opCx (cxOf CX P w K mg base N qual scope f cdv A outer s H E) e) [(e,oe)] (start N vs) H s1 →
   wpAny (model P w) (A.deeper (envOfC qual scope s.heap.objs.size f cdv)) (execs body (envOfC qual scope s.heap.objs.size f cdv)) (fun fl s'=>fl=.next/\R (.ok (.ret .none)) s') (fun _ _=>False) s1) :
  codeAny (model P w) A (.call (.ref f) args) R s:=by
 have KX:K.In s.heap:=e0.mod.kin.keeps fun b o z=>(e0.bs b o z).1
 have lim:s.heap.NoLimit:=e0.mod.nolimit.keeps fun b o z=>(e0.bs b o z).1
 refine codeAny_call_function hr.depth (KX _ _ lk) rfl S.co S.gen rfl (PySem.W.codeRec_of KX hcd) (hb _ _ _ _ ?_)
 refine wpAny_newFunctionEnv_cells S.kind ?_ fun env hE s1 x=>?_
 ·rintro ⟨n,v⟩ hy
  rcases S.par n (List.of_mem_zip hy).1 with q|q
  ·exact .inl q
  ·exact .inr ⟨q,PySem.W.cellsFrom_some _ _ _ (.inl q)⟩
 subst hE
 refine⟨lim.keeps x.toInCall.keep,codeAny_func ?_⟩
 have I:Inv (cxOf CX P w K mg base N qual scope f cdv A outer s H E) [] (start N vs) H s1:=inv_start S hr.hd e0 hl r x
 have J:=Inv.openE (e:=e) I rfl rfl (fun _=>rfl) he (x.toInCall.keep _ _ he) hbe hHe hfe hdc
 refine wpAny_mono (hbody s1 J) (fun fl s' z=>?_) fun _ _ z=>z.elim
 obtain⟨rfl,z⟩:=z
 exact z
end
def txtV:V->Str
 | .int i=>Str.ofString (toString i)
 | .non => "None"
 | .str x=>reprText x
 | _=>Str.empty
def Says:V->Prop
 | .int i=>i.natAbs.log2 < 1920
 | .non=>True
 | .str x=>(reprText x).length<=sizeLine
 | _=>False
section
variable {P:Program} {w:World} {A:Around} {E:Value->Shared->Prop} {s:Shared} {env:Env} {value:Expr} {m:Str} {i:Int} {v:V} {j:Nat} {p1 p3 pos:Pos} {Q:Value->Shared->Prop}
theorem repr_any{u:Value}(sv:Says v)(r:RelV v u)(h:∀t tk,Q (.str (txtV v) t) {s with toks:=tk}):wpAny (model P w) A (pyReprObj u) Q E s:=by
 cases v with
 | int i =>
  obtain⟨t,rfl⟩:=r
  exact wpAny_pyReprObj_gives (hx:=int_text_fits sv) (typeIs_int _ i t) PySem.F.slot_int_repr PySem.F.entry_int_repr (PySem.F.args_int_repr_1 _) (gives_int_repr i t sv) (h _ _)
 | non =>
  obtain rfl:u=.none:=r
  exact wpAny_pyReprObj_gives (typeIs_none s) PySem.F.slot_NoneType_repr PySem.F.entry_NoneType_repr (PySem.F.args_NoneType_repr_1 _) gives_none_repr (h _ _) (hx:=by decide)
 | str x =>
  obtain⟨t,rfl⟩:=r
  exact wpAny_pyReprObj_gives (typeIs_str s x t) PySem.F.slot_str_repr PySem.F.entry_str_repr (PySem.F.args_str_repr_1 _) (gives_str_repr x t) (h _ _) (hx:=sv)
 | _=>exact sv.elim
theorem txt_fits(sv:Says v):(txtV v).length<=sizeLine:=by
 cases v with
 | int i=>exact int_text_fits sv
 | non=>exact by decide
 | str x=>exact sv
 | _=>exact sv.elim
theorem fstr_any(sv:Says v)(h1:(Str.empty++m).length<=sizeLine)(h2:(Str.empty++m++txtV v).length<=sizeLine)
  (hv:∀tk,wpAny (model P w) A (eval value env) (fun u s1=>RelV v u/\∀y t' tk,Q (.str y t') {s1 with toks:=tk}) E {s with toks:=tk}) :
  wpAny (model P w) A (eval (.JoinedStr [.Constant (.str m) j p1,.FormattedValue value 114 none p3] pos) env) Q E s:=by
 refine wpAny_JoinedStr ?_
 show wpAny _ _ (eval (.Constant (.str m) j p1) env) _ E s
 refine wpAny_Constant_str ⟨m,_,rfl,h1,?_⟩
 show wpAny _ _ (eval (.FormattedValue value 114 none p3) env) _ E _
 refine wpAny_FormattedValue_repr (wpAny_mono (hv _) (fun u s1 z=>?_) fun _ _ z=>z)
 obtain⟨r,z⟩:=z
 refine repr_any sv r fun t tk=>?_
 refine wpAny_formatField_str (hx:=txt_fits sv) ⟨_,_,rfl,h2,?_⟩ ⟨_,_,rfl,h2,?_⟩
 ·exact⟨h2,z _ _ _⟩
 ·exact⟨h2,z _ _ _⟩
end
section
variable {X:Cx} {σ:St} {H:Hp} {s:Shared} {e C:Addr} {a0:Value} {cd:ClassData} {rs:List Addr}
theorem Inv.wrote{oe:Obj}{h':Heap}{t':Nat}(I:Inv X [(e,oe)] σ H s)(hX:e∈X.ex)(hpn:X.pn=[])(k:∀b o,b≠e->s.heap.get? b=some o->h'.get? b=some o)(ke:∃o,h'.get? e=some o):Inv X [] σ H {s with heap:=h',toks:=t' }:=by
 have I0:Inv X [] σ H s:=⟨I.ok,I.os,I.bare,I.base,I.loc,I.cell,I.free,I.freeC,fun p z=>I.pin p (by rw[List.append_nil]at z;exact List.mem_append_left _ z),I.hok,I.len⟩
 have P:=I.pin (e,oe) (List.mem_append_right _ (List.mem_singleton.mpr rfl))
 have ne:∀b o,H b=some o->b≠e:=by
  rintro b o q rfl
  have:=P.2.1
  rw[q]at this
  cases this
 refine I0.call' (s':={s with heap:=h',toks:=t' }) (ch:=[e]) rfl ⟨fun b o q n hf hx=>k b o (by simpa using hx) q,fun b o q n hf hx=>⟨o.slots,k b o (by simpa using hx) q⟩,fun b o q n hx=>n,fun b o q hx=>⟨o,k b o (by simpa using hx) q⟩,fun _ _ q=>q,fun _ _ _ q=>q,fun b ps q=>⟨#[],by simpa using q⟩⟩
  (hok_objs I.hok fun b o u hb q=>k b u (ne b o hb) q) I.bare fun b z=>?_
 obtain rfl:b=e:=List.mem_singleton.mp z
 refine⟨.inl hX,P.2.2.1,fun x c q=>(I.ok.exf b hX).2 x c q,fun p hp z=>?_⟩
 rw[hpn]at hp
 cases hp
theorem init_set{f x self:Str}{v:V}{p1 p2 p3 pos:Pos}{Q:Flow->Shared->Prop}(hX:e∈X.ex)(hpn:X.pn=[])(I:Inv X [(e,excObj C a0 none)] σ H s){i j:Nat}(n0:X.N[i]?=some self)(v0:Vis X.env.scope self)(s0:σ[i]?=some (some (.ref e)))
  (n1:X.N[j]?=some x) (v1:Vis X.env.scope x) (s1:σ[j]?=some (some v)) (hs:PySem.W.findIn X.K (.ref C) "__setattr__" = some (some (.builtin "object.__setattr__")))
  (hna:PySem.W.findIn X.K (.ref C) f=some none) (hc:PySem.W.clsIn X.K C=some cd) (hm:cd.mro=rs.map Value.ref++mroVE) (hh:cd.hasDict=true)
  (h:∀u s' d,RelV v u->X.s₀.heap.objs.size<=d->s'.heap.get? e=some (excObj C a0 (some d))->s'.heap.Ns1 d (fun y=>if y=f then some u else none)->Inv X [] σ H s'->Q .next s')
  (d0:(self==("__debug__" : Str))=false:=by decide) (c0:(self==("__classdict__" : Str))=false:=by decide) (d1:(x==("__debug__" : Str))=false:=by decide) (c1:(x==("__classdict__" : Str))=false:=by decide)
  (sw:swapsWith (.Name x p3) (some (.Attribute (.Name self p1) f p2)) pos.line X.env=pure false:=by rfl) :
  wpAny (model X.prog X.w) X.A (exec (.Assign [.Attribute (.Name self p1) f p2] (.Name x p3) pos) X.env) Q X.xe s:=by
 refine plainObj_wpAny_Assign_Attribute (thn (pe_var n1 v1 d1 c1 _ s σ H (fun y H1=>y=v/\H1=H) I ⟨v,s1,rfl,rfl⟩) fun u t1 ⟨_,_,I1,r1,e1,e2⟩=>?_) sw
 subst e1 e2
 refine thn (pe_var n0 v0 d0 c0 _ t1 σ _ (fun y H1=>y=.ref e/\H1=_) I1 ⟨_,s0,rfl,rfl⟩) fun ov t2 ⟨_,_,I2,r2,e1,e2⟩=>?_
 subst e1 e2
 obtain rfl:ov=.ref e:=r2
 have he:=(I2.pin (e,_) (List.mem_append_right _ (List.mem_singleton.mpr rfl))).1
 refine set_exc I2.kIn he hs hna hc hm hh fun h' t' q1 q2 q3=>h u _ _ r1 ?_ q1 q2 (TL.Inv.wrote I2 hX hpn q3 ⟨_,q1⟩)
 exact I2.sz
end
section
variable {X:Cx} {σ:St} {H:Hp} {s:Shared} {e C CY:Addr} {mc:Value} {t0:Addr}
def tFs(m:Str)(j:Nat):TE:=fun σ H Q=>∃v:V,σ[j]?=some (some v)/\Says v/\(Str.empty++m).length<=sizeLine/\(Str.empty++m++txtV v).length<=sizeLine/\∀y,Q (.str y) H
theorem pe_fstr{x m:Str}{j k:Nat}{p1 p2 p3 pos:Pos}(n1:X.N[j]?=some x)(v1:Vis X.env.scope x) (d1:(x==("__debug__" : Str))=false:=by decide) (c1:(x==("__classdict__" : Str))=false:=by decide) :
  PE X (.JoinedStr [.Constant (.str m) k p1,.FormattedValue (.Name x p2) 114 none p3] pos) (tFs m j):=by
 intro pins s σ H Q I ⟨v,hs,hi,h1,h2,q⟩
 refine fstr_any hi h1 h2 fun tk=>thn (pe_var n1 v1 d1 c1 pins _ σ H (fun y H1=>y=v/\H1=H) (I.tok tk) ⟨_,hs,rfl,rfl⟩) fun u s1 ⟨_,_,I1,r1,e1,e2⟩=>?_
 subst e1 e2
 exact⟨r1,fun y t' tk=>⟨.str y,_,I1.tok tk,⟨_,rfl⟩,q y⟩⟩
variable {nm q:Str} {N:Addr} {bs bm bB:List Value} {hd ab:Bool} {sn:List Str} {sub:List Value} {col:Option Bool} {dd:Option Addr} {k0 k1 k2 k3 k5:Option Value} {B nid iid:String}
theorem init_up{y x m self:Str}{i j k:Nat}{v:V}{pl:Sem Bool}{p1 p2 p3 p4 p5 p6 p7 p8 p9:Pos}{Q:Flow->Shared->Prop}(F:ExcBaseFacts B nid iid bB)(hC:X.base.get? C=some (excClassObj nm q C N bs bm hd sn sub ab col dd k0 k1 k2 k3 k5 nid))(TT:OwnTail X.base bB bm)
  (hX:e∈X.ex) (hpn:X.pn=[]) (I:Inv X [(e,excObj C (.ref t0) none)] σ H s) (hg:Gl X y) (hmg:X.mg y=some (.ref CY)) (n0:X.N[i]?=some self) (v0:Vis X.env.scope self) (s0:σ[i]?=some (some (.ref e)))
  (n1:X.N[j]?=some x) (v1:Vis X.env.scope x) (s1:σ[j]?=some (some v)) (hz:Says v) (l1:(Str.empty++m).length<=sizeLine) (l2:(Str.empty++m++txtV v).length<=sizeLine)
  (hsp:PySem.W.specialIn X.K (.ref CY) "__getattribute__" = some (some (.builtin "type.__getattribute__"))) (hrd:PySem.W.readsIn X.K CY mc=true) (hfc:PySem.W.findCls X.K (.ref CY) mc "__init__" = some (.val (.builtin iid))) (hhi:PySem.W.handedIn (.builtin iid)=true)
  (h:∀s' t1,Inv X [(e,excObj C (.ref t1) none)] σ H s'->Q .next s')
  (dy:(y==("__debug__" : Str))=false:=by decide) (d0:(self==("__debug__" : Str))=false:=by decide) (c0:(self==("__classdict__" : Str))=false:=by decide) (d1:(x==("__debug__" : Str))=false:=by decide) (c1:(x==("__classdict__" : Str))=false:=by decide)
  (ht:eval (.Call (.Attribute (.Name y p1) "__init__" p2) [.Name self p3,.JoinedStr [.Constant (.str m) k p4,.FormattedValue (.Name x p5) 114 none p6] p7] [] p8) X.env=(do
   let ov ← eval (.Name y p1) X.env
   standAt p2.atName
   let (f,first) ← holding [ov] (getMethod ov "__init__" pl)
   callWith p8 f first (backTo p8 (starEach [.Name self p3,.JoinedStr [.Constant (.str m) k p4,.FormattedValue (.Name x p5) 114 none p6] p7] X.env)) (backToKw p8 (keywordEach [] X.env))):=by rfl) :
  wpAny (model X.prog X.w) X.A (exec (.Expr (.Call (.Attribute (.Name y p1) "__init__" p2) [.Name self p3,.JoinedStr [.Constant (.str m) k p4,.FormattedValue (.Name x p5) 114 none p6] p7] [] p8) p9) X.env) Q X.xe s:=by
 have pa:PA X [.Name self p3,.JoinedStr [.Constant (.str m) k p4,.FormattedValue (.Name x p5) 114 none p6] p7] (tCons (tVar i) (tCons (tFs m j) tNil)):=pa_cons (pe_var n0 v0 d0 c0) (pa_cons (pe_fstr n1 v1 d1 c1) pa_nil (star1 rfl)) (star1 rfl)
 refine wpAny_Expr_any ?_ I.quiet (by rfl)
 refine PySem.W.methodCall_KW (pl:=pl) (ld_glob I hg hmg ?_ dy) ht
 refine PySem.W.method_cls I.kIn hsp (PySem.W.cls_value I.kIn hrd hfc hhi ?_)
 refine PyProof.Rows.callWith_builtin1 (thn (pa p8 _ _ σ H (fun vs H1=>∃w,vs=[.ref e,.str w]/\H1=H) (I.tok _) ⟨_,s0,v,s1,hz,l1,l2,fun w=>⟨w,rfl,rfl⟩⟩) fun us s2 ⟨vs,H1,I2,r,w,e1,e2⟩=>?_) (star1 rfl) (stars rfl)
 subst e1 e2
 obtain⟨u,u',rfl,r1,r2⟩:=vals2 r
 obtain rfl:u=.ref e:=r1
 have he:=(I2.pin (e,_) (List.mem_append_right _ (List.mem_singleton.mpr rfl))).1
 obtain⟨hp,g,d,tk,os⟩:=s2
 refine init_call F (TT.keeps I2.bk) (I2.bk _ _ hC) he fun h' q1 q2=>h _ hp.objs.size ?_
 have J:=TL.Inv.wrote (t':=tk) I2 hX hpn q2 ⟨_,q1⟩
 have P:=I2.pin (e,_) (List.mem_append_right _ (List.mem_singleton.mpr rfl))
 refine⟨J.ok,J.os,J.bare,J.base,J.loc,J.cell,J.free,J.freeC,fun p z=>?_,J.hok,J.len⟩
 rw[hpn,List.nil_append,List.mem_singleton]at z
 subst z
 exact⟨q1,P.2.1,P.2.2.1,P.2.2.2.1,fun v z=>by cases z⟩
end
section
variable {Y:Cx} {pins:List (Addr×Obj)} {σ:St} {H:Hp} {s:Shared} {e C CY fI:Addr} {mc:Value} {cd:ClassData} {rs:List Addr}
variable {nm q:Str} {N:Addr} {bs bm bB:List Value} {hd ab:Bool} {sn:List Str} {sub:List Value} {col:Option Bool} {dd:Option Addr} {k0 k1 k2 k3 k5:Option Value} {B nid iid:String}
theorem init_run{name qual:Str}{params:Arguments}{scope:Scope}{dV kV doc pm cdv ct oc:Value}{an od:Option Addr}{osl:Array (Option Value)}{y f m self x:Str}{pl:Env->Sem Bool}{p1 p2 p3 p4 p5 p6 p7 p8 p9 r1 r2 r3 r4:Pos}{k j:Nat}{v:V}{u:Value}{h1:Heap}{A:Around}{E:Value->Shared->Prop}{Q:Value->Shared->Prop}
  (I:Inv Y pins σ H s) (mk:Heap.MadeExcOf s.heap h1 e (.ref C) [u]) (hle:s.heap.objs.size<=e) (hz:RelV v u) (zz:Says v)
  (lk:Y.K.lookup fI=some ⟨oc,od,.func (PySem.W.fnOf name qual params
   [.Expr (.Call (.Attribute (.Name y p1) "__init__" p2) [.Name self p3,.JoinedStr [.Constant (.str m) k p4,.FormattedValue (.Name x p5) 114 none p6] p7] [] p8) p9,.Assign [.Attribute (.Name self r1) f r2] (.Name x r3) r4] scope dV kV doc pm an cdv ct),osl⟩)
  (hcd:PySem.W.codeIn Y.K cdv qual=true) (S:FnScope [self,x] [self,x] scope) (v0:Vis scope self) (v1:Vis scope x) (hg:scope.names.lookup y=some .globalImplicit) (hr:Room (j + 1) A) (hA:Env0 Y.prog Y.w Y.K Y.mg Y.base A Y.stack {s with heap:=h1} H)
  (F:ExcBaseFacts B nid iid bB) (hC:Y.base.get? C=some (excClassObj nm q C N bs bm hd sn sub ab col dd k0 k1 k2 k3 k5 nid)) (TT:OwnTail Y.base bB bm) (hmg:Y.mg y=some (.ref CY))
  (l1:(Str.empty++m).length<=sizeLine) (l2:(Str.empty++m++txtV v).length<=sizeLine)
  (hsp:PySem.W.specialIn Y.K (.ref CY) "__getattribute__" = some (some (.builtin "type.__getattribute__"))) (hrd:PySem.W.readsIn Y.K CY mc=true) (hfc:PySem.W.findCls Y.K (.ref CY) mc "__init__" = some (.val (.builtin iid))) (hhi:PySem.W.handedIn (.builtin iid)=true)
  (hs:PySem.W.findIn Y.K (.ref C) "__setattr__" = some (some (.builtin "object.__setattr__"))) (hna:PySem.W.findIn Y.K (.ref C) f=some none) (hc:PySem.W.clsIn Y.K C=some cd) (hm:cd.mro=rs.map Value.ref++mroVE) (hh:cd.hasDict=true)
  (hb:BindsTo {s with heap:=h1} (PySem.W.fnOf name qual params
   [.Expr (.Call (.Attribute (.Name y p1) "__init__" p2) [.Name self p3,.JoinedStr [.Constant (.str m) k p4,.FormattedValue (.Name x p5) 114 none p6] p7] [] p8) p9,.Assign [.Attribute (.Name self r1) f r2] (.Name x r3) r4] scope dV kV doc pm an cdv ct) ⟨[.ref e,u],[]⟩ ([self,x].zip [.ref e,u]))
  (h:∀s' t1 d u',RelV v u'->s.heap.objs.size<=d->s'.heap.get? e=some (excObj C (.ref t1) (some d))->s'.heap.Ns1 d (fun a=>if a=f then some u' else none)->Inv Y pins σ H s'->Q .none s')
  (dy:(y==("__debug__" : Str))=false:=by decide) (d0:(self==("__debug__" : Str))=false:=by decide) (c0:(self==("__classdict__" : Str))=false:=by decide) (d1:(x==("__debug__" : Str))=false:=by decide) (c1:(x==("__classdict__" : Str))=false:=by decide)
  (ht:∀env:Env,eval (.Call (.Attribute (.Name y p1) "__init__" p2) [.Name self p3,.JoinedStr [.Constant (.str m) k p4,.FormattedValue (.Name x p5) 114 none p6] p7] [] p8) env=(do
   let ov ← eval (.Name y p1) env
   standAt p2.atName
   let (f,first) ← holding [ov] (getMethod ov "__init__" (pl env))
   callWith p8 f first (backTo p8 (starEach [.Name self p3,.JoinedStr [.Constant (.str m) k p4,.FormattedValue (.Name x p5) 114 none p6] p7] env)) (backToKw p8 (keywordEach [] env))):=by intro _;rfl)
  (sw:∀env:Env,swapsWith (.Name x r3) (some (.Attribute (.Name self r1) f r2)) r4.line env=pure false:=by intro _;rfl) :
  wpAny (model Y.prog Y.w) A (call (.ref fI) [.ref e,u]) Q E {s with heap:=h1}:=by
 obtain⟨t0,he,_,_⟩:=mk.there
 have nb:Y.base.get? e=none:=by
  cases w:Y.base.get? e with
  | none=>rfl
  | some o =>
   have:=I.bk e o w
   rw[mk.new]at this
   cases this
 have nH:H e=none:=by
  cases w:H e with
  | none=>rfl
  | some o =>
   obtain⟨b,hb⟩:=objOk_some (I.hok e o w)
   rw[mk.new]at hb
   cases hb
 have nf:e∉frs Y.stack:=fun w=>by
  obtain⟨_,o,q,_⟩:=I.stack.mem w
  rw[mk.new]at q
  cases q
 refine wpAny_call (run_open (CX:=fun _ _ _ _ _ _=>False) (E:=fun _ _ _=>False) lk hcd S hr hA hb (vs:=[.ref e,v]) (.cons rfl (.cons hz .nil)) rfl he nb nH nf (fun v w=>by cases w) fun s1 J=>?_)
 refine wpAny_execs_cons (init_up (X:=opCx (cxOf (fun _ _ _ _ _ _=>False) Y.prog Y.w Y.K Y.mg Y.base [self,x] qual scope fI cdv A Y.stack {s with heap:=h1} H fun _ _ _=>False) e) (t0:=t0) (pl:=pl _) F hC TT (List.mem_singleton.mpr rfl) rfl J (i:=0) (j:=1) hg hmg rfl v0 rfl rfl v1 rfl zz l1 l2 hsp hrd hfc hhi (fun s2 t1 J2=>?_) dy d0 c0 d1 c1 (ht _))
 refine wpAny_execs_cons (init_set (X:=opCx (cxOf (fun _ _ _ _ _ _=>False) Y.prog Y.w Y.K Y.mg Y.base [self,x] qual scope fI cdv A Y.stack {s with heap:=h1} H fun _ _ _=>False) e) (List.mem_singleton.mpr rfl) rfl J2 (i:=0) (j:=1) rfl v0 rfl rfl v1 rfl hs hna hc hm hh (fun u' s3 d ru ld q1 q2 J3=>?_) d0 c0 d1 c1 (sw _))
 refine wpAny_execs_nil ⟨rfl,?_⟩
 refine h s3 t1 d u' ru ?_ q1 q2 (TL.Inv.made I mk hle J3.os J3.base J3.hok J3.bare)
 exact Nat.le_trans hle (Nat.le_trans (Nat.le_of_lt (Heap.lt_size he)) ld)
end
section
variable {X:Cx} {pins:List (Addr×Obj)} {σ:St} {H:Hp} {s:Shared} {C fI N:Addr}
variable {nm q:Str} {bs bm bB:List Value} {hd ab:Bool} {sn:List Str} {sub:List Value} {col:Option Bool} {dd:Option Addr} {k0 k1 k2 k3 k5:Option Value} {B nid iid:String} {mN:Str->Option Value} {oI:Obj}
theorem raise_at{c:Str}{ea:Expr}{ta:TE}{np cpos pos:Pos}{Q:Flow->Shared->Prop}{P:V->Hp->Prop}(F:ExcBaseFacts B nid iid bB)(hB:bB.contains (.type B)=true) (hbE:bm.contains (.type "BaseException")=true)
  (hC:X.base.get? C=some (excClassObj nm q C N bs bm hd sn sub ab col dd k0 k1 k2 k3 k5 nid)) (hN:X.base.Ns N mN) (hi:mN "__init__" = some (.ref fI)) (hf:X.base.get? fI=some oI) (hcl:oI.cls=.type "function") (TT:OwnTail X.base bB bm)
  (I:Inv X pins σ H s) (hca:X.calm=true) (hg:Gl X c) (hmg:X.mg c=some (.ref C)) (pa1:PE X ea ta) (hs1:starEach [ea] X.env=(false,eval ea X.env)::starEach [] X.env) (hsp:(backTo cpos (starEach [ea] X.env)).any (·.1)=false) (ht:ta σ H P)
  (h:∀s2 v u h' e H2,Inv X pins σ H2 s2->P v H2->RelV v u->Heap.MadeExcOf s2.heap h' e (.ref C) [u]->s2.heap.objs.size<=e->wpAny (model X.prog X.w) (X.A.under (.builtin "type.__call__" ⟨[.ref C,u],[]⟩)) (call (.ref fI) [.ref e,u])
   (fun r s'=>r=.none/\(∃t1 d,s'.heap.get? e=some (excObj C (.ref t1) (some d)))/\Inv X pins σ H2 s'/\X.xe (.ref e) s') X.xe {s2 with heap:=h' })
  (dc:(c==("__debug__" : Str))=false:=by decide) :
  wpAny (model X.prog X.w) X.A (exec (.Raise (some (.Call (.Name c np) [ea] [] cpos)) none pos) X.env) Q X.xe s:=by
 refine raise_own (C:=C) (nm:=nm) (q:=q) (N:=N) (bs:=bs) (bm:=bm) (hd:=hd) (sn:=sn) (sub:=sub) (ab:=ab) (col:=col) (dd:=dd) (k0:=k0) (k1:=k1) (k2:=k2) (k3:=k3) (k5:=k5) F hB hbE (I.ok.hd hca) hsp hi hcl (ld_glob I hg hmg ⟨rfl,?_⟩ dc)
 have pa:PA X [ea] (tCons ta tNil):=pa_cons pa1 pa_nil hs1
 have y:=pa cpos pins s σ H (fun vs H1=>match vs with|[v]=>P v H1|_=>False) I ht
 rw[hs1]at y ⊢
 refine Calls.evalArgs_plain (wpAny_mono y (fun us s2 w=>?_) fun _ _ w=>w)
 obtain⟨vs,H1,I1,r,hP⟩:=w
 obtain⟨v,rfl⟩:∃v,vs=[v]:=by
  cases vs with
  | nil=>exact hP.elim
  | cons v l =>
   cases l with
   | nil=>exact⟨v,rfl⟩
   | cons _ _=>exact hP.elim
 obtain⟨u,rfl,r1⟩:=vals1 r
 refine⟨rfl,few (by simp),I1.bk _ _ hC,hN.keeps I1.bk,I1.bk _ _ hf,TT.keeps I1.bk,fun h' e mk le=>wpAny_mono (h s2 v u h' e H1 I1 hP r1 mk le) (fun a s' w=>?_) fun _ _ w=>w⟩
 obtain⟨rfl,⟨t1,d,w1⟩,J,w2⟩:=w
 exact⟨rfl,J.bk _ _ hC,⟨_,_,w1⟩,w2⟩
end
section
variable {X:Cx} {pins:List (Addr×Obj)} {σ:St} {H H':Hp} {s s':Shared} {e C t1:Addr} {dx:Option Addr}
theorem leave_firstD{M:Model}{Q:Unit->Shared->Prop}{E:Value->Shared->Prop}(D:DefCx X)(I:Inv X pins σ H s)(he:s.heap.get? e=some (excObj C (.ref t1) dx))(nH:H e=none)(n0:X.s₀.heap.get? e=none)
  (hQ:∀h2,Fly X.prog X.w X.outer X.H₀ X.s₀ H e (.ref C) {s with heap:=h2}->DAt h2 e dx->Q () {s with heap:=h2}):wpAny M X.A (leaving X.env (.ref e)) Q E s:=by
 have FF:s.heap.FunFrames X.base X.stack:=I.stack
 have fs:=frs_cons D
 have eN:e∉frs X.stack:=fun z=>by
  obtain⟨_,o,q,n⟩:=FF.mem z
  rw[he]at q
  cases q
  exact n _ rfl
 have hin:∀env∈X.stack,∀b,env.frame=some b->b∈e::frs X.stack:=fun env h b hb=>List.mem_cons_of_mem _ (List.mem_filterMap.mpr ⟨env,h,hb⟩)
 obtain⟨B,hB⟩:∃B,B=PySem.W.hideAll s.heap (e::frs X.stack):=⟨_,rfl⟩
 have FH:s.heap.FunFrames B X.stack:=by rw[hB];exact PySem.W.funFrames_hide FF hin
 have hen:B.get? e=none:=by rw[hB];exact PySem.W.hideAll_none _ (List.mem_cons_self ..)
 have sub:∀b o,B.get? b=some o->s.heap.get? b=some o:=fun b o hb=>by rw[hB]at hb;exact PySem.W.of_hideAll _ hb
 have inB:∀b o,s.heap.get? b=some o->b≠e->b≠X.env.locals->b∉frs X.outer->B.get? b=some o:=fun b o q n1 n2 n3=>by
  rw[hB]
  exact PySem.W.hideAll_get _ q (by rw[fs];intro z;rcases List.mem_cons.mp z with z|z;exact n1 z;rcases List.mem_cons.mp z with z|z;exact n2 z;exact n3 z)
 have hfr:X.A.frames=some (X.env::X.outer):=by rw[I.ok.frames,D.stk]
 rw[D.stk]at FH
 refine firstD (a0:=.ref t1) hfr FH D.frame he sub hen rfl rfl rfl fun h2 hL hD=>hQ h2 ?_ hD
 obtain⟨k1,⟨_,_,k2⟩,k3,k4⟩:=hL
 have trk:∀b o u,H b=some o->s.heap.get? b=some u->B.get? b=some u:=fun b o u hb q=>inB b u q (by rintro rfl;rw[nH]at hb;cases hb) (by rintro rfl;rw[I.free]at hb;cases hb) (fun z=>by
  have:=I.stkFree b (by rw[fs];exact List.mem_cons_of_mem _ z)
  rw[hb]at this
  cases this)
 have oldL:∀b o,X.s₀.heap.get? b=some o->b≠X.env.locals:=fun b o q z=>by
  have l1:=Heap.lt_size q
  rw[z]at l1
  exact absurd (Nat.lt_of_lt_of_le l1 I.ok.above) (Nat.lt_irrefl _)
 have oldE:∀b o,X.s₀.heap.get? b=some o->b≠e:=by
  rintro b o q rfl
  rw[n0]at q
  cases q
 have nox:∀b:Addr,b∉X.ex:=fun b=>by rw[D.ex];simp
 have frm:∀b,b∈frs X.outer->∀o,s.heap.get? b=some o->∃sl,h2.get? b=some {o with slots:=sl}:=fun b hf o q=>by
  have hb:b∈frs X.stack:=by rw[fs];exact List.mem_cons_of_mem _ hf
  obtain⟨_,ob,eb,nf⟩:=FF.mem hb
  rw[q]at eb
  cases eb
  exact k4 b _ q nf
 refine⟨I.os,I.bare,⟨fun b o q n hf _=>?_,fun b o q n hf _=>?_,fun b o q n _=>I.base.free b o q n (nox b),fun b o q _=>?_,I.base.tups,I.base.frzs,I.base.tbls⟩,hok_objs I.hok fun b o u hb q=>k1 b u (trk b o u hb q),n0,nH,B,_,⟨k1,hen,k2,k3⟩,fun b o hb=>?_,fun b u o q q2 hf=>?_⟩
 ·exact k1 b o (inB b o (I.base.keep b o q n hf (nox b)) (oldE b o q) (oldL b o q) hf)
 ·obtain⟨sl,e1⟩:=I.base.slot b o q n hf (nox b)
  obtain⟨sl2,e2⟩:=frm b hf _ e1
  exact⟨sl2,e2⟩
 ·obtain⟨o1,e1⟩:=I.base.there b o q (nox b)
  by_cases hf:b∈frs X.outer
  ·obtain⟨sl2,e2⟩:=frm b hf _ e1
   exact⟨_,e2⟩
  ·exact⟨_,k1 b o1 (inB b o1 e1 (oldE b o q) (oldL b o q) hf)⟩
 ·obtain⟨u,hu⟩:=objOk_some (I.hok b o hb)
  exact⟨u,trk b o u hb hu⟩
 ·obtain⟨o1,e1⟩:=I.base.there b u q (nox b)
  have w:=inB b o1 e1 (oldE b u q) (oldL b u q) hf
  have w2:=k1 b o1 w
  have q2':h2.get? b=some o:=q2
  rw[w2]at q2'
  cases q2'
  exact w
theorem leave_onD{M:Model}{C:Value}{Q:Unit->Shared->Prop}{E:Value->Shared->Prop}(D:DefCx X)(I:Inv X pins σ H s)(F:Fly X.prog X.w X.stack H s H' e C s')(da:DAt s'.heap e dx)
  (hQ:∀h2,Fly X.prog X.w X.outer X.H₀ X.s₀ H' e C {s' with heap:=h2}->DAt h2 e dx->Q () {s' with heap:=h2}):wpAny M X.A (leaving X.env (.ref e)) Q E s':=by
 obtain⟨B,a0,fl,tB,oB⟩:=F.fly
 have hfr:X.A.frames=some (X.env::X.outer):=by rw[I.ok.frames,D.stk]
 have fl':Heap.FlyingW B (X.env::X.outer) e C a0 s'.heap:=by rw[← D.stk];exact fl
 refine nextD hfr D.frame fl' da fun h2 fl2 up hD=>hQ h2 ?_ hD
 have fs:=frs_cons D
 have I':Inv X pins σ H' s':=I.call' (ch:=[]) F.os F.un F.hok F.bare fun b z=>absurd z (by simp)
 have nox:∀b:Addr,b∉X.ex:=fun b=>by rw[D.ex];simp
 have oldL:∀b o,X.s₀.heap.get? b=some o->b≠X.env.locals:=fun b o q z=>by
  have l1:=Heap.lt_size q
  have l2:=I.ok.above
  rw[z]at l1
  exact absurd (Nat.lt_of_lt_of_le l1 l2) (Nat.lt_irrefl _)
 have same:∀b u v,B.get? b=some u->s'.heap.get? b=some v->u=v:=fun b u v h1 h2=>by
  have:=fl.1 b u h1
  rw[h2]at this
  exact(Option.some.inj this).symm
 have inB:∀b u,X.s₀.heap.get? b=some u->b∉frs X.outer->∃o2,s'.heap.get? b=some o2/\B.get? b=some o2:=fun b u q hf=>by
  obtain⟨o1,e1⟩:=I.base.there b u q (nox b)
  obtain⟨o2,e2⟩:=F.un.there b o1 e1 (by simp)
  exact⟨o2,e2,oB b o1 o2 e1 e2 (by rw[fs];intro z;rcases List.mem_cons.mp z with z|z;exact oldL b u q z;exact hf z)⟩
 have nofld:∀b∈frs X.outer,∃ob,s'.heap.get? b=some ob/\∀vs,ob.data ≠ .fields vs:=fun b hb=>by
  have hb':b∈X.stack.filterMap (·.frame):=by
   have:=fs
   unfold frs at this
   rw[this]
   exact List.mem_cons_of_mem _ hb
  obtain⟨_,ob,eb,nf⟩:=(I'.stack).mem hb'
  exact⟨ob,eb,nf⟩
 refine⟨I'.os,I'.bare,⟨fun b o q n hf _=>?_,fun b o q n hf _=>?_,fun b o q n _=>I'.base.free b o q n (nox b),fun b o q _=>?_,I'.base.tups,I'.base.frzs,I'.base.tbls⟩,hok_objs F.hok fun b o u hb q=>?_,?_,F.non,B,a0,fl2,tB,fun b u o q q2 hf=>?_⟩
 ·obtain⟨o2,e2,eB⟩:=inB b o q hf
  have:=I'.base.keep b o q n hf (nox b)
  rw[e2]at this
  cases this
  exact fl2.1 b _ eB
 ·obtain⟨sl,e1⟩:=I'.base.slot b o q n hf (nox b)
  obtain⟨ob,eb,nf⟩:=nofld b hf
  rw[e1]at eb
  cases eb
  obtain⟨sl2,e2⟩:=up b _ e1 nf
  exact⟨sl2,e2⟩
 ·obtain⟨o1,e1⟩:=I'.base.there b o q (nox b)
  by_cases hf:b∈frs X.outer
  ·obtain⟨ob,eb,nf⟩:=nofld b hf
   rw[e1]at eb
   cases eb
   obtain⟨sl2,e2⟩:=up b _ e1 nf
   exact⟨_,e2⟩
  ·obtain⟨o2,_,eB⟩:=inB b o q hf
   exact⟨o2,fl2.1 b o2 eB⟩
 ·obtain⟨v,hv⟩:=tB b o hb
  have:=same b v u hv q
  subst this
  exact fl2.1 b v hv
 ·cases q:X.s₀.heap.get? e with
  | none=>rfl
  | some o =>
   obtain⟨o1,e1⟩:=I.base.there e o q (nox e)
   rw[F.new]at e1
   cases e1
 ·obtain⟨o2,e2,eB⟩:=inB b u q hf
  have z2:=fl2.1 b o2 eB
  have q2':h2.get? b=some o:=q2
  rw[z2]at q2'
  cases q2'
  exact eB
end
end TL
end
section
namespace TL
open PySem PySem.Spec PyProof.Rows L2
abbrev SpX:=(T->Prop)->SpT
abbrev RF:T->Prop:=fun _=>False
abbrev clsAt(K:PySem.W.Frag)(c:Str)(C:Addr):Prop:=PySem.W.nsIn K mainGlobals c=some (some (.ref C))
def wishF(K:PySem.W.Frag)(R:T->Prop)(C:Addr)(dx:Option Addr)(H:Hp):Prop:=∃c,clsAt K c C ∧
 match dx with
 | none=>R (.exc c)
 | some d=>∃f t od u y,H d=some (kn od)/\PySem.W.lookIn f od=some (some u)/\RelV y u/\Rep K H t y/\R (.exf c f t)
def wishOf(K:PySem.W.Frag)(R:T->Prop):XK:=fun v dx H=>∃C,v=.ref C/\wishF K R C dx H
def CXE(P:Program)(w:World):CXT:=fun outer H s E e s'=>∃a C dx H',e=.ref a/\Fly P w outer H s H' a (.ref C) s'/\DAt s'.heap a dx/\Same H H'/\E (.ref C) dx H'
def spX(K:PySem.W.Frag)(n:Nat)(S:SpX):Sp:=fun vs H Q E=>∃(ts:List T) (Q0 R0:T->Prop),vs.length=n/\Reps K H ts vs/\S R0 ts Q0/\(∀t v H',Same H H'->Rep K H' t v->Q0 t->Q v H')/\∀v dx H',Same H H'->wishOf K R0 v dx H'->E v dx H'
structure FnX(P:Program)(w:World)(K:PySem.W.Frag)(mg:Str->Option Value)(base:Heap)(k:Nat)(f:Addr)(fd:FuncData)(ps:List Str)(S:SpX):Prop where
 ok:FnOk P w K mg base (CXE P w) k f fd ps (spX K ps.length S)
 len:∀R ts Q,S R ts Q->ts.length=ps.length
theorem FnX.calm{P:Program}{w:World}{K:PySem.W.Frag}{mg:Str->Option Value}{base:Heap}{k:Nat}{f:Addr}{fd:FuncData}{ps:List Str}{S:SpX}(F:FnX P w K mg base k f fd ps S):FnT P w K mg base k f fd ps (S RF):=by
 refine⟨⟨fun vs H Q E ⟨ts,Q0,e,_⟩=>e,fun A outer s H args us vs Q E hr e0 hb hv ⟨ts,Q0,e,r,hS,q⟩=>?_⟩,F.len RF⟩
 refine codeAny_mono (F.ok.run A outer s H args us vs Q (fun _ _ _=>False) hr e0 hb hv ⟨ts,Q0,RF,e,r,hS,q,fun v dx H' _ z=>?_⟩) fun res s' h=>?_
 ·obtain⟨_,_,_,_,z⟩:=z
  cases dx with
  | none=>exact z
  | some d =>
   obtain⟨_,_,_,_,_,_,_,_,_,z⟩:=z
   exact z
 ·cases res with
  | ok fl=>cases fl<;>exact h
  | error e =>
   obtain⟨_,_,_,_,_,_,_,_,z⟩:=h
   exact z.elim
def CalX(P:Program)(w:World)(K:PySem.W.Frag)(mg:Str->Option Value)(base:Heap)(k:Nat)(x:Str)(ps:List Str)(S:SpX):Prop :=
 ∃f fd,FnX P w K mg base k f fd ps S/\Binds K fd ps []/\PySem.W.keepIn K (.ref f)=true/\mg x=some (.ref f)
theorem CalX.mk{P:Program}{w:World}{K:PySem.W.Frag}{mg:Str->Option Value}{base:Heap}{k:Nat}{x qual:Str}{ps:List Str}{S:SpX}{st:Stmt}{f:Addr}{fd:FuncData}(F:Fun K x qual st f fd)(m:mg x=some (.ref f))
  (b:Binds K fd ps []) (h:FnX P w K mg base k f fd ps S):CalX P w K mg base k x ps S:=⟨f,fd,h,b,F.kp,m⟩
theorem CalX.calm{P:Program}{w:World}{K:PySem.W.Frag}{mg:Str->Option Value}{base:Heap}{k:Nat}{x:Str}{ps:List Str}{S:SpX}(C:CalX P w K mg base k x ps S):Cal P w K mg base k x ps (S RF) :=
 let ⟨f,fd,F,b,kp,m⟩:=C;⟨f,fd,F.calm,b,kp,m⟩
section
variable {X:Cx} {a b c e:Expr} {es:List Expr} {wa wb wc w:WE} {ws:WA} {pos:Pos} {st:Stmt}
theorem fresh_H{pins:List (Addr×Obj)}{σ:St}{H:Hp}{s:Shared}{a:Addr}(I:Inv X pins σ H s)(n:s.heap.get? a=none):H a=none:=by
 cases w:H a with
 | none=>rfl
 | some o =>
  obtain⟨b,hb⟩:=objOk_some (I.hok a o w)
  rw[n]at hb
  cases hb
theorem fresh_0{pins:List (Addr×Obj)}{σ:St}{H:Hp}{s:Shared}{a:Addr}(I:Inv X pins σ H s)(ex:X.ex=[])(n:s.heap.get? a=none):X.s₀.heap.get? a=none:=by
 cases w:X.s₀.heap.get? a with
 | none=>rfl
 | some o =>
  obtain⟨b,hb⟩:=I.base.there a o w (by rw[ex];simp)
  rw[n]at hb
  cases hb
structure Takes(X:Cx)(R:T->Prop):Prop where
 ex:X.ex=[]
 on:∀(pins:List (Addr×Obj))(σ:St)(H H':Hp)(s s':Shared)(a C:Addr)(dx:Option Addr),Inv X pins σ H s->Same X.H₀ H->Fly X.prog X.w X.stack H s H' a (.ref C) s'->DAt s'.heap a dx->Same H H'->wishF X.K R C dx H'->X.xe (.ref a) s'
 new:∀(pins:List (Addr×Obj))(σ:St)(H:Hp)(s:Shared)(a C t1:Addr)(dx:Option Addr),Inv X pins σ H s->Same X.H₀ H->s.heap.get? a=some (excObj C (.ref t1) dx)->H a=none->X.s₀.heap.get? a=none->wishF X.K R C dx H->X.xe (.ref a) s
theorem run_at{k:Nat}{f:Addr}{fd:FuncData}{ps:List Str}{S:SpX}{pins:List (Addr×Obj)}{σ:St}{H:Hp}{s:Shared}{Q:VK}{us:List Value}{vs:List V}{ts:List T}{Q0 R0:T->Prop}{E:Value->Shared->Prop}(F:FnX X.prog X.w X.K X.mg X.base k f fd ps S)(hr:Room k X.A)(hb:Binds X.K fd ps [])
  (hx:∀a C dx H' s',Fly X.prog X.w X.stack H s H' a (.ref C) s'->DAt s'.heap a dx->Same H H'->wishF X.K R0 C dx H'->E (.ref a) s')
  (I:Inv X pins σ H s) (r:Vals vs us) (rr:Reps X.K H ts vs) (hS:S R0 ts Q0) (q:∀t v H',Same H H'->Rep X.K H' t v->Q0 t->Q v H'):wpAny (model X.prog X.w) X.A (call (.ref f) us) (EP X pins σ Q) E s:=by
 have hl:us.length=ps.length:=by rw[← r.length,rr.length];exact F.len _ _ _ hS
 have hbb:=hb s us I.kIn (by simpa using hl)
 rw[List.append_nil]at hbb
 refine wpAny_call (codeAny_mono (F.ok.run X.A X.stack s H ⟨us,[]⟩ us vs Q (wishOf X.K R0) hr I.env0 hbb r ⟨ts,Q0,R0,by rw[r.length];exact hl,rr,hS,q,fun v dx H' _ z=>z⟩) fun res s' h=>?_)
 cases res with
 | error e =>
  obtain⟨a,C,dx,H',rfl,fl,da,S1,C',e1,h1⟩:=h
  cases e1
  exact hx a C dx H' s' fl da S1 h1
 | ok fl =>
  cases fl with
  | ret u=>exact I.after h
  | next=>exact False.elim h
  | brk=>exact False.elim h
  | cont=>exact False.elim h
theorem jcallX{k:Nat}{ps:List Str}{S:SpX}{R:T->Prop}{x:Str}{p:Pos}(C:CalX X.prog X.w X.K X.mg X.base k x ps S)(tk:Takes X R)(hr:Room k X.A)(hg:Gl X x)
  (ha:JA X (e::es) ws) (hdb:(x==("__debug__" : Str))=false:=by decide) (he:starEach (e::es) X.env=(false,eval e X.env)::starEach es X.env:=by exact star1 rfl)
  (hpl:(backTo pos (starEach es X.env)).any (·.1)=false:=by exact stars rfl):JE X (.Call (.Name x p) (e::es) [] pos) (wCall (S R) ws):=by
 obtain⟨f,fd,F,hb,hk,hm⟩:=C
 intro pins s σ H Q I ⟨τ,Q0,R0,hw,k⟩
 refine wpAny_Call_Name_kw (ld_glob I hg hm ?_ hdb)
 refine PySem.W.callWith_K (h₀:=X.base) I.ok.mod.kin hk (thn (ha pos pins s σ H (fun vs H1=>∃ts,Same H H1/\Reps X.K H1 ts vs/\S R ts Q0) I ⟨τ,_,R0,hw,fun ts vs H1 S1 r q=>⟨ts,S1,r,q⟩⟩) fun us s1 ⟨vs,H1,I1,r,ts,S1,rr,q⟩=>⟨I1.kIn,?_⟩) he hpl
 exact run_at F hr hb (fun a C dx H' s' fl da S2 h1=>tk.on pins σ H1 H' s1 s' a C dx I1 (R0.same.trans S1) fl da S2 h1) I1 r rr q fun t v H' S2 r2 q2=>k t v H' (S1.trans S2) r2 q2
def sRaise(R:T->Prop)(c:Str):WS:=fun _ _=>R (.exc c)
def ExcCls(K:PySem.W.Frag)(mg:Str->Option Value)(c:Str):Prop:=∃C,clsAt K c C/\mg c=some (.ref C)/\PySem.W.excIn K C [.type "ValueError", .type "Exception", .type "BaseException", .type "object"] "ValueError.__new__" = true
theorem cls_at{K:PySem.W.Frag}{h:Heap}{C:Addr}{bs:List Value}{id:String}(kin:K.In h)(q:PySem.W.excIn K C bs id=true) :
  ∃bm N nm qn bb hd sn sub ab col dd k0 k1 k2 k3 k5 mN,h.get? C=some (excClassObj nm qn C N bb bm hd sn sub ab col dd k0 k1 k2 k3 k5 id)/\h.Ns N mN/\mN "__init__" = none/\OwnTail h bs bm:=by
 unfold PySem.W.excIn at q
 split at q
 case h_2=>cases q
 rename_i dd cd sl look
 split at q
 case h_2=>cases q
 rename_i C1 bm k0 k1 k2 k3 n k5 em es
 rw[Bool.and_eq_true,Bool.and_eq_true,Bool.and_eq_true,Bool.and_eq_true,Bool.and_eq_true]at q
 obtain⟨⟨⟨⟨⟨e1,e2⟩,e3⟩,e4⟩,e5⟩,e6⟩:=q
 have e1:=beq_iff_eq.mp e1
 have e2:=beq_iff_eq.mp e2
 have e6:=beq_iff_eq.mp e6
 have obj:=kin _ _ look
 obtain⟨f1,f2,f3,f4,f5,f6,f7,f8,f9,f10,f11⟩:=cd
 have e3:f11=false:=by simpa using e3
 have em:f3=.ref C1::bm:=em
 have hs:sl=#[k0,k1,k2,k3,some (.builtin n),k5]:=by
  cases sl with
  | mk l=>exact congrArg Array.mk es
 rw[hs,em,e3,e1,e2]at obj
 exact⟨bm,f4,f1,f5,f2,f6,f7,f8,f9,f10,dd,k0,k1,k2,k3,k5,h.nsMap f4,obj,.of_isNs (PySem.W.isNs_of_in kin e5),PySem.W.nsMap_none_of_in kin e5 e6,PySem.W.tail_of_in kin e4⟩
theorem jraise{R:T->Prop}{x:Str}{m:Str}{j:Nat}{mp np cpos:Pos}(G:ExcCls X.K X.mg x)(tk:Takes X R)(hc:X.calm=true)(hg:Gl X x) (hdb:(x==("__debug__" : Str))=false:=by decide) :
  JS X (.Raise (some (.Call (.Name x np) [.Constant (.str m) j mp] [] cpos)) none pos) (sRaise R x):=by
 obtain⟨C,hC0,hm,hex⟩:=G
 intro pins s σ H D I ⟨τ,D0,R0,hw,_⟩
 obtain⟨bm,N,nm,qn,bb,hd,sn,sub,ab,col,dd,k0,k1,k2,k3,k5,mN,hC,hN,hni,TL⟩:=cls_at I.ok.mod.kin hex
 refine wpAny_Raise_call_subT (C:=C) (nm:=nm) (q:=qn) (N:=N) (bs:=bb) (bm:=bm) (hdct:=hd) (sn:=sn) (sub:=sub) (ab:=ab) (col:=col) (dd:=dd) (k0:=k0) (k1:=k1) (k2:=k2) (k3:=k3) (k5:=k5)
  PySem.F.excBase_ValueError (mN:=mN) (TL.hasType rfl) (I.ok.hd hc) (stars rfl) hni (ld_glob I hg hm ⟨rfl,?_⟩ hdb)
 have pa:PA X [.Constant (.str m) j mp] (tCons (tC (.str m)) tNil):=pa_cons pe_str pa_nil (star1 rfl)
 have z:=pa cpos pins s σ H (fun vs H1=>H1=H/\vs=[.str m]) I ⟨rfl,rfl⟩
 rw[star1 (e:=.Constant (.str m) j mp) rfl]at z ⊢
 refine Calls.evalArgs_plain (wpAny_mono z (fun us s1 h1=>?_) fun _ _ y=>y)
 obtain⟨vs,H1,I1,r,rfl,rfl⟩:=h1
 refine⟨rfl,by rw[← r.length];exact few (by simp),I1.bk _ _ hC,hN.keeps I1.bk,TL.keeps I1.bk,fun h' a mk=>?_⟩
 obtain⟨t1,he,_,_⟩:=mk.there
 exact tk.new pins σ H1 {s1 with heap:=h',toks:=s1.toks} a C t1 none (I1.kept mk.keeps) R0.same he (fresh_H I1 mk.new) (fresh_0 I1 (tk.ex) mk.new) ⟨x,hC0,hw⟩
theorem takes_def{P:Program}{w:World}{K:PySem.W.Frag}{mg:Str->Option Value}{base:Heap}{N:List Str}{qual:Str}{scope:Scope}{f:Addr}{cdv:Value}{A:Around}{outer:List Env}{s:Shared}{H:Hp}{E:XK}{R:T->Prop}
  (hE:∀v dx H',Same H H'->wishOf K R v dx H'->E v dx H'):Takes (cxOf (CXE P w) P w K mg base N qual scope f cdv A outer s H E) R:=by
 have D:DefCx (cxOf (CXE P w) P w K mg base N qual scope f cdv A outer s H E):=⟨rfl,rfl,rfl⟩
 refine⟨rfl,fun pins σ H1 H' s1 s' a C dx I S0 fl da S1 h1=>?_,fun pins σ H1 s1 a C t1 dx I S0 he nH n0 h1=>?_⟩
 ·exact leave_onD D I fl da fun h2' F2 d2=>⟨a,C,dx,H',rfl,F2,d2,S0.trans S1,hE _ _ _ (S0.trans S1) ⟨C,rfl,h1⟩⟩
 ·exact leave_firstD D I he nH n0 fun h2' F2 d2=>⟨a,C,dx,H1,rfl,F2,d2,S0,hE _ _ _ S0 ⟨C,rfl,h1⟩⟩
theorem fnX{P:Program}{w:World}{K:PySem.W.Frag}{mg:Str->Option Value}{base:Heap}{x qual:Str}{st:Stmt}{f:Addr}{fd:FuncData}{N ps:List Str}{k:Nat}{S:SpX}{W:(T->Prop)->WS}(F:Fun K x qual st f fd)(SC:FnScope N ps (defScope st))
  (hlen:∀R ts Q,S R ts Q->ts.length=ps.length)
  (hbody:∀(R:T->Prop)(cdv:Value)(A:Around)(outer:List Env)(s:Shared)(H:Hp)(E:XK),Room k (A.deeper (envOfC qual (defScope st) s.heap.objs.size f cdv))->Takes (cxOf (CXE P w) P w K mg base N qual (defScope st) f cdv A outer s H E) R →
   JSs (cxOf (CXE P w) P w K mg base N qual (defScope st) f cdv A outer s H E) (defBody st) (W R))
  (hw:∀R ts Q,S R ts Q->W R {nx:=fun _=>Q .non,rt:=Q} (startT N.length ts)):FnX P w K mg base (k + 1) f fd ps S:=by
 refine⟨?_,hlen⟩
 obtain⟨oc,od,kV,doc,pm,an,cdv,ct,osl,rfl,lk,hcd⟩:=F.ex
 refine fn_of lk hcd SC (fun vs H Q E ⟨_,_,_,e,_⟩=>e) fun A outer s H vs Q E hr h=>?_
 obtain⟨ts,Q0,R0,e,r,hS,q,hE⟩:=h
 refine⟨_,hbody R0 cdv A outer s H E hr (takes_def hE),startT N.length ts,{nx:=fun _=>Q0 .non,rt:=Q0},repSt_start r,hw R0 ts Q0 hS,fun τ' σ' H' _ R n=>?_,fun t v H' S r' n=>q t v H' S r' n,fun τ' σ' H' _ R n=>n.elim,fun τ' σ' H' _ R n=>n.elim⟩
 exact q .non .non H' R.same (rep_non.mpr rfl) n
end
end TL
end
section
namespace TL
open PySem PySem.Spec PyProof.Rows L2
section
variable {X:Cx} {pins:List (Addr×Obj)} {σ:St} {H H':Hp} {s s':Shared} {a:Addr}
theorem land_inv{C a0:Value}{B h6:Heap}(I:Inv X pins σ H s)(F:Fly X.prog X.w X.stack H s H' a C s')(fl:Heap.FlyingW B X.stack a C a0 s'.heap)(tB:∀b o,H' b=some o->∃u,B.get? b=some u)
  (oB:∀b u o,s.heap.get? b=some u->s'.heap.get? b=some o->b∉frs X.stack->B.get? b=some o) (st:B.StaysIn h6) (up:s'.heap.UpToSlots h6):Inv X pins σ H' {s' with heap:=h6}:=by
 have I':Inv X pins σ H' s':=I.call' (ch:=[]) F.os F.un F.hok F.bare fun b z=>absurd z (by simp)
 have nofld:∀b∈frs X.stack,∃ob,s'.heap.get? b=some ob/\∀vs,ob.data ≠ .fields vs:=fun b hb=>by
  obtain⟨_,ob,eb,nf⟩:=(I'.stack).mem hb
  exact⟨ob,eb,nf⟩
 refine I.call' (s':={s' with heap:=h6}) (ch:=[]) F.os ⟨fun b o q n hf _=>?_,fun b o q n hf _=>?_,F.un.free,fun b o q _=>?_,F.un.tups,F.un.frzs,F.un.tbls⟩ (hok_objs F.hok fun b o u hb q=>?_) F.bare fun b z=>absurd z (by simp)
 ·have e2:=F.un.keep b o q n hf (by simp)
  exact st b o (oB b o o q e2 hf)
 ·obtain⟨sl,e1⟩:=F.un.slot b o q n hf (by simp)
  obtain⟨ob,eb,nf⟩:=nofld b hf
  rw[e1]at eb
  cases eb
  obtain⟨sl2,e2⟩:=up b _ e1 nf
  exact⟨sl2,e2⟩
 ·obtain⟨o1,e1⟩:=F.un.there b o q (by simp)
  by_cases hf:b∈frs X.stack
  ·obtain⟨ob,eb,nf⟩:=nofld b hf
   rw[e1]at eb
   cases eb
   obtain⟨sl2,e2⟩:=up b _ e1 nf
   exact⟨_,e2⟩
  ·exact⟨o1,st b o1 (oB b o o1 q e1 hf)⟩
 ·obtain⟨v,hv⟩:=tB b o hb
  have:=fl.1 b v hv
  rw[q]at this
  cases this
  exact st b _ hv
theorem Inv.track{o:Obj}(I:Inv X pins σ H s)(hn:H a=none)(ho:s.heap.get? a=some o)(h0:X.s₀.heap.get? a=none)(hL:a≠X.env.locals)(hc:∀x c,X.env.cells.lookup x=some c->c≠a)(hp:∀p∈X.pn++pins,p.1≠a):Inv X pins σ (upd H a (kn o)) s:=by
 have ne:∀{b:Addr}{u:HO},H b=some u->b≠a:=fun q z=>by rw[z,hn]at q;cases q
 refine⟨I.ok,I.os,I.bare,⟨I.base.keep,I.base.slot,fun b ob q n hx=>?_,I.base.there,fun b xs q=>?_,fun b ob u q=>?_,fun b ps q=>?_⟩,I.loc,I.cell,?_,fun x c q=>?_,fun p q=>?_,fun b u q=>?_,I.len⟩
 ·have nb:b≠a:=fun z=>by rw[z,h0]at q;cases q
  rw[upd_ne nb]
  exact I.base.free b ob q n hx
 ·have e:=I.base.tups b xs q
  rw[upd_ne (ne e)]
  exact e
 ·have e:=I.base.frzs b ob u q
  rw[upd_ne (ne e)]
  exact e
 ·obtain⟨more,e⟩:=I.base.tbls b ps q
  exact⟨more,by rw[upd_ne (ne e)];exact e⟩
 ·rw[upd_ne (Ne.symm hL)]
  exact I.free
 ·rw[upd_ne (hc x c q)]
  exact I.freeC x c q
 ·obtain⟨e1,e2,e3⟩:=I.pin p q
  exact⟨e1,by rw[upd_ne (hp p q)];exact e2,e3⟩
 ·by_cases hb:b=a
  ·subst hb
   rw[upd_same]at q
   cases q
   exact⟨ho,trivial,⟨_,ho⟩,fun _ _ _ _=>trivial⟩
  ·rw[upd_ne hb]at q
   exact(I.hok b u q).stay (fun _ _ _ z=>z) (fun c z=>by rw[upd_ne (ne z)];exact z) fun c ys z=>by rw[upd_ne (ne z)];exact z
theorem track_same{o:Obj}(hn:H a=none):Same H (upd H a (kn o)):=fun b u q=>by
 rw[upd_ne (fun z=>by rw[z,hn]at q;cases q)]
 exact q
theorem Inv.goes{i:Nat}{n:Str}{m:Str->Option Value}{v:Option Value}{h':Heap}{t':Nat}(I:Inv X pins σ H s)(hN:X.N.Nodup)(hi:X.N[i]?=some n)(hm:s.heap.Ns X.env.locals m/\∀(j:Nat)(x:Str)(w:V),X.N[j]?=some x->σ[j]?=some (some w)->Vis X.env.scope x->∃u,RelV w u/\Look X.env s.heap m x u)
  (hn:h'.Ns X.env.locals fun x=>if x=n then v else m x) (hs:Heap.SameBut X.env.locals s.heap h'):Inv X pins (σ.set i none) H {s with heap:=h',toks:=t' }:=by
 have nL:∀b o,X.s₀.heap.get? b=some o->b≠X.env.locals:=fun b o q=>Nat.ne_of_lt (Nat.lt_of_lt_of_le (Heap.lt_size q) I.ok.above)
 have cne:=I.cne
 refine⟨I.ok,I.os,I.bare,⟨fun b o q z hb hx=>(hs.2 b (nL b o q)).trans (I.base.keep b o q z hb hx),fun b o q z hb hx=>?_,I.base.free,fun b o q hx=>?_,I.base.tups,I.base.frzs,I.base.tbls⟩,⟨_,hn,fun j y w e1 e2 e3=>?_⟩,fun y c q=>?_,I.free,I.freeC,fun p hp=>?_,fun b u q=>?_,by simpa using I.len⟩
 ·obtain⟨sl,e1⟩:=I.base.slot b o q z hb hx
  exact⟨sl,(hs.2 b (nL b o q)).trans e1⟩
 ·obtain⟨o',e1⟩:=I.base.there b o q hx
  exact⟨o',(hs.2 b (nL b o q)).trans e1⟩
 ·by_cases hj:j=i
  ·subst hj
   have:(σ.set j none)[j]?=some (some w):=e2
   rw[List.getElem?_set]at this
   split at this
   ·split at this<;>cases this
   ·rename_i hh;exact absurd rfl hh
  ·rw[List.getElem?_set_ne (Ne.symm hj)]at e2
   obtain⟨u',r',q⟩:=hm.2 j y w e1 e2 e3
   refine⟨u',r',?_⟩
   rcases q with ⟨k,e⟩|⟨k,c,e,z⟩
   ·refine .inl ⟨k,?_⟩
    have:y≠n:=fun e=>hj (nodup_ix hN e1 (e ▸ hi))
    simp[this,e]
   ·exact .inr ⟨k,c,e,z.sameBut hs (cne y c e)⟩
 ·obtain⟨w',z⟩:=I.cell y c q
  exact⟨w',z.sameBut hs (cne y c q)⟩
 ·obtain⟨e,n',ne,nf,d⟩:=I.pin p hp
  exact⟨(hs.2 p.1 ne).trans e,n',ne,nf,d⟩
 ·refine(I.hok b u q).stay (fun c w' hc z=>(hs.2 c ?_).trans z) (fun _ z=>z) fun _ _ z=>z
  rintro rfl
  rcases hc with hc|hc
  ·rw[← hc]at q;rw[I.free]at q;cases q
  ·rw[I.free]at hc;cases hc
abbrev Cx.caught(X:Cx)(a:Addr)(E:Value->Shared->Prop):Cx:={X with A:=X.A.mark (some (.ref a)),calm:=false,xe:=E}
theorem Inv.caught{E:Value->Shared->Prop}(I:Inv X pins σ H s)(a:Addr):Inv (Cx.caught X a E) pins σ H s :=
 ⟨⟨I.ok.mod,I.ok.kind,I.ok.glob,I.ok.blt,I.ok.above,I.ok.inj,I.ok.has,I.ok.cab,fun z=>(by cases z),I.ok.frames,I.ok.stk,I.ok.exf,I.ok.bs,I.ok.bsz,I.ok.noex,I.ok.exfs,I.ok.funs,I.ok.frf⟩,I.os,I.bare,I.base,I.loc,I.cell,I.free,I.freeC,I.pin,I.hok,I.len⟩
theorem Inv.uncaught{E:Value->Shared->Prop}(ok:X.Ok)(I:Inv (Cx.caught X a E) pins σ H s):Inv X pins σ H s :=
 ⟨ok,I.os,I.bare,I.base,I.loc,I.cell,I.free,I.freeC,I.pin,I.hok,I.len⟩
theorem catch_at{C CY:Addr}{dx:Option Addr}{y n kept:Str}{i j:Nat}{np p1 p2 p3 hpos:Pos}{Q:Flow->Shared->Prop}{E:Value->Shared->Prop}(D:DefCx X)(I:Inv X pins σ H s)(F:Fly X.prog X.w X.stack H s H' a (.ref C) s')(da:DAt s'.heap a dx)
  (hN:X.N.Nodup) (hi:X.N[i]?=some n) (hj:X.N[j]?=some kept) (hij:j≠i) (hln:X.env.scope.names.lookup n=some .local) (hlk:X.env.scope.names.lookup kept=some .local) (hg:Gl X y) (hm:X.mg y=some (.ref CY))
  (ex:PySem.W.exmOne X.K (.ref C) (.ref CY)=some true) (hdy:(y==("__debug__" : Str))=false) (hdn:(n==("__debug__" : Str))=false) (hcn:(n==("__classdict__" : Str))=false)
  (hQ:∀s7 H7 o,Inv X pins ((σ.set j (some (.ref a))).set i none) H7 s7->Same H' H7->H7 a=some (kn o)->o.cls=.ref C->(∃ws,o.data=.fields ws)->o.dict=dx->Q .next s7) :
  wpAny (model X.prog X.w) X.A (noteFrame (.ref a) X.env) (fun _ s2=>wpAny (model X.prog X.w) X.A (setFlight (.ref a) none) (fun _ s3 =>
   wpAny (model X.prog X.w) X.A (handleBy (.ref a) X.env [.ExceptHandler (some (.Name y np)) (some n) [.Assign [.Name kept p1] (.Name n p2) p3] hpos]) Q E s3) E s2) E s':=by
 obtain⟨B,a0,fl,tB,oB⟩:=F.fly
 have hfr:X.A.frames=some (X.env::X.outer):=by rw[I.ok.frames,D.stk]
 have fl0:Heap.FlyingW B (X.env::X.outer) a (.ref C) a0 s'.heap:=by rw[← D.stk];exact fl
 refine noteD hfr D.frame fl0 da fun h4 held sm4 da4=>?_
 refine landD (s:={s' with heap:=h4}) held.1 held.2.1 held.2.2.1 held.2.2.2 da4 fun h5 fl5 sm5 da5=>?_
 have I5:Inv X pins σ H' {s' with heap:=h5}:=land_inv I F fl tB oB fl5.1 (sm4.trans sm5)
 obtain⟨ob,hob,hobc⟩:=fl5.there
 refine wpAny_handleBy_cons (codeAny_handlers_test (ld_glob (Inv.caught (E:=E) I5 a) hg hm ?_ hdy)) (by intro q;cases q)
 have LT:PySem.W.Looks (model X.prog X.w) h5 (typeOf (.ref a)) (.ref C):=hobc ▸ (PySem.W.Looks.ld hob).andThen .now
 refine(PySem.W.exm_one (M:=model X.prog X.w) I5.kIn LT ex).here ?_
 refine codeAny_handlers_suite_as ?_
 refine landD (s:={s' with heap:=h5}) fl5.1 fl5.2.1 fl5.2.2.1 fl5.2.2.2.at da5 fun h6 fl6 sm6 da6=>?_
 have I6:Inv X pins σ H' {s' with heap:=h6}:=land_inv I F fl tB oB fl6.1 ((sm4.trans sm5).trans sm6)
 obtain⟨oe,ws,Tb,oT,tsT,hoe,hoc,hod,_⟩:=fl6.2.2.2
 have hdx:oe.dict=dx:=by
  obtain⟨o9,q9,r9⟩:=da6
  rw[hoe]at q9
  cases q9
  exact r9
 have new0:X.s₀.heap.get? a=none:=by
  cases q:X.s₀.heap.get? a with
  | none=>rfl
  | some o =>
   obtain⟨o1,e1⟩:=I.base.there a o q (by rw[D.ex];simp)
   rw[F.new]at e1
   cases e1
 have lt0:∀{b:Addr}{o:Obj},s.heap.get? b=some o->b≠a:=fun q z=>by rw[z,F.new]at q;cases q
 obtain⟨mL,hnL,_⟩:=I.loc
 obtain⟨oL,esL,epL,hoL,_⟩:=id hnL
 have It:Inv X pins σ (upd H' a (kn oe)) {s' with heap:=h6}:=Inv.track I6 F.non hoe new0 (Ne.symm (lt0 hoL)) (fun x c q=>by obtain⟨v,o,e,_⟩:=I.cell x c q;exact lt0 e) fun p hp=>lt0 (I.pin p hp).1
 have Ic:=Inv.caught (E:=fun _ _=>False) It a
 refine store_ok (X:=Cx.caught X a fun _ _=>False) Ic hN hi (.inl hln) (v:=.ref a) rfl (fun s8 I8=>?_) (.inr hln)
 have hn8:((σ.set i (some (V.ref a)))[i]?)=some (some (.ref a)):=List.getElem?_set_self (by rw[I.len];exact(List.getElem?_eq_some_iff.mp hi).1)
 have ps:PSs (Cx.caught X a fun _ _=>False) [.Assign [.Name kept p1] (.Name n p2) p3] (tAsg (tVar i) (gName j)):=pss_one (ps_set (X:=Cx.caught X a fun _ _=>False) hN hj (.inl hlk) (pe_var hi (.inl hln) hdn hcn) rfl (.inr hlk))
 have z:=ps pins s8 _ _ {nx:=fun σ' H9=>σ'=(σ.set i (some (V.ref a))).set j (some (.ref a))/\H9=upd H' a (kn oe),rt:=fun _ _=>False} I8 ⟨.ref a,hn8,rfl,rfl⟩
 refine wpAny_mono z (fun f s9 h9=>?_) fun x s9 h9=>?_
 ·cases f with
  | next =>
   obtain⟨σ9,H9,I9,rfl,rfl⟩:=h9
   have I9':Inv X pins ((σ.set i (some (V.ref a))).set j (some (.ref a))) (upd H' a (kn oe)) s9:=Inv.uncaught I.ok I9
   obtain⟨m9,hn9,hl9⟩:=I9'.loc
   have hcls:(X.env.scope.kind == .class||(X.env.scope.kind == .module&&X.env.locals != X.env.globals))=false:=by rw[I.ok.kind];rfl
   refine wpAny_nameGoes_keeps hln hn9 hcls fun h10 v hns hsb=>?_
   have I10:=Inv.goes (t':=s9.toks + 1) I9' hN hi ⟨hn9,hl9⟩ hns hsb
   have es:(((σ.set i (some (V.ref a))).set j (some (.ref a))).set i none)=(σ.set j (some (.ref a))).set i none:=by
    rw[List.set_comm _ _ (Ne.symm hij),List.set_set]
   rw[es]at I10
   exact hQ _ _ oe I10 (track_same F.non) upd_same hoc.1 ⟨ws,hod⟩ hdx
  | brk=>obtain⟨_,_,_,z⟩:=h9;exact z.elim
  | cont=>obtain⟨_,_,_,z⟩:=h9;exact z.elim
  | ret u=>obtain⟨_,_,_,_,_,z⟩:=h9;exact z.elim
 ·exact False.elim h9
end
section
variable {X:Cx} {e:Expr} {es:List Expr} {ws:WA} {pos:Pos}
theorem RepSt.gone{K:PySem.W.Frag}{H0 H:Hp}{σ:St}{τ:List Slot}{i:Nat}(R:RepSt K H0 H σ τ):RepSt K H0 H (σ.set i none) (sput τ i .no):=by
 have nown:∀c ts,sget (sput τ i .no) c=.own ts->i≠c/\sget τ c=.own ts:=fun c ts h=>by
  by_cases hc:i=c
  ·subst hc
   by_cases hi:i < τ.length
   ·rw[sget_same hi]at h;cases h
   ·rw[sget_big (by rw[length_sput];omega)]at h;cases h
  ·rw[sget_ne hc]at h
   exact⟨hc,h⟩
 refine⟨R.same,by rw[length_sput,List.length_set];exact R.len,fun j=>?_,fun a b ts us p hab ha hb ea eb=>?_⟩
 ·by_cases hij:i=j
  ·subst hij
   by_cases hi:i < τ.length
   ·rw[sget_same hi];trivial
   ·rw[sget_big (by rw[length_sput];omega)];trivial
  ·rw[sget_ne hij,List.getElem?_set_ne hij]
   exact R.slot j
 ·obtain⟨na,ha⟩:=nown a ts ha
  obtain⟨nb,hb⟩:=nown b us hb
  rw[List.getElem?_set_ne na]at ea
  rw[List.getElem?_set_ne nb]at eb
  exact R.apart a b ts us p hab ha hb ea eb
theorem call_at{k:Nat}{ps:List Str}{S:SpX}{x:Str}{p:Pos}(C:CalX X.prog X.w X.K X.mg X.base k x ps S)(hx0:∀e s,X.xe e s->False)(hr:Room k X.A)(hg:Gl X x)(ha:JA X (e::es) ws) (hdb:(x==("__debug__" : Str))=false)
  (he:starEach (e::es) X.env=(false,eval e X.env)::starEach es X.env) (hpl:(backTo pos (starEach es X.env)).any (·.1)=false)
  {pins:List (Addr×Obj)} {s:Shared} {σ:St} {H:Hp} {Q:VK} {R Q0:T->Prop} {E:Value->Shared->Prop} {τ:List Slot} (I:Inv X pins σ H s) (R0:RepSt X.K X.H₀ H σ τ) (hw:wCall (S R) ws τ Q0)
  (kq:∀t v H',Same H H'->Rep X.K H' t v->Q0 t->Q v H')
  (hE:∀H1 H' s1 s' a C dx,Inv X pins σ H1 s1->Same H H1->Fly X.prog X.w X.stack H1 s1 H' a (.ref C) s'->DAt s'.heap a dx->Same H1 H'->wishF X.K R C dx H'->E (.ref a) s') :
  wpAny (model X.prog X.w) X.A (eval (.Call (.Name x p) (e::es) [] pos) X.env) (EP X pins σ Q) E s:=by
 obtain⟨f,fd,F,hb,hk,hm⟩:=C
 refine wpAny_Call_Name_kw (ld_glob I hg hm ?_ hdb)
 have arg:=wpAny_mono (ha pos pins s σ H (fun vs H1=>∃ts,Same H H1/\Reps X.K H1 ts vs/\S R ts Q0) I ⟨τ,_,R0,hw,fun ts vs H1 S1 r q=>⟨ts,S1,r,q⟩⟩) (fun _ _ z=>z) (E':=E) fun e s z=>(hx0 e s z).elim
 refine PySem.W.callWith_K (h₀:=X.base) I.ok.mod.kin hk (thn arg fun us s1 ⟨vs,H1,I1,r,ts,S1,rr,q⟩=>⟨I1.kIn,?_⟩) he hpl
 exact run_at F hr hb (fun a C dx H' s' fl da S2 h1=>hE H1 H' s1 s' a C dx I1 S1 fl da S2 h1) I1 r rr q fun t v H' S2 r2 q2=>kq t v H' (S1.trans S2) r2 q2
def JB(X:Cx)(st:Stmt)(t:(T->Prop)->WS):Prop:=∀(pins:List (Addr×Obj))(s:Shared)(σ:St)(H:Hp)(D:Ends)(R:T->Prop)(E:Value->Shared->Prop)(τ:List Slot)(D0:DT),Inv X pins σ H s->RepSt X.K X.H₀ H σ τ->t R D0 τ →
 (∀τ' σ' H',Kp H H'->RepSt X.K X.H₀ H' σ' τ'->D0.nx τ'->D.nx σ' H') →
 (∀H1 H' s1 s' a C dx,Inv X pins σ H1 s1->Same H H1->Fly X.prog X.w X.stack H1 s1 H' a (.ref C) s'->DAt s'.heap a dx->Same H1 H'->wishF X.K R C dx H'->E (.ref a) s') →
 wpAny (model X.prog X.w) X.A (exec st X.env) (fun f s'=>f=.next/\SP X pins D .next s') E s
theorem jbExpr{k:Nat}{ps:List Str}{S:SpX}{x:Str}{p spos:Pos}(C:CalX X.prog X.w X.K X.mg X.base k x ps S)(hx0:∀e s,X.xe e s->False)(hr:Room k X.A)(hg:Gl X x)(ha:JA X (e::es) ws) (hdb:(x==("__debug__" : Str))=false:=by decide)
  (he:starEach (e::es) X.env=(false,eval e X.env)::starEach es X.env:=by exact star1 rfl) (hpl:(backTo pos (starEach es X.env)).any (·.1)=false:=by exact stars rfl) (hs:swapsWith (.Call (.Name x p) (e::es) [] pos) none spos.line X.env=pure false:=by rfl) :
  JB X (.Expr (.Call (.Name x p) (e::es) [] pos) spos) (fun R=>sExpr (wCall (S R) ws)):=by
 intro pins s σ H D R E τ D0 I R0 hw kn hE
 refine wpAny_Expr_any (thn (call_at C hx0 hr hg ha hdb he hpl I R0 hw (Q:=fun _ H'=>Same H H'/\D0.nx τ) (fun t v H' S1 _ q=>⟨S1,q⟩) hE) fun v s1 ⟨y,H1,I1,r1,S1,q1⟩=>?_) I.quiet hs
 exact⟨rfl,σ,H1,I1,kn τ σ H1 (.of S1) (R0.mono S1) q1⟩
def Catches(K:PySem.W.Frag)(mg:Str->Option Value)(y:Str)(cs:List Str):Prop:=∃CY,mg y=some (.ref CY)/\∀c∈cs,∀C,clsAt K c C->PySem.W.exmOne K (.ref C) (.ref CY)=some true
def sTry(tb:(T->Prop)->WS)(i j:Nat)(cs:List Str):WS:=fun D τ=>tb (fun x=>match x with | .exc c=>c∈cs/\D.nx (sput (sput τ j (.val (.exc c))) i .no) | .exf c f t=>c∈cs/\D.nx (sput (sput τ j (.val (.exf c f t))) i .no)|_=>False) D τ
theorem jtry{tb:(T->Prop)->WS}{st:Stmt}{y n kept:Str}{i j:Nat}{np p1 p2 p3 hpos:Pos}{cs:List Str}(D:DefCx X)(G:Catches X.K X.mg y cs)(hN:X.N.Nodup)(hi:X.N[i]?=some n)(hj:X.N[j]?=some kept)(hij:j≠i)(hln:X.env.scope.names.lookup n=some .local)(hlk:X.env.scope.names.lookup kept=some .local)
  (hg:Gl X y) (hb:JB X st tb) (hdy:(y==("__debug__" : Str))=false:=by decide) (hdn:(n==("__debug__" : Str))=false:=by decide) (hcn:(n==("__classdict__" : Str))=false:=by decide) :
  JS X (.Try [st] [.ExceptHandler (some (.Name y np)) (some n) [.Assign [.Name kept p1] (.Name n p2) p3] hpos] [] [] pos) (sTry tb i j cs):=by
 obtain⟨CY,hm,hcs⟩:=G
 intro pins s σ H Dn I ⟨τ,D0,R0,hw,kn,kr,kb,kc⟩
 refine wpAny_Try_except ?_
 have body:=hb pins s σ H Dn _ (fun e s1=>wpAny (model X.prog X.w) X.A (noteFrame e X.env) (fun _ s2=>wpAny (model X.prog X.w) X.A (setFlight e none) (fun _ s3=>wpAny (model X.prog X.w) X.A (handleBy e X.env [.ExceptHandler (some (.Name y np)) (some n) [.Assign [.Name kept p1] (.Name n p2) p3] hpos]) (SP X pins Dn) X.xe s3) X.xe s2) X.xe s1) τ D0 I R0 hw kn ?_
 ·refine wpAny_execs_cons (thn body fun f s1 h1=>?_)
  obtain⟨rfl,h1⟩:=h1
  exact wpAny_execs_nil (wpAny_execs_nil h1)
 ·intro H1 H' s1 s' a C dx I1 S1 fl da S2 ⟨c,h1,hw1⟩
  cases dx with
  | none =>
   obtain⟨hc,hq⟩:=hw1
   refine catch_at D I1 fl da hN hi hj hij hln hlk hg hm (hcs c hc C h1) hdy hdn hcn fun s7 H7 o I7 S7 e7 oc ⟨ws',od⟩ _=>?_
   have SS:=S1.trans (S2.trans S7)
   exact⟨_,H7,I7,kn _ _ H7 (.of SS) (((R0.mono SS).put (rep_exc.mpr ⟨a,rfl,⟨o,C,ws',e7,oc,od,h1⟩⟩)).gone) hq⟩
  | some d =>
   obtain⟨f,t,od0,u,v,hd,hl,hu,hr,hc,hq⟩:=hw1
   refine catch_at D I1 fl da hN hi hj hij hln hlk hg hm (hcs c hc C h1) hdy hdn hcn fun s7 H7 o I7 S7 e7 oc ⟨ws',od⟩ ed=>?_
   have SS:=S1.trans (S2.trans S7)
   exact⟨_,H7,I7,kn _ _ H7 (.of SS) (((R0.mono SS).put (rep_exf.mpr ⟨a,rfl,d,od0,u,v,⟨⟨o,C,ws',e7,oc,od,ed,h1⟩,S7 d _ hd,hl⟩,hu,hr.kp (.of S7)⟩)).gone) hq⟩
end
theorem look_ns1{h:Heap}{d:Addr}{m:Str->Option Value}{f:Str}{u:Value}(n:h.Ns1 d m)(e:m f=some u):∃od,h.get? d=some od/\PySem.W.lookIn f od=some (some u):=by
 obtain⟨o,es,ep,ho,hd,_,_,hf⟩:=n
 refine⟨o,ho,?_⟩
 have z:=(hf f).trans e
 unfold nsFind findBy at z
 rw[← Array.find?_toList]at z
 unfold PySem.W.lookIn
 rw[hd]
 dsimp only
 cases q:es.toList.find? (fun e=>e.key.isStr f) with
 | none=>rw[q]at z;cases z
 | some en=>rw[q]at z;exact congrArg some z
theorem ns_of{K:PySem.W.Frag}{h:Heap}{N:Addr}{mg:Str->Option Value}{n:Str}{v:Value}(X:K.In h)(G:h.Ns N mg)(e:PySem.W.nsIn K N n=some (some v)):mg n=some v:=by
 obtain⟨o,es,ep,ho,hd,_,hf⟩:=G
 unfold PySem.W.nsIn at e
 split at e
 ·rename_i c d es' n' sl q
  have z:=X _ _ q
  rw[ho]at z
  cases z
  cases hd
  split at e
  ·rename_i en he
   cases e
   rw[← hf]
   unfold nsFind findBy
   rw[← Array.find?_toList,he]
   rfl
  ·split at e<;>cases e
 ·cases e
def ownIn(K:PySem.W.Frag)(C fI:Addr):Bool:=match K.lookup C with
 | some ⟨.type "type", _,.cls cd,sl⟩=>(match cd.mro,sl.toList with
  | .ref C'::bm,[_,_,_,_,some (.builtin n),_]=>C'==C&&n == "ValueError.__new__" && !cd.hasDel&&PySem.W.tailIn K mroVE bm&&PySem.W.nsOkIn K cd.ns&&PySem.W.nsIn K cd.ns "__init__" == some (some (.ref fI))
  | _,_=>false)
 | _=>false
theorem own_at{K:PySem.W.Frag}{h:Heap}{C fI:Addr}(kin:K.In h)(q:ownIn K C fI=true) :
  ∃bm N nm qn bb hd sn sub ab col dd k0 k1 k2 k3 k5 mN,h.get? C=some (excClassObj nm qn C N bb bm hd sn sub ab col dd k0 k1 k2 k3 k5 "ValueError.__new__")/\h.Ns N mN/\mN "__init__" = some (.ref fI)/\OwnTail h mroVE bm:=by
 unfold ownIn at q
 split at q
 case h_2=>cases q
 rename_i dd cd sl look
 split at q
 case h_2=>cases q
 rename_i C1 bm k0 k1 k2 k3 n k5 em es
 rw[Bool.and_eq_true,Bool.and_eq_true,Bool.and_eq_true,Bool.and_eq_true,Bool.and_eq_true]at q
 obtain⟨⟨⟨⟨⟨e1,e2⟩,e3⟩,e4⟩,e5⟩,e6⟩:=q
 have e1:=beq_iff_eq.mp e1
 have e2:=beq_iff_eq.mp e2
 have e6:=beq_iff_eq.mp e6
 have obj:=kin _ _ look
 obtain⟨f1,f2,f3,f4,f5,f6,f7,f8,f9,f10,f11⟩:=cd
 have e3:f11=false:=by simpa using e3
 have em:f3=.ref C1::bm:=em
 have hs:sl=#[k0,k1,k2,k3,some (.builtin n),k5]:=by
  cases sl with
  | mk l=>exact congrArg Array.mk es
 rw[hs,em,e3,e1,e2]at obj
 have G:h.Ns f4 (h.nsMap f4):=.of_isNs (PySem.W.isNs_of_in kin e5)
 exact⟨bm,f4,f1,f5,f2,f6,f7,f8,f9,f10,dd,k0,k1,k2,k3,k5,h.nsMap f4,obj,G,ns_of kin G e6,PySem.W.tail_of_in kin e4⟩
structure IniAt(K:PySem.W.Frag)(mg:Str->Option Value)(c f:Str)(st:Stmt)(qual slf x y m:Str)(C CY fI:Addr)(mc:Value)(cd:ClassData)(rs:List Addr)(pl:Env->Sem Bool)(p1 p2 p3 p4 p5 p6 p7 p8 p9 r1 r2 r3 r4:Pos)(k:Nat)(fd:FuncData):Prop where
 cl:clsAt K c C
 mcl:mg c=some (.ref C)
 own:ownIn K C fI=true
 fn:Fun K "__init__" qual st fI fd
 fc:∃o,K.lookup fI=some o/\o.cls=.type "function"
 bd:Binds K fd [slf,x] []
 body:defBody st=[.Expr (.Call (.Attribute (.Name y p1) "__init__" p2) [.Name slf p3,.JoinedStr [.Constant (.str m) k p4,.FormattedValue (.Name x p5) 114 none p6] p7] [] p8) p9,.Assign [.Attribute (.Name slf r1) f r2] (.Name x r3) r4]
 sc:FnScope [slf,x] [slf,x] (defScope st)
 v0:Vis (defScope st) slf
 v1:Vis (defScope st) x
 gl:(defScope st).names.lookup y=some .globalImplicit
 my:mg y=some (.ref CY)
 sp:PySem.W.specialIn K (.ref CY) "__getattribute__" = some (some (.builtin "type.__getattribute__"))
 rd:PySem.W.readsIn K CY mc=true
 fk:PySem.W.findCls K (.ref CY) mc "__init__" = some (.val (.builtin "ValueError.__init__"))
 sa:PySem.W.findIn K (.ref C) "__setattr__" = some (some (.builtin "object.__setattr__"))
 na:PySem.W.findIn K (.ref C) f=some none
 ci:PySem.W.clsIn K C=some cd
 mro:cd.mro=rs.map Value.ref++mroVE
 hd:cd.hasDict=true
 ml:m.length<=1000
 dy:(y==("__debug__" : Str))=false
 d0:(slf==("__debug__" : Str))=false
 c0:(slf==("__classdict__" : Str))=false
 d1:(x==("__debug__" : Str))=false
 c1:(x==("__classdict__" : Str))=false
 ht:∀env:Env,eval (.Call (.Attribute (.Name y p1) "__init__" p2) [.Name slf p3,.JoinedStr [.Constant (.str m) k p4,.FormattedValue (.Name x p5) 114 none p6] p7] [] p8) env=(do
   let ov ← eval (.Name y p1) env
   standAt p2.atName
   let (f,first) ← holding [ov] (getMethod ov "__init__" (pl env))
   callWith p8 f first (backTo p8 (starEach [.Name slf p3,.JoinedStr [.Constant (.str m) k p4,.FormattedValue (.Name x p5) 114 none p6] p7] env)) (backToKw p8 (keywordEach [] env)))
 sw:∀env:Env,swapsWith (.Name x r3) (some (.Attribute (.Name slf r1) f r2)) r4.line env=pure false
def FldCls(K:PySem.W.Frag)(mg:Str->Option Value)(c f:Str):Prop:=∃(st:Stmt) (qual self x y m:Str) (C CY fI:Addr) (mc:Value) (cd:ClassData) (rs:List Addr) (pl:Env->Sem Bool) (p1 p2 p3 p4 p5 p6 p7 p8 p9 r1 r2 r3 r4:Pos) (k:Nat) (fd:FuncData),
 IniAt K mg c f st qual self x y m C CY fI mc cd rs pl p1 p2 p3 p4 p5 p6 p7 p8 p9 r1 r2 r3 r4 k fd
theorem ini_fld{K:PySem.W.Frag}{mg:Str->Option Value}{c f:Str}{st:Stmt}{qual slf x y m:Str}{C CY fI:Addr}{mc:Value}{cd:ClassData}{rs:List Addr}{pl:Env->Sem Bool}{p1 p2 p3 p4 p5 p6 p7 p8 p9 r1 r2 r3 r4:Pos}{k:Nat}{fd:FuncData}
  (a1:clsAt K c C) (a2:mg c=some (.ref C)) (a3:ownIn K C fI=true) (a4:Fun K "__init__" qual st fI fd) (a5:∃o,K.lookup fI=some o/\o.cls=.type "function") (a6:Binds K fd [slf,x] [])
  (a7:defBody st=[.Expr (.Call (.Attribute (.Name y p1) "__init__" p2) [.Name slf p3,.JoinedStr [.Constant (.str m) k p4,.FormattedValue (.Name x p5) 114 none p6] p7] [] p8) p9,.Assign [.Attribute (.Name slf r1) f r2] (.Name x r3) r4])
  (a8:FnScope [slf,x] [slf,x] (defScope st)) (a9:Vis (defScope st) slf) (b1:Vis (defScope st) x) (b2:(defScope st).names.lookup y=some .globalImplicit) (b3:mg y=some (.ref CY))
  (b4:PySem.W.specialIn K (.ref CY) "__getattribute__" = some (some (.builtin "type.__getattribute__"))) (b5:PySem.W.readsIn K CY mc=true) (b6:PySem.W.findCls K (.ref CY) mc "__init__" = some (.val (.builtin "ValueError.__init__")))
  (b7:PySem.W.findIn K (.ref C) "__setattr__" = some (some (.builtin "object.__setattr__"))) (b8:PySem.W.findIn K (.ref C) f=some none) (b9:PySem.W.clsIn K C=some cd) (c1:cd.mro=rs.map Value.ref++mroVE) (c2:cd.hasDict=true) (c3:m.length<=1000)
  (c4:(y==("__debug__" : Str))=false) (c5:(slf==("__debug__" : Str))=false) (c6:(slf==("__classdict__" : Str))=false) (c7:(x==("__debug__" : Str))=false) (c8:(x==("__classdict__" : Str))=false)
  (c9:∀env:Env,eval (.Call (.Attribute (.Name y p1) "__init__" p2) [.Name slf p3,.JoinedStr [.Constant (.str m) k p4,.FormattedValue (.Name x p5) 114 none p6] p7] [] p8) env=(do
   let ov ← eval (.Name y p1) env
   standAt p2.atName
   let (f,first) ← holding [ov] (getMethod ov "__init__" (pl env))
   callWith p8 f first (backTo p8 (starEach [.Name slf p3,.JoinedStr [.Constant (.str m) k p4,.FormattedValue (.Name x p5) 114 none p6] p7] env)) (backToKw p8 (keywordEach [] env))))
  (d1:∀env:Env,swapsWith (.Name x r3) (some (.Attribute (.Name slf r1) f r2)) r4.line env=pure false):FldCls K mg c f :=
 ⟨st,qual,slf,x,y,m,C,CY,fI,mc,cd,rs,pl,p1,p2,p3,p4,p5,p6,p7,p8,p9,r1,r2,r3,r4,k,fd,a1,a2,a3,a4,a5,a6,a7,a8,a9,b1,b2,b3,b4,b5,b6,b7,b8,b9,c1,c2,c3,c4,c5,c6,c7,c8,c9,d1⟩
def inSt:Stmt->Stmt
 | .ClassDef _ _ _ (s::_) _ _ _ _ _ _ _=>s
 | s=>s
def FldT:T->Prop
 | .int i=>i.natAbs.log2 < 1920
 | .non=>True
 | .str x=>(reprText x).length<=100000
 | _=>False
theorem fld_says{K:PySem.W.Frag}{H:Hp}{t:T}{v:V}{m:Str}(h:FldT t)(r:Rep K H t v)(hm:m.length<=1000):Says v/\(Str.empty++m).length<=sizeLine/\(Str.empty++m++txtV v).length<=sizeLine/\∀H',Rep K H' t v:=by
 have em:∀a b:Str,(a++b).length=a.length + b.length:=fun a b=>Str.length_append a b
 have e0:Str.empty.length=0:=rfl
 have l1:(Str.empty++m).length<=sizeLine:=by rw[em,e0,sizeLine_eq];omega
 cases t with
 | int i =>
  obtain rfl:=rep_int.mp r
  refine⟨h,l1,?_,fun H'=>rep_int.mpr rfl⟩
  have e:=int_text_length_le (k:=1920) (by decide) h
  rw[em,em,e0,sizeLine_eq]
  show 0 + m.length + (Str.ofString (toString i)).length<=_
  rw[PySem.ofString_length]
  omega
 | non =>
  obtain rfl:=rep_non.mp r
  refine⟨trivial,l1,?_,fun H'=>rep_non.mpr rfl⟩
  rw[em,em,e0,sizeLine_eq]
  show 0 + m.length + ("None" : Str).length<=_
  have:("None" : Str).length=4:=by decide
  omega
 | str x =>
  obtain rfl:=rep_str.mp r
  have h:(reprText x).length<=100000:=h
  refine⟨?_,l1,?_,fun H'=>rep_str.mpr rfl⟩
  ·show (reprText x).length<=sizeLine
   rw[sizeLine_eq]
   omega
  ·rw[em,em,e0,sizeLine_eq]
   show 0 + m.length + (reprText x).length<=_
   omega
 | _=>exact h.elim
def sRaiseF(R:T->Prop)(c f:Str)(wa:WE):WS:=fun _ τ=>wa τ fun t=>FldT t/\R (.exf c f t)
section
variable {X:Cx} {e:Expr} {wa:WE} {pos:Pos}
theorem jraiseF{R:T->Prop}{c f:Str}{np cpos:Pos}{k:Nat}(G:FldCls X.K X.mg c f)(tk:Takes X R)(hca:X.calm=true)(hr:Room (k + 2) X.A)(hg:Gl X c)(ha:JE X e wa) (dc:(c==("__debug__" : Str))=false:=by decide)
  (he:starEach [e] X.env=(false,eval e X.env)::starEach [] X.env:=by exact star1 rfl) (hpl:(backTo cpos (starEach [e] X.env)).any (·.1)=false:=by exact stars rfl) :
  JS X (.Raise (some (.Call (.Name c np) [e] [] cpos)) none pos) (sRaiseF R c f wa):=by
 obtain⟨st,qual,self,x,y,m,C,CY,fI,mc,cd,rs,pl,p1,p2,p3,p4,p5,p6,p7,p8,p9,r1,r2,r3,r4,kk,fd,G⟩:=G
 obtain⟨oc,od,kV,doc,pm,an,cdv,ct,osl,rfl,lk,hcd⟩:=G.fn.ex
 obtain⟨oI,lkI,hcl⟩:=G.fc
 intro pins s σ H D I ⟨τ,D0,R0,hw,_⟩
 obtain⟨bm,N,nm,qn,bb,hd,sn,sub,ab,col,dd,k0,k1,k2,k3,k5,mN,hC,hN,hi,TT⟩:=own_at I.ok.mod.kin G.own
 have bd:=G.bd
 have ex0:=tk.ex
 rw[G.body]at lk bd
 refine raise_at (P:=fun v H1=>∃t,Same H H1/\Rep X.K H1 t v/\FldT t/\R (.exf c f t)) PySem.F.excBase_ValueError (by decide) (TT.hasType rfl) hC hN hi (I.ok.mod.kin _ _ lkI) hcl TT I hca hg G.mcl ha he hpl ⟨τ,_,R0,hw,fun t v H1 S1 r q=>⟨t,S1,r,q⟩⟩ (fun s2 v u h' a H2 I2 hP ru mk le=>?_) dc
 obtain⟨t,S2,rt,ft,hR⟩:=hP
 obtain⟨sv,l1,l2,all⟩:=fld_says ft rt G.ml
 have I2':Inv X pins σ H2 {s2 with heap:=h',toks:=s2.toks}:=I2.kept mk.keeps
 have A0:=I2'.env0
 have hA:Env0 X.prog X.w X.K X.mg X.base (X.A.under (.builtin "type.__call__" ⟨[.ref C,u],[]⟩)) X.stack {s2 with heap:=h' } H2:=⟨A0.frames,A0.mod,A0.bs,A0.bsz,A0.funs,A0.frf,A0.hok,A0.bare⟩
 refine init_run (j:=k) (pl:=pl) I2 mk le ru sv lk hcd G.sc G.v0 G.v1 G.gl (hr.make C [u] []) hA PySem.F.excBase_ValueError hC TT G.my l1 l2 G.sp G.rd G.fk (by decide) G.sa G.na G.ci G.mro G.hd (bd _ _ I2'.kIn rfl) (fun s' t1 d u' ru' ld q1 q2 J=>?_) G.dy G.d0 G.c0 G.d1 G.c1 G.ht G.sw
 refine⟨rfl,⟨t1,d,q1⟩,J,?_⟩
 obtain⟨od',hod,hlk⟩:=look_ns1 (f:=f) (u:=u') q2 (by rw[if_pos rfl])
 have nd:s2.heap.get? d=none:=Heap.get?_none_of_le ld
 have ltd:∀{b:Addr}{o:Obj},s2.heap.get? b=some o->b≠d:=fun q z=>by rw[z,nd]at q;cases q
 obtain⟨mL,hnL,_⟩:=I2.loc
 obtain⟨oL,esL,epL,hoL,_⟩:=id hnL
 have hdn:=fresh_H I2 nd
 have Jt:Inv X pins σ (upd H2 d (kn od')) s':=Inv.track J hdn hod (fresh_0 I2 ex0 nd) (Ne.symm (ltd hoL)) (fun x c q=>by obtain⟨v,o,e,_⟩:=I2.cell x c q;exact ltd e) fun p hp=>ltd (I2.pin p hp).1
 have ts:Same H2 (upd H2 d (kn od')):=track_same hdn
 have nda:a≠d:=fun z=>by
  rw[z,hod]at q1
  cases q1
  cases hlk
 refine tk.new pins σ _ s' a C t1 (some d) Jt ((R0.same.trans S2).trans ts) q1 ?_ (fresh_0 I2 ex0 mk.new) ⟨c,G.cl,f,t,od',u',v,upd_same,hlk,ru',all _,hR⟩
 rw[upd_ne nda]
 exact fresh_H I2 mk.new
end
end TL
end
section
namespace TL
open PySem PySem.Spec PyProof.Rows L2
section
variable {prog:Program} {w:World} {A:Around} {E:Value->Shared->Prop} {h:Heap} {g:Array GenState} {d:Drawn} {t:Nat} {os:OsState} {a C:Addr} {o:Obj} {K:PySem.W.Frag}
structure ClsTold(K:PySem.W.Frag)(C:Addr):Prop where
 ga:PySem.W.findIn K (.ref C) "__getattribute__" = some (some (.builtin "BaseException.__getattribute__"))
 cl:PySem.W.findIn K (.ref C) "__class__" = some (some (.builtin "object.__class__"))
 no:PySem.W.findIn K (.ref C) "__getattr__" = some none
 sb:PySem.W.subIn K (.ref C) (.type "BaseException")=some true
 so:PySem.W.subIn K (.ref C) (.type "object")=some true
theorem exc_get{R:Result->Shared->Prop}(X:K.In h)(T:ClsTold K C)(hx:h.get? a=some o)(hc:o.cls=.ref C)(hq:R (.ok (.ret (.ref C))) ⟨h,g,d,t,os⟩) :
  codeAny (model prog w) A (.call (.builtin "getset_descriptor.__get__") ⟨[.builtin "object.__class__", .ref a,.ref C],[]⟩) R ⟨h,g,d,t,os⟩:=by
 have hT5:(⟨h,g,d,t,os⟩:Shared).TypeIs (.builtin "object.__class__") "getset_descriptor" := F.typeOf_object_class
 have S2:PySem.W.Looks (model prog w) h (isSubtype (.ref C) (.type (".".intercalate ("object.__class__".cutAt '.').dropLast))) true:=by
  rw[F.owner_object_class]
  exact PySem.W.looks_subIn X T.so
 refine codeAny_call_builtin F.slot_gs_get.plain F.entry_gs_get (F.slot_gs_get.check _ _ _ _ _ _ _ _ hT5 (F.args_gs_get _ _ _) ?_)
 repeat (any_goals (first|assumption|(with_reducible refine wpAny_loadPart_at hx ?_;rw[hc])|with_reducible refine S2.at ?_|wp_step))
 refine⟨Code.quiet_builtin _ (by decide +kernel),codeAny_builtin F.entry_object_class ?_⟩
 repeat (any_goals (first|assumption|(with_reducible refine wpAny_loadPart_at hx ?_;rw[hc])|wp_step))
theorem exc_entry{tk:Tok}{Q:Fin->Shared->Prop}(X:K.In h)(T:ClsTold K C)(hx:h.get? a=some o)(hc:o.cls=.ref C)(hq:Q (.done (.ret (.ref C))) ⟨h,g,d,t,os⟩) :
  wpAny (model prog w) A (Builtin.«object.__getattribute__» ⟨[.ref a,.str "__class__" tk],[]⟩) Q E ⟨h,g,d,t,os⟩:=by
 have hT5:(⟨h,g,d,t,os⟩:Shared).TypeIs (.builtin "object.__class__") "getset_descriptor" := F.typeOf_object_class
 have L1:PySem.W.Looks (model prog w) h (typeLookup (.ref C) "__class__") _:=PySem.W.looks_findIn X T.cl
 have f5:=F.typeOf_object_class
 have f6:=F.slot_gs_get.lookup
 have f7:=F.slot_gs_set.lookup
 repeat (any_goals (first|assumption|(with_reducible refine wpAny_loadPart_at hx ?_;rw[hc])|with_reducible refine L1.at ?_|wp_step))
 refine exc_get X T hx hc ?_
 repeat (any_goals (first|assumption|wp_step))
theorem exc_check{M:Model}{nameV:Value}{Q:Unit->Shared->Prop}(X:K.In h)(T:ClsTold K C)(hx:h.get? a=some o)(hc:o.cls=.ref C)(hq:Q () ⟨h,g,d,t,os⟩):wpAny M A (checkBuiltinCall "BaseException.__getattribute__" ⟨[.ref a,nameV],[]⟩) Q E ⟨h,g,d,t,os⟩:=by
 have k1:builtinKind "BaseException.__getattribute__" = some .slot:=by decide +kernel
 have k2:splitId "BaseException.__getattribute__" = some ("BaseException", "__getattribute__"):=by decide +kernel
 have S1:PySem.W.Looks M h (isSubtype (.ref C) (.type "BaseException")) true:=PySem.W.looks_subIn X T.sb
 have hargs:=F.args_bexc_ga (.ref a) nameV
 simp only[checkBuiltinCall,k1,k2]
 refine wpAny_bind ?_
 unfold isInstance
 repeat (first|(with_reducible refine wpAny_loadPart_at hx ?_;rw[hc])|with_reducible refine S1.at ?_|wp_step)
 exact hq
theorem exc_by{tk:Tok}{Q:Value->Shared->Prop}(X:K.In h)(T:ClsTold K C)(hx:h.get? a=some o)(hc:o.cls=.ref C)(hq:Q (.ref C) ⟨h,g,d,t,os⟩):wpAny (model prog w) A (getAttrBy (.ref a) (.str "__class__" tk) false) Q E ⟨h,g,d,t,os⟩:=by
 have L1:PySem.W.Looks (model prog w) h (typeLookup (.ref C) "__getattribute__") _:=PySem.W.looks_findIn X T.ga
 have L2:PySem.W.Looks (model prog w) h (typeLookup (.ref C) "__getattr__") _:=PySem.W.looks_findIn X T.no
 have f3:=F.excAttr_ValueError.ga.bind (.ref a)
 have x2:(Value.builtin "BaseException.__getattribute__" == Value.builtin "object.__getattribute__")=false:=by decide +kernel
 have x1:(onTheHeap (Value.ref C)&&Value.builtin "BaseException.__getattribute__" == Value.builtin "object.__getattribute__")=false:=by rw[x2];rfl
 repeat (any_goals (first|assumption|(with_reducible refine wpAny_loadPart_at hx ?_;rw[hc])|with_reducible refine L1.at ?_|with_reducible refine L2.at ?_|wp_step))
 refine codeAny_call_builtin F.excAttr_ValueError.ga.plain F.entry_bexc_ga (exc_check X T hx hc (exc_entry X T hx hc ?_))
 repeat (any_goals (first|assumption|wp_step))
theorem exc_attr{Q:Option Value->Shared->Prop}(X:K.In h)(T:ClsTold K C)(hx:h.get? a=some o)(hc:o.cls=.ref C)(hq:Q (some (.ref C)) ⟨h,g,d,t + 1,os⟩):wpAny (model prog w) A (getAttr? (.ref a) "__class__") Q E ⟨h,g,d,t,os⟩:=by
 unfold getAttr? getAttrBy?
 repeat (any_goals (first|assumption|with_reducible apply exc_by X T hx hc|wp_step))
end
end TL
end
section
namespace TL
open PySem PySem.Spec PyProof.Rows L2
def IsCls(K:PySem.W.Frag)(C:Addr):Prop:=∃oc od cd sl,K.lookup C=some ⟨oc,od,.cls cd,sl⟩
theorem isCls_of{K:PySem.W.Frag}{C:Addr}{bs:List Value}{id:String}(q:PySem.W.excIn K C bs id=true):IsCls K C:=by
 unfold PySem.W.excIn at q
 split at q
 ·rename_i ho;exact⟨_,_,_,_,ho⟩
 ·cases q
theorem isCls_own{K:PySem.W.Frag}{C fI:Addr}(q:ownIn K C fI=true):IsCls K C:=by
 unfold ownIn at q
 split at q
 ·rename_i ho;exact⟨_,_,_,_,ho⟩
 ·cases q
theorem kitx_exc{K:PySem.W.Frag}{a C:Addr}(T:ClsTold K C)(hC:IsCls K C):PySem.W.KitX K (.ref a) (.ref C) (fun h=>∃o,h.get? a=some o/\o.cls=.ref C):=by
 obtain⟨oc,od,cd,sl,hC⟩:=hC
 constructor
 case ty=>exact fun M h _ ⟨o,h1,h2⟩=>h2 ▸ (PySem.W.Looks.ld h1).andThen .now
 case it =>
  intro M h X _ A Q E s k q
  unfold isType loadHead
  exact wpAny_bind (wpAny_loadPart (k _ _ (X _ _ hC)) (wpAny_pure q))
 case ne =>
  intro h tp dd its n sl' X htp
  refine Bool.eq_false_iff.mpr fun q=>?_
  have e:C=tp:=Value.ref.inj (beq_iff_eq.mp q)
  subst e
  have z:=(X _ _ hC).symm.trans htp
  cases z
 case ca =>
  intro prog w A E Q s X ⟨o,h1,h2⟩ k
  obtain⟨h,g,d,t,os⟩:=s
  exact exc_attr X T h1 h2 k
section
variable {X:Cx} {e:Expr} {es:List Expr} {wa:WE} {pos:Pos}
def Ans1(K:PySem.W.Frag)(v:Value)(cs:List (Str×Bool)):Prop:=∀c b,cs.lookup c=some b->∀C,clsAt K c C->ClsTold K C/\IsCls K C/\PySem.W.kitOne K (.ref C) v=some b
def AnsN(K:PySem.W.Frag)(vs:List Value)(cs:List (Str×Bool)):Prop:=∀c b,cs.lookup c=some b->∀C,clsAt K c C->ClsTold K C/\IsCls K C/\PySem.W.kitAny K (.ref C) vs=some b
def wIsE(cs:List (Str×Bool))(wa:WE):WE:=fun τ Q=>wa τ fun t=>match t with | .exc c=>(match cs.lookup c with|some b=>Q (.bl b)|none=>False) | .exf c _ _=>(match cs.lookup c with|some b=>Q (.bl b)|none=>False)|_=>False
theorem exc_now{pins:List (Addr×Obj)}{σ:St}{H:Hp}{s:Shared}{c:Str}{p:Addr}(I:Inv X pins σ H s)(q:ExcAt X.K H c p):∃C,clsAt X.K c C/\∃o,s.heap.get? p=some o/\o.cls=.ref C:=by
 obtain⟨o,C,ws,h1,h2,h3,h4⟩:=q.ex
 exact⟨C,h4,o,(I.hok p _ h1).1,h2⟩
theorem isE_at{K:PySem.W.Frag}{H:Hp}{t:T}{v:V}{cs:List (Str×Bool)}{Q:T->Prop}(q:match t with | .exc c=>(match cs.lookup c with|some b=>Q (.bl b)|none=>False) | .exf c _ _=>(match cs.lookup c with|some b=>Q (.bl b)|none=>False)|_=>False)(r:Rep K H t v) :
  ∃p c b,v=.ref p/\ExcAt K H c p/\cs.lookup c=some b/\Q (.bl b):=by
 have look:∀c:Str,(match cs.lookup c with|some b=>Q (.bl b)|none=>False)->∃b,cs.lookup c=some b/\Q (.bl b):=fun c q=>by
  cases z:cs.lookup c with
  | none=>rw[z]at q;exact q.elim
  | some b=>rw[z]at q;exact⟨b,rfl,q⟩
 cases t with
 | exc c =>
  obtain⟨p,rfl,hp⟩:=rep_exc.mp r
  obtain⟨b,e,q⟩:=look c q
  exact⟨p,c,b,rfl,hp,e,q⟩
 | exf c f u =>
  obtain⟨p,rfl,_,_,_,_,hp,_⟩:=rep_exf.mp r
  obtain⟨b,e,q⟩:=look c q
  obtain⟨o,C,ws,h1,h2,h3,_,h4⟩:=hp.ex
  exact⟨p,c,b,rfl,⟨o,C,ws,h1,h2,h3,h4⟩,e,q⟩
 | _=>exact q.elim
theorem call_isE1{v:Value}{v':V}{cs:List (Str×Bool)}(hv:∀u,RelV v' u->u=v)(G:Ans1 X.K v cs):CallR X (.builtin "isinstance") (fun xs H Q=>∃p c b,xs=[.ref p,v']/\ExcAt X.K H c p/\cs.lookup c=some b/\Q (.bl b) H):=by
 intro pins s σ H xs us Q I r h
 obtain⟨p,c,b,rfl,hp,hl,q⟩:=h
 obtain⟨u,u',rfl,rx,r2⟩:=vals2 r
 cases rx
 obtain rfl:=hv u' r2
 obtain⟨C,hC,ho⟩:=exc_now I hp
 obtain⟨g1,g2,g3⟩:=G c b hl C hC
 exact PySem.W.kia_one (kitx_exc g1 g2) I.kIn ho g3 (fun z=>nomatch z) fun tk=>⟨.bl b,H,I.tok tk,rfl,q⟩
theorem jisO{p pc:Pos}{y:Str}{D:Addr}{cs:List (Str×Bool)}(G:Ans1 X.K (.ref D) cs)(ha:JE X e wa) (hg:Gl X "isinstance") (hm:X.mg "isinstance" = none) (hgc:Gl X y) (hmc:X.mg y=some (.ref D))
  (hd:(y==("__debug__" : Str))=false:=by decide) (hs:starEach [e,.Name y pc] X.env=(false,eval e X.env)::starEach [.Name y pc] X.env:=by exact star1 rfl) (hs1:starEach [.Name y pc] X.env=(false,eval (.Name y pc) X.env)::starEach [] X.env:=by exact star1 rfl)
  (hpl:(backTo pos (starEach [.Name y pc] X.env)).any (·.1)=false:=by exact stars rfl):JE X (.Call (.Name "isinstance" p) [e,.Name y pc] [] pos) (wIsE cs wa):=by
 refine pe_of (pe_callB (call_isE1 (v':=.ref D) (fun u r=>r) G) hg hm boot_isinstance (pa_cons ha (pa_cons (pe_glob (v:=.ref D) hgc hmc rfl hd) pa_nil hs1) hs) (by decide) (by decide) hs hpl) fun σ H Q ⟨τ,Q0,R,hw,k⟩=>?_
 refine⟨τ,_,R,hw,fun t v H1 S1 r1 q1=>?_⟩
 obtain⟨p,c,b,rfl,hp,z,q⟩:=isE_at q1 r1
 exact⟨p,c,b,rfl,hp,z,k _ _ H1 S1 (rep_bl.mpr rfl) q⟩
theorem jisB{p pc:Pos}{y:Str}{T:String}{cs:List (Str×Bool)}(G:Ans1 X.K (.type T) cs)(ha:JE X e wa) (hg:Gl X "isinstance") (hm:X.mg "isinstance" = none) (hgc:Gl X y) (hmc:X.mg y=none) (hvc:bootBuiltins y=some (.type T))
  (hn:y ≠ "__name__" := by decide) (hd:(y==("__debug__" : Str))=false:=by decide) (hs:starEach [e,.Name y pc] X.env=(false,eval e X.env)::starEach [.Name y pc] X.env:=by exact star1 rfl) (hs1:starEach [.Name y pc] X.env=(false,eval (.Name y pc) X.env)::starEach [] X.env:=by exact star1 rfl)
  (hpl:(backTo pos (starEach [.Name y pc] X.env)).any (·.1)=false:=by exact stars rfl):JE X (.Call (.Name "isinstance" p) [e,.Name y pc] [] pos) (wIsE cs wa):=by
 refine pe_of (pe_callB (call_isE1 (v':=.ty T) (fun u r=>r) G) hg hm boot_isinstance (pa_cons ha (pa_cons (pe_bltn (v:=.ty T) hgc hmc hvc rfl hn hd) pa_nil hs1) hs) (by decide) (by decide) hs hpl) fun σ H Q ⟨τ,Q0,R,hw,k⟩=>?_
 refine⟨τ,_,R,hw,fun t v H1 S1 r1 q1=>?_⟩
 obtain⟨p,c,b,rfl,hp,z,q⟩:=isE_at q1 r1
 exact⟨p,c,b,rfl,hp,z,k _ _ H1 S1 (rep_bl.mpr rfl) q⟩
def ClsRow(X:Cx)(es:List Expr)(Ds:List Addr):Prop:=PA X es (fun σ H Q=>Q (Ds.map V.ref) H)
theorem crow0:ClsRow X [] []:=pa_nil
theorem crow{y:Str}{D:Addr}{pc:Pos}{Ds:List Addr}(hg:Gl X y)(hm:X.mg y=some (.ref D))(h:ClsRow X es Ds) (hd:(y==("__debug__" : Str))=false:=by decide):ClsRow X (.Name y pc::es) (D::Ds) :=
 pa_of (pa_cons (pe_glob (v:=.ref D) hg hm rfl hd) h (star1 rfl)) fun σ H Q q=>q
theorem vals_refs:∀{Ds:List Addr}{us:List Value},Vals (Ds.map V.ref) us->us=Ds.map Value.ref
 | [],_,.nil=>rfl
 | d::Ds,_,.cons r rr=>by rw[vals_refs rr];cases r;rfl
theorem call_isEN{Ds:List Addr}{cs:List (Str×Bool)}(G:AnsN X.K (Ds.map Value.ref) cs):CallR X (.builtin "isinstance") (fun xs H Q=>∃p c b tp,xs=[.ref p,.ref tp]/\ExcAt X.K H c p/\H tp=some (.tup (Ds.map V.ref))/\cs.lookup c=some b/\Q (.bl b) H):=by
 intro pins s σ H xs us Q I r h
 obtain⟨p,c,b,tp,rfl,hp,htp,hl,q⟩:=h
 obtain⟨u,u',rfl,rx,r2⟩:=vals2 r
 cases rx
 cases r2
 obtain⟨C,hC,ho⟩:=exc_now I hp
 obtain⟨g1,g2,g3⟩:=G c b hl C hC
 obtain⟨_,its,rv,ob,e1,e2,n,e3⟩:=I.hok tp _ htp
 have:=vals_refs rv
 subst this
 obtain⟨c0,d0,dt,sl⟩:=ob
 dsimp only at e2 e3
 subst e2 e3
 exact PySem.W.kia_tup (kitx_exc g1 g2) I.kIn ho e1 g3 (fun z=>nomatch z) fun tk=>⟨.bl b,H,I.tok tk,rfl,q⟩
theorem jisN{p pc:Pos}{k1:Nat}{ys:List Expr}{Ds:List Addr}{cs:List (Str×Bool)}(G:AnsN X.K (Ds.map Value.ref) cs)(hl:Ds.length<=1000)(ha:JE X e wa) (hg:Gl X "isinstance") (hm:X.mg "isinstance" = none) (hy:ClsRow X ys Ds)
  (hs:starEach [e,.Tuple ys k1 pc] X.env=(false,eval e X.env)::starEach [.Tuple ys k1 pc] X.env:=by exact star1 rfl) (hs1:starEach [.Tuple ys k1 pc] X.env=(false,eval (.Tuple ys k1 pc) X.env)::starEach [] X.env:=by exact star1 rfl)
  (hpl:(backTo pos (starEach [.Tuple ys k1 pc] X.env)).any (·.1)=false:=by exact stars rfl):JE X (.Call (.Name "isinstance" p) [e,.Tuple ys k1 pc] [] pos) (wIsE cs wa):=by
 refine pe_of (pe_callB (call_isEN G) hg hm boot_isinstance (pa_cons ha (pa_cons (pe_tup hy) pa_nil hs1) hs) (by decide) (by decide) hs hpl) fun σ H Q ⟨τ,Q0,R,hw,k⟩=>?_
 refine⟨τ,_,R,hw,fun t v H1 S1 r1 q1=>⟨by rw[List.length_map];exact few hl,fun tp htp=>?_⟩⟩
 obtain⟨p,c,b,rfl,hp,z,q⟩:=isE_at q1 r1
 exact⟨p,c,b,tp,rfl,hp.kp (.of (same_new htp _)),upd_same,z,k _ _ _ (S1.trans (same_new htp _)) (rep_bl.mpr rfl) q⟩
end
end TL
namespace TL
open PySem PySem.Spec PyProof.Rows L2
section
variable {K:PySem.W.Frag} {mg:Str->Option Value} {c0 y:Str} {D DY:Addr} {b0:Bool} {v:Value} {vs:List Value}
theorem cls_same{C:Addr}(h:clsAt K c0 C)(d:clsAt K c0 D):C=D:=Value.ref.inj (Option.some.inj (Option.some.inj (h.symm.trans d)))
theorem ans1_nil:Ans1 K v []:=fun c b h=>by cases h
theorem ansN_nil:AnsN K vs []:=fun c b h=>by cases h
theorem look_cons{c:Str}{b:Bool}{cs:List (Str×Bool)}(h:List.lookup c ((c0,b0)::cs)=some b):(c=c0/\b=b0)∨cs.lookup c=some b:=by
 rw[List.lookup]at h
 split at h
 ·rename_i q
  exact .inl ⟨beq_iff_eq.mp q,(Option.some.inj h).symm⟩
 ·exact .inr h
theorem ans1_cons{cs:List (Str×Bool)}(d:clsAt K c0 D)(T:ClsTold K D)(I:IsCls K D)(k:PySem.W.kitOne K (.ref D) v=some b0)(r:Ans1 K v cs):Ans1 K v ((c0,b0)::cs):=fun c b h C hC=>by
 rcases look_cons h with ⟨rfl,rfl⟩|h
 ·obtain rfl:=cls_same hC d
  exact⟨T,I,k⟩
 ·exact r c b h C hC
theorem ansN_cons{cs:List (Str×Bool)}(d:clsAt K c0 D)(T:ClsTold K D)(I:IsCls K D)(k:PySem.W.kitAny K (.ref D) vs=some b0)(r:AnsN K vs cs):AnsN K vs ((c0,b0)::cs):=fun c b h C hC=>by
 rcases look_cons h with ⟨rfl,rfl⟩|h
 ·obtain rfl:=cls_same hC d
  exact⟨T,I,k⟩
 ·exact r c b h C hC
theorem catches_nil(m:mg y=some (.ref DY)):Catches K mg y []:=⟨DY,m,fun c h=>by cases h⟩
theorem catches_cons{cs:List Str}(d:clsAt K c0 D)(m:mg y=some (.ref DY))(k:PySem.W.exmOne K (.ref D) (.ref DY)=some true)(r:Catches K mg y cs):Catches K mg y (c0::cs):=by
 obtain⟨E,hE,r⟩:=r
 obtain rfl:DY=E:=Value.ref.inj (Option.some.inj (m.symm.trans hE))
 refine⟨DY,m,fun c h C hC=>?_⟩
 rcases List.mem_cons.mp h with rfl|h
 ·obtain rfl:=cls_same hC d
  exact k
 ·exact r c h C hC
end
structure GetC(K:PySem.W.Frag)(f:Str)(C:Addr)(cd:ClassData)(rs:List Addr):Prop where
 ga:PySem.W.findIn K (.ref C) "__getattribute__" = some (some (.builtin "BaseException.__getattribute__"))
 no:PySem.W.findIn K (.ref C) "__getattr__" = some none
 ci:PySem.W.clsIn K C=some cd
 mro:cd.mro=rs.map Value.ref++mroVE
 hd:cd.hasDict=true
 na:PySem.W.findIn K (.ref C) f=some none
def GetF(K:PySem.W.Frag)(f:Str)(cs:List Str):Prop:=∀c∈cs,∀C,clsAt K c C->∃cd rs,GetC K f C cd rs
theorem getF_nil{K:PySem.W.Frag}{f:Str}:GetF K f []:=fun c h=>by cases h
theorem getF_cons{K:PySem.W.Frag}{f c0:Str}{D:Addr}{cs:List Str}{cd:ClassData}{rs:List Addr}(d:clsAt K c0 D)(g:GetC K f D cd rs)(r:GetF K f cs):GetF K f (c0::cs):=fun c h C hC=>by
 rcases List.mem_cons.mp h with rfl|h
 ·obtain rfl:=cls_same hC d
  exact⟨cd,rs,g⟩
 ·exact r c h C hC
theorem handed_rep{K:PySem.W.Frag}{H:Hp}{t:T}{v:V}{u:Value}(r:Rep K H t v)(h:RelV v u):PySem.W.handedIn u=true:=by
 cases t with
 | non=>obtain rfl:=rep_non.mp r;obtain rfl:u=.none:=h;rfl
 | bl b=>obtain rfl:=rep_bl.mp r;obtain rfl:u=.bool b:=h;rfl
 | int i=>obtain rfl:=rep_int.mp r;obtain⟨t,rfl⟩:=h;rfl
 | str x=>obtain rfl:=rep_str.mp r;obtain⟨t,rfl⟩:=h;rfl
 | tup ts=>obtain⟨p,_,rfl,_⟩:=rep_tup.mp r;obtain rfl:u=.ref p:=h;rfl
 | lst ts=>obtain⟨p,_,rfl,_⟩:=rep_lst.mp r;obtain rfl:u=.ref p:=h;rfl
 | dct=>obtain⟨p,rfl,_⟩:=rep_dct.mp r;obtain rfl:u=.ref p:=h;rfl
 | exc c=>obtain⟨p,rfl,_⟩:=rep_exc.mp r;obtain rfl:u=.ref p:=h;rfl
 | exf c f t=>obtain⟨p,rfl,_⟩:=rep_exf.mp r;obtain rfl:u=.ref p:=h;rfl
 | dic ks ts=>obtain⟨p,o,kvs,rfl,_⟩:=rep_dic.mp r;obtain rfl:u=.ref p:=h;rfl
def wFld(f:Str)(cs:List Str)(wa:WE):WE:=fun τ Q=>wa τ fun t=>match t with | .exf c g u=>g=f/\c∈cs/\Q u|_=>False
section
variable {X:Cx} {e:Expr} {wa:WE} {pos:Pos}
theorem jfld{f:Str}{cs:List Str}(G:GetF X.K f cs)(ha:JE X e wa)(hb:attributeBase e f X.env (eval e X.env)=eval e X.env:=by rfl):JE X (.Attribute e f pos) (wFld f cs wa):=by
 intro pins s σ H Q I ⟨τ,Q0,R,hw,k⟩
 refine attr_of hb (thn (ha pins s σ H (fun v H1=>∃t,Same H H1/\Rep X.K H1 t v/\(match t with | .exf c g u=>g=f/\c∈cs/\Q0 u|_=>False)) I ⟨τ,_,R,hw,fun t v H1 S1 r q=>⟨t,S1,r,q⟩⟩) fun u s1 ⟨x,H1,I1,rx,t,S1,rt,q⟩=>?_)
 cases t with
 | exf c g t =>
  obtain⟨rfl,hc,q⟩:=q
  obtain⟨p,rfl,d,od,u',y,E,ry,rt'⟩:=rep_exf.mp rt
  obtain⟨o,C,ws,h1,h2,h3,h4,h5⟩:=E.ex
  obtain⟨cd,rs,g⟩:=G _ hc C h5
  have ox:=(I1.hok p _ h1).1
  have odx:=(I1.hok d _ E.dict).1
  have IA:PySem.W.InstAt s1.heap p o C (some od):=⟨ox,h2,by unfold PySem.W.notCls;rw[h3],by rw[h4];exact odx⟩
  obtain rfl:u=.ref p:=rx
  have hh:PySem.W.hasDictIn X.K C=true:=by unfold PySem.W.hasDictIn;rw[g.ci];exact g.hd
  exact get_exc I1.kIn IA g.ga g.no g.ci g.mro (PySem.W.findObj_own hh g.na rfl E.look) (handed_rep rt' ry) ⟨y,H1,I1.tok _,ry,k t y H1 S1 rt' q⟩
 | _=>exact q.elim
end
end TL
end
section
namespace TL
open PySem PySem.Spec PyProof.Rows L2
section
variable {X:Cx} {a b c e:Expr} {es:List Expr} {wa wb wc w:WE} {pos:Pos}
def wOIx(i:Nat)(wb:WE):WE:=fun τ Q=>match sget τ i with
 | .own ts=>wb τ fun y=>(match y with | .int k=>(match atI ts k with|some t=>Q t|none=>False)|_=>False)
 | _=>False
def wOLen(i:Nat):WE:=fun τ Q=>match sget τ i with | .own ts=>Q (.int ts.length)|_=>False
theorem jlenO{i:Nat}{x:Str}{p pc:Pos}(hv:PE X (.Name x p) (tVar i)) (hg:Gl X "len") (hm:X.mg "len" = none) (hb:bootBuiltins "len" = some (.builtin "len"):=by rfl)
  (he:starEach [.Name x p] X.env=(false,eval (.Name x p) X.env)::starEach [] X.env:=by exact star1 rfl) (hpl:(backTo pos (starEach [] X.env)).any (·.1)=false:=by exact stars rfl) :
  JE X (.Call (.Name "len" pc) [.Name x p] [] pos) (wOLen i):=pe_of (pe_callB call_len_seq hg hm hb (pa_cons hv pa_nil he) (by decide) (by decide) he hpl) fun σ H Q ⟨τ,Q0,R,hw,k⟩=>by
 unfold wOLen at hw
 cases own:sget τ i with
 | no=>rw[own]at hw;exact hw.elim
 | val t=>rw[own]at hw;exact hw.elim
 | see t=>rw[own]at hw;exact hw.elim
 | dic t=>rw[own]at hw;exact hw.elim
 | vat t v=>rw[own]at hw;exact hw.elim
 | owd p q=>rw[own]at hw;exact hw.elim
 | own ts =>
  rw[own]at hw
  have sl:=R.slot i
  rw[own]at sl
  obtain⟨q,vs,ev,hp,rr,n0⟩:=sl
  refine⟨.ref q,ev,?_⟩
  exact⟨q,vs,rfl,.inl (SqL.of hp),by rw[rr.length];exact k _ _ H (.refl H) (rep_int.mpr rfl) hw⟩
def tONe(i:Nat):WT:=fun τ Q=>match sget τ i with | .own ts=>Q (!ts.isEmpty)|_=>False
end
end TL
end
section
namespace TL
open PySem PySem.Spec PyProof.Rows L2
section
variable {X:Cx} {a b c e:Expr} {es:List Expr} {wa wb wc w:WE} {pos:Pos}
def rIxST(x y:T)(Q:T->Prop):Prop:=match x,y with
 | .str z,.int i=>z.length<=1000/\(match atI z.cps.toList i with|some c=>Q (.str ⟨#[c]⟩)|none=>False)
 | _,_=>False
theorem jixS(ha:JE X a wa)(hb:JE X b wb)(hs:PlainIx b:=by intro _ _;rfl):JE X (.Subscript a b pos) (w2 rIxST wa wb):=pe_of (pe_ix ix_seq ha hb hs) (up2 fun t1 t2 v1 v2 H Q0 Q r1 r2 q k=>by
 cases t1<;>cases t2<;>first|exact q.elim|skip
 rename_i z i
 obtain⟨hz,q⟩:z.length<=1000/\(match atI z.cps.toList i with|some c=>Q0 (.str ⟨#[c]⟩)|none=>False):=q
 cases e:atI z.cps.toList i with
 | none=>rw[e]at q;exact q.elim
 | some c =>
  rw[e]at q
  exact .inr (.inr ⟨z,i,c,rep_str.mp r1,rep_int.mp r2,few hz,e,k _ _ H (.refl H) (rep_str.mpr rfl) q⟩))
def rAddST(x y:T)(Q:T->Prop):Prop:=match x,y with
 | .str i,.str j=>i.length + j.length<=1000/\Q (.str (i++j))
 | _,_=>False
theorem b_addS:BR X .Add rAddST:=⟨_,op_add_str,fun t1 t2 v1 v2 H Q0 Q r1 r2 q k=>by
 cases t1<;>cases t2<;>first|exact q.elim|skip
 rename_i i j
 obtain⟨hz,q⟩:i.length + j.length<=1000/\Q0 (.str (i++j)):=q
 exact⟨i,j,rep_str.mp r1,rep_str.mp r2,few hz,k _ _ H (.refl H) (rep_str.mpr rfl) q⟩⟩
def repS(z:Str)(n:Int):Str:=if n < 1 then Str.empty else if (n==1||z.length==0)=true then z else ⟨(List.replicate n.toNat z.cps).foldl (· ++ ·) #[]⟩
def rMulST(x y:T)(Q:T->Prop):Prop:=match x,y with
 | .str z,.int n=>z.length<=1/\0<=n/\n<=1000/\Q (.str (repS z n))
 | _,_=>False
theorem op_mulS:OpR X (binaryOp .Mult) (fun x y H Q=>∃z n,x=.str z/\y=.int n/\z.length<=1/\0<=n/\n<=1000/\Q (.str (repS z n)) H):=by
 intro pins s σ H x y v u Q I rx ry h
 obtain⟨z,n,rfl,rfl,hz,h0,h1,q⟩:=h
 obtain⟨t,rfl⟩:=rx
 obtain⟨t',rfl⟩:=ry
 have e1:decide (n < -(2 ^ 63:Int))=false:=decide_eq_false (by omega)
 have e2:decide (n ≥ 2 ^ 63)=false:=decide_eq_false (by omega)
 have line:1000<=sizeLine:=few (Nat.le_refl _)
 refine PySem.P.mul_str (by rw[e1,e2];rfl) (fun _ _=>?_) (fun _ _=>?_) ?_
 ·have:(1000:Int)<=(2 ^ 63 - 1) / n:=by
   have hn:0 < n:=by omega
   have:=Int.le_ediv_of_mul_le hn (show (1000:Int) * n<=2 ^ 63 - 1 by omega)
   exact this
  omega
 ·have:z.length * n.toNat<=1000:=by
   have:z.length * n.toNat<=1 * n.toNat:=Nat.mul_le_mul_right _ hz
   omega
  unfold Builtin.Str.tooLong
  simp only[decide_eq_false_iff_not]
  omega
 ·unfold repS at q
  split
  ·rename_i hn
   rw[if_pos hn]at q
   exact⟨by decide,.str _,H,I.tok _,⟨_,rfl⟩,q⟩
  ·rename_i hn
   rw[if_neg hn]at q
   split
   ·rename_i hc
    rw[if_pos hc]at q
    exact⟨.str z,H,I,⟨_,rfl⟩,q⟩
   ·rename_i hc
    rw[if_neg hc]at q
    refine⟨?_,.str _,H,I.tok _,⟨_,rfl⟩,q⟩
    have e:=len_reps z.cps n.toNat #[]
    show (List.foldl (fun x1 x2=>x1++x2) #[] (List.replicate n.toNat z.cps)).size<=sizeLine
    have hz':z.cps.size<=1:=hz
    have:n.toNat * z.cps.size<=n.toNat * 1:=Nat.mul_le_mul_left _ hz'
    simp only[Array.size_empty,Nat.zero_add]at e
    rw[e]
    omega
theorem b_mulS:BR X .Mult rMulST:=⟨_,op_mulS,fun t1 t2 v1 v2 H Q0 Q r1 r2 q k=>by
 cases t1<;>cases t2<;>first|exact q.elim|skip
 rename_i z n
 obtain⟨hz,h0,h1,q⟩:z.length<=1/\0<=n/\n<=1000/\Q0 (.str (repS z n)):=q
 exact⟨z,n,rep_str.mp r1,rep_int.mp r2,hz,h0,h1,k _ _ H (.refl H) (rep_str.mpr rfl) q⟩⟩
def tTruT(wa:WE):WT:=fun τ Q=>wa τ fun x=>match x with | .bl k=>Q k | .lst ts=>Q (!ts.isEmpty)|_=>False
def strsOf:List T->Option (List Str)
 | []=>some []
 | .str z::r=>(strsOf r).map (z :: ·)
 | _=>none
theorem strsOf_eq:∀{ts:List T}{zs:List Str},strsOf ts=some zs->ts=zs.map T.str
 | [],zs,h=>by simp only[strsOf,Option.some.injEq]at h;subst h;rfl
 | t::r,zs,h=>by
  cases t<;>simp only[strsOf,reduceCtorEq]at h
  rename_i z
  cases e:strsOf r with
  | none=>rw[e]at h;cases h
  | some us =>
   rw[e]at h
   simp only[Option.map_some,Option.some.injEq]at h
   subst h
   rw[strsOf_eq e]
   rfl
theorem strsOf_map(zs:List Str):strsOf (zs.map T.str)=some zs:=by
 induction zs with
 | nil=>rfl
 | cons z r ih=>simp only[List.map_cons,strsOf,ih,Option.map_some]
theorem reps_strs_inv{K:PySem.W.Frag}{H:Hp}:∀{zs:List Str}{vs:List V},Reps K H (zs.map T.str) vs->vs=zs.map V.str
 | [],vs,r=>by rw[List.map_nil,reps_nil]at r;exact r
 | z::zs,vs,r=>by
  rw[List.map_cons,reps_cons]at r
  obtain⟨v,vr,rfl,r1,r2⟩:=r
  rw[rep_str.mp r1,reps_strs_inv r2]
  rfl
def cInT(x y:T)(Q:Bool->Prop):Prop:=match x,y with
 | .str z,.lst ts=>(match strsOf ts with|some zs=>Q (zs.contains z)|none=>False)
 | .int z,.lst ts=>(match intsOf ts with|some zs=>Q (zs.contains z)|none=>False)
 | _,_=>False
def cNotInT(x y:T)(Q:Bool->Prop):Prop:=match x,y with
 | .str z,.lst ts=>(match strsOf ts with|some zs=>Q (!zs.contains z)|none=>False)
 | .int z,.lst ts=>(match intsOf ts with|some zs=>Q (!zs.contains z)|none=>False)
 | _,_=>False
theorem flat_strs(zs:List Str):(zs.map V.str).all flatV=true:=by
 induction zs with
 | nil=>rfl
 | cons z r ih=>rw[List.map_cons,List.all_cons,ih];rfl
theorem inV_strs(z:Str)(zs:List Str):inV (.str z) (zs.map V.str)=zs.contains z:=by
 unfold inV
 induction zs with
 | nil=>rfl
 | cons y r ih =>
  rw[List.map_cons,List.any_cons,ih,List.contains_cons]
  have:eqV (.str y) (.str z)=(z==y):=by
   show (y==z)=(z==y)
   exact Bool.eq_iff_iff.mpr ⟨fun h=>by rw[beq_iff_eq]at h ⊢;exact h.symm,fun h=>by rw[beq_iff_eq]at h ⊢;exact h.symm⟩
  rw[this]
theorem flat_ints(zs:List Int):(zs.map V.int).all flatV=true:=by
 induction zs with
 | nil=>rfl
 | cons z r ih=>rw[List.map_cons,List.all_cons,ih];rfl
theorem inV_ints(z:Int)(zs:List Int):inV (.int z) (zs.map V.int)=zs.contains z:=by
 unfold inV
 induction zs with
 | nil=>rfl
 | cons y r ih =>
  rw[List.map_cons,List.any_cons,ih,List.contains_cons]
  have:eqV (.int y) (.int z)=(z==y):=by
   show (decide (y=z))=(z==y)
   exact Bool.eq_iff_iff.mpr ⟨fun h=>by rw[decide_eq_true_eq]at h;rw[beq_iff_eq];exact h.symm,fun h=>by rw[beq_iff_eq]at h;rw[decide_eq_true_eq];exact h.symm⟩
  rw[this]
theorem c_in:CRT X .In cInT:=by
 refine⟨_,op_in_seq,fun t1 t2 v1 v2 H Q0 Q r1 r2 q k=>?_⟩
 cases t1<;>cases t2<;>first|exact q.elim|skip
 ·rename_i z ts
  have q':(match intsOf ts with|some zs=>Q0 (zs.contains z)|none=>False):=q
  cases e:intsOf ts with
  | none=>rw[e]at q';exact q'.elim
  | some zs =>
   rw[e]at q'
   rw[intsOf_eq e,rep_lst]at r2
   obtain⟨p,vs,rfl,sq,rr⟩:=r2
   have ev:=reps_ints_inv rr
   subst ev
   have ez:=rep_int.mp r1
   subst ez
   refine⟨p,_,rfl,.inl sq.sq,rfl,flat_ints zs,?_⟩
   rw[inV_ints]
   exact k _ q'
 ·rename_i z ts
  have q':(match strsOf ts with|some zs=>Q0 (zs.contains z)|none=>False):=q
  cases e:strsOf ts with
  | none=>rw[e]at q';exact q'.elim
  | some zs =>
   rw[e]at q'
   rw[strsOf_eq e,rep_lst]at r2
   obtain⟨p,vs,rfl,sq,rr⟩:=r2
   have ev:=reps_strs_inv rr
   subst ev
   have ez:=rep_str.mp r1
   subst ez
   refine⟨p,_,rfl,.inl sq.sq,rfl,flat_strs zs,?_⟩
   rw[inV_strs]
   exact k _ q'
theorem strsAre_of:∀{zs:List Str}{us:List Value},Vals (zs.map V.str) us->StrsAre us zs
 | [],us,h=>by cases h;exact .nil
 | z::zs,us,h=>by
  simp only[List.map_cons]at h
  cases h with
  | cons r1 r2=>obtain⟨t,rfl⟩:=r1;exact .cons z t (strsAre_of r2)
def rSortT(ts:List T)(Q:T->Prop):Prop:=match ts with
 | [.lst xs]=>(match strsOf xs with|some zs=>zs.length < 64/\∀us:List Str,us.Perm zs->sortedS us=true->Q (.lst (us.map T.str))|none=>False)
 | _=>False
end
end TL
end
section
namespace TL
open PySem PySem.Spec PyProof.Rows L2
section
variable {X:Cx}
def rIntT(ts:List T)(Q:T->Prop):Prop:=match ts with
 | [.int i]=>Q (.int i)
 | [.bl k]=>Q (.int (if k then 1 else 0))
 | _=>False
theorem ty_int:BlR X (.type "int") rIntT:=by
 refine⟨_,call_int1,fun ts vs H Q0 Q r q k=>?_⟩
 unfold rIntT at q
 split at q
 ·obtain⟨v,rfl,r1⟩:=reps1 r
  exact .inl ⟨_,by rw[rep_int.mp r1],k _ _ H (.refl H) (rep_int.mpr rfl) q⟩
 ·obtain⟨v,rfl,r1⟩:=reps1 r
  exact .inr ⟨_,by rw[rep_bl.mp r1],k _ _ H (.refl H) (rep_int.mpr rfl) q⟩
 ·exact q.elim
end
end TL
namespace TL
open PySem PySem.Spec PyProof.Rows L2
section
end
end TL
namespace TL
open PySem PySem.Spec PyProof.Rows L2
section
variable {X:Cx}
end
end TL
namespace TL
open PySem PySem.Spec PyProof.Rows L2
section
variable {X:Cx}
end
end TL
end
section
namespace TL
open PySem PySem.Spec PyProof.Rows L2
section
variable {X:Cx} {a b e:Expr} {wa wb:WE} {pos:Pos}
def rJoinV(K:PySem.W.Frag):V->List V->Hp->VK->Prop:=fun x vs H Q=>∃(sep:Str) (p:Addr) (zs:List Str),x=.str sep/\vs=[.ref p]/\SqL K H p (zs.map V.str)/\(zs.map (·.length)).sum + zs.length * sep.length<=16777216/\Q (.str (Txt.join sep zs)) H
theorem mt_join:MtR X "str.join" (rJoinV X.K):=by
 intro pins s σ H x vs v us Q I rx rv h
 obtain⟨sep,p,zs,rfl,rfl,hq,hl,q⟩:=h
 obtain⟨t,rfl⟩:=rx
 obtain⟨u,rfl,ru⟩:=vals1 rv
 cases ru
 obtain⟨its,r,pl,hz⟩:=I.list hq
 exact join_list pl.isList (by simpa using strsAre_of r) hl fun t' k=>⟨.str _,H,I.tok _,⟨_,rfl⟩,q⟩
def rJoinT(sep:Str)(y:T)(Q:T->Prop):Prop:=match y with
 | .lst ts=>(match strsOf ts with|some zs=>(zs.map (·.length)).sum + zs.length * sep.length<=16777216/\Q (.str (Txt.join sep zs))|none=>False)
 | _=>False
def rJoinTs(sep:Str)(ts:List T)(Q:T->Prop):Prop:=match ts with|[y]=>rJoinT sep y Q|_=>False
def wJoin(wa wb:WE):WE:=fun τ Q=>wa τ fun x=>match x with
 | .str sep=>wb τ fun y=>rJoinT sep y Q
 | _=>False
theorem jjoin{apos:Pos}(ha:JE X a wa)(hb:JE X b wb)(hst:starEach [b] X.env=[(false,eval b X.env)]:=by exact star1 rfl) (hbase:attributeBase a "join" X.env (eval a X.env)=eval a X.env:=by rfl)
  (hfew:((backTo pos (starEach [b] X.env)).all (fun x=>!x.1)&&(backToKw pos (keywordEach [] X.env)).all (fun x=>x.1.isSome)
   && decide ([b].length + ([]:List Keyword).length + (if ([]:List Keyword).isEmpty then 0 else 1) < 30))=true:=by rfl)
  (hline:(apos.endLine==pos.line)=true:=by rfl):JE X (.Call (.Attribute a "join" apos) [b] [] pos) (wJoin wa wb):=by
 refine pe_of (pe_bm F.plainAttrs_str F.slot_str_join F.type_str_join mt_join ha (ja hb ja0 hst) hbase hfew hline hst (stars rfl)) fun σ H Q ⟨τ,Q0,R,hw,k⟩=>?_
 refine⟨τ,_,R,hw,fun t v H1 S1 r1 q1=>?_⟩
 cases t<;>first|exact q1.elim|skip
 rename_i sep
 have e1:=rep_str.mp r1
 subst e1
 refine⟨rfl,τ,fun ts=>rJoinTs sep ts Q0,R.mono S1,q1,fun ts vs H2 S2 rr q2=>?_⟩
 obtain⟨y,rfl,q3⟩:∃y,ts=[y]/\rJoinT sep y Q0:=by
  cases ts with
  | nil=>exact q2.elim
  | cons y r =>
   cases r with
   | nil=>exact⟨y,rfl,q2⟩
   | cons _ _=>exact q2.elim
 obtain⟨v,rfl,r2⟩:=reps1 rr
 clear rr q2
 cases y<;>first|exact q3.elim|skip
 rename_i ys
 have q4:(match strsOf ys with|some zs=>(zs.map (·.length)).sum + zs.length * sep.length<=16777216/\Q0 (.str (Txt.join sep zs))|none=>False):=q3
 clear q3
 cases ez:strsOf ys with
 | none=>rw[ez]at q4;exact q4.elim
 | some zs =>
  rw[ez]at q4
  rw[strsOf_eq ez,rep_lst]at r2
  obtain⟨p,ws,rfl,sq,r3⟩:=r2
  have ew:=reps_strs_inv r3
  subst ew
  exact⟨sep,p,zs,rfl,rfl,sq.sq,q4.1,k _ _ H2 (S1.trans S2) (rep_str.mpr rfl) q4.2⟩
def rStrT(ts:List T)(Q:T->Prop):Prop:=match ts with
 | [.str z]=>Q (.str z)
 | [.int i]=>i.natAbs < 2 ^ 64/\Q (.str (Str.ofString (toString i)))
 | _=>False
theorem call_strV:CallR X (.type "str") (fun xs H Q=>(∃z,xs=[.str z]/\Q (.str z) H)∨∃i:Int,xs=[.int i]/\i.natAbs < 2 ^ 64/\Q (.str (Str.ofString (toString i))) H):=by
 intro pins s σ H xs us Q I r h
 rcases h with ⟨z,rfl,q⟩|⟨i,rfl,hi,q⟩
 ·obtain⟨u,rfl,ru⟩:=vals1 r
  obtain⟨t,rfl⟩:=ru
  exact P.str_of_str ⟨.str z,H,I,⟨_,rfl⟩,q⟩
 ·obtain⟨u,rfl,ru⟩:=vals1 r
  obtain⟨t,rfl⟩:=ru
  refine P.str_of_int ?_ ⟨.str _,H,I.tok _,⟨_,rfl⟩,q⟩
  by_cases h0:i.natAbs=0
  ·rw[h0];simp
  ·exact(Nat.log2_lt h0).mpr (Nat.lt_trans hi (by decide))
theorem ty_str:BlR X (.type "str") rStrT:=by
 refine⟨_,call_strV,fun ts vs H Q0 Q r q k=>?_⟩
 unfold rStrT at q
 split at q
 ·obtain⟨v,rfl,r1⟩:=reps1 r
  have:=rep_str.mp r1
  subst this
  exact .inl ⟨_,rfl,k _ _ H (.refl H) r1 q⟩
 ·obtain⟨v,rfl,r1⟩:=reps1 r
  have:=rep_int.mp r1
  subst this
  exact .inr ⟨_,rfl,q.1,k _ _ H (.refl H) (rep_str.mpr rfl) q.2⟩
 ·exact q.elim
def rLenST(ts:List T)(Q:T->Prop):Prop:=match ts with
 | [.str z]=>z.length<=1000/\Q (.int z.length)
 | _=>False
theorem bl_lenS:BlR X (.builtin "len") rLenST:=by
 refine⟨_,call_len_str,fun ts vs H Q0 Q r q k=>?_⟩
 unfold rLenST at q
 split at q
 ·obtain⟨v,rfl,r1⟩:=reps1 r
  have:=rep_str.mp r1
  subst this
  exact⟨_,rfl,few q.1,k _ _ H (.refl H) (rep_int.mpr rfl) q.2⟩
 ·exact q.elim
def rSlSV:V->Option Int->Option Int->Hp->VK->Prop:=fun x lo hi H Q=>∃z:Str,x=.str z/\z.length<=1000/\Q (.str (Txt.slice z lo hi)) H
theorem sl_str:SlR X rSlSV:=by
 intro pins s σ H x v vl vu lo hi sl Q I rx hs pl pu h
 obtain⟨z,rfl,hz,q⟩:=h
 obtain⟨t,rfl⟩:=rx
 refine⟨"str", _,F.slot_str_getitem.lookup,typeIs_str _ _ _,?_⟩
 obtain⟨l,el,el'⟩:∃l:Option (Int×Tok),vl=partValue l/\l.map (·.1)=lo:=by
  cases pl with
  | none=>exact⟨none,rfl,rfl⟩
  | int i t=>exact⟨some (i,t),rfl,rfl⟩
 obtain⟨u,eu,eu'⟩:∃u:Option (Int×Tok),vu=partValue u/\u.map (·.1)=hi:=by
  cases pu with
  | none=>exact⟨none,rfl,rfl⟩
  | int i t=>exact⟨some (i,t),rfl,rfl⟩
 subst el eu el' eu'
 obtain⟨o,h1,h2,h3⟩:=hs
 refine wpAny_getItem_str_slice (l:=l) (u:=u) (st:=none) ⟨o,h1,h2,h3⟩ rfl (post_val_or_str ⟨Nat.le_trans (Txt.slice_le z _ _) (few hz),fun t' k=>⟨.str _,H,I.tok _,⟨_,rfl⟩,q⟩⟩)
def wSlS(wa:WE)(wl wh:WO):WE:=fun τ Q=>wa τ fun x=>wl τ fun lo=>wh τ fun hi=>match x with | .str z=>z.length<=1000/\Q (.str (Txt.slice z lo hi))|_=>False
theorem jslS{lo hi:Option Expr}{wl wh:WO}{p2:Pos}(ha:JE X e wa)(hl:JO X lo wl)(hh:JO X hi wh):JE X (.Subscript e (.Slice lo hi none p2) pos) (wSlS wa wl wh):=pe_of (pe_slice sl_str ha hl hh) fun σ H Q ⟨τ,Q0,R,hw,k⟩ =>
 ⟨τ,_,R,hw,fun t v H1 S1 r1 q1=>⟨τ,_,R.mono S1,q1,fun l H2 S2 q2=>⟨τ,_,R.mono (S1.trans S2),q2,fun h H3 S3 q3=>by
  cases t<;>first|exact q3.elim|skip
  rename_i z
  exact⟨z,rep_str.mp r1,q3.1,k _ _ _ (S1.trans (S2.trans S3)) (rep_str.mpr rfl) q3.2⟩⟩⟩⟩
def rAddAT(x y:T)(Q:T->Prop):Prop:=match x,y with
 | .int i,.int j=>Q (.int (i + j))
 | .tup xs,.tup ys=>xs.length + ys.length<=1000/\Q (.tup (xs++ys))
 | .lst xs,.lst ys=>xs.length + ys.length<=1000/\Q (.lst (xs++ys))
 | .str i,.str j=>i.length + j.length<=1000/\Q (.str (i++j))
 | _,_=>False
theorem Inv.unfreeze{pins:List (Addr×Obj)}{σ:St}{H:Hp}{s:Shared}{p:Addr}{o:Obj}{xs:List V}(I:Inv X pins σ H s)(h:H p=some (.frz o (.lst xs)))(h0:X.H₀ p=none):Inv X pins σ (upd H p (.lst xs)) s:=by
 have nn:∀{b:Addr},H b=none->b≠p:=fun q z=>by subst z;rw[h]at q;cases q
 have n0:∀{b:Addr}{u:HO},X.H₀ b=some u->b≠p:=fun q z=>by subst z;rw[h0]at q;cases q
 refine⟨I.ok,I.os,I.bare,⟨I.base.keep,I.base.slot,fun b o q n hx=>?_,I.base.there,fun b ys q=>?_,fun b o u q=>?_,fun b ps q=>?_⟩,I.loc,I.cell,?_,fun x c q=>?_,fun q hq=>?_,fun b ob q=>?_,I.len⟩
 ·have:=I.base.free b o q n hx
  rw[upd_ne (nn this)];exact this
 ·rw[upd_ne (n0 q)];exact I.base.tups b ys q
 ·rw[upd_ne (n0 q)];exact I.base.frzs b o u q
 ·obtain⟨more,e⟩:=I.base.tbls b ps q
  exact⟨more,by rw[upd_ne (n0 q)];exact e⟩
 ·rw[upd_ne (nn I.free)];exact I.free
 ·rw[upd_ne (nn (I.freeC x c q))];exact I.freeC x c q
 ·obtain⟨a1,a2,a3⟩:=I.pin q hq
  exact⟨a1,by rw[upd_ne (nn a2)];exact a2,a3⟩
 ·by_cases hb:b=p
  ·subst hb
   rw[upd_same]at q
   cases q
   obtain⟨_,z⟩:=I.hok _ _ h
   exact z
  ·rw[upd_ne hb]at q
   refine(I.hok b ob q).stay (fun c v _ q=>q) (fun c q=>?_) fun c ys q=>?_
   ·rw[upd_ne (by rintro rfl;rw[h]at q;cases q)];exact q
   ·rw[upd_ne (by rintro rfl;rw[h]at q;cases q)];exact q
def sOwnC(i:Nat)(w:WE):WS:=fun D τ=>w τ fun t=>match t with | .lst ts=>D.nx (sput τ i (.own ts))|_=>False
end
end TL
end
section
namespace TL
open PySem PySem.Spec PyProof.Rows L2
section
variable {X:Cx} {a b:List Stmt} {t u:TS}
end
abbrev SpO:=List T->(List T->Prop)->Prop
def spO(K:PySem.W.Frag)(n:Nat)(S:SpO):Sp:=fun vs H Q _=>∃(ts:List T) (Q0:List T->Prop),vs.length=n/\Reps K H ts vs/\S ts Q0/\∀us p ws H',Same H H'->H p=none->H' p=some (.lst ws)->Reps K H' us ws->Q0 us->Q (.ref p) H'
structure FnO(P:Program)(w:World)(K:PySem.W.Frag)(mg:Str->Option Value)(base:Heap)(k:Nat)(f:Addr)(fd:FuncData)(ps:List Str)(S:SpO):Prop where
 ok:FnOk P w K mg base CX0 k f fd ps (spO K ps.length S)
 len:∀ts Q,S ts Q->ts.length=ps.length
def endO(i:Nat)(Q:List T->Prop):DT:={nx:=fun τ=>match sget τ i with | .own us=>Q us|_=>False,rt:=fun _=>False}
def CalO(P:Program)(w:World)(K:PySem.W.Frag)(mg:Str->Option Value)(base:Heap)(k:Nat)(x:Str)(ps:List Str)(S:SpO):Prop :=
 ∃f fd,FnO P w K mg base k f fd ps S/\Binds K fd ps []/\PySem.W.keepIn K (.ref f)=true/\mg x=some (.ref f)
theorem CalO.mk{P:Program}{w:World}{K:PySem.W.Frag}{mg:Str->Option Value}{base:Heap}{k:Nat}{x qual:Str}{ps:List Str}{S:SpO}{st:Stmt}{f:Addr}{fd:FuncData}(F:Fun K x qual st f fd)(m:mg x=some (.ref f))
  (b:Binds K fd ps []) (h:FnO P w K mg base k f fd ps S):CalO P w K mg base k x ps S:=⟨f,fd,h,b,F.kp,m⟩
abbrev frO(S:SpO):SpT:=fun ts Q=>S ts fun us=>Q (.lst us)
theorem FnO.frz{P:Program}{w:World}{K:PySem.W.Frag}{mg:Str->Option Value}{base:Heap}{k:Nat}{f:Addr}{fd:FuncData}{ps:List Str}{S:SpO}(F:FnO P w K mg base k f fd ps S):FnT P w K mg base k f fd ps (frO S):=by
 refine⟨⟨fun vs H Q E ⟨ts,Q0,e,_⟩=>e,fun A outer s H args us vs Q E hr e0 hb hv ⟨ts,Q0,e,r,hS,q⟩=>?_⟩,fun ts Q h=>F.len _ _ h⟩
 refine codeAny_mono (F.ok.run A outer s H args us vs (fun v H'=>∃zs p ws,v=.ref p/\Same H H'/\H p=none/\H' p=some (.lst ws)/\Reps K H' zs ws/\Q0 (.lst zs)) E hr e0 hb hv ⟨ts,_,e,r,hS,fun zs p ws H' S1 h0 hp rr n=>⟨zs,p,ws,rfl,S1,h0,hp,rr,n⟩⟩) fun res s' h=>?_
 cases res with
 | error e=>exact h
 | ok fl =>
  cases fl with
  | ret u =>
   obtain⟨v,H',os,bare,un,hok,rv,zs,p,ws,rfl,S1,h0,hp,rr,n⟩:=h
   obtain⟨z,its,m,rl,eh⟩:=hok p _ hp
   have K1:=Kp.write hp (.frz {cls:=.type "list", data:=.seq its.toArray m} (.lst ws))
   have ne:∀{b:Addr}{o:HO},H b=some o->b≠p:=fun q z=>by subst z;rw[h0]at q;cases q
   have S2:Same H (upd H' p (.frz {cls:=.type "list", data:=.seq its.toArray m} (.lst ws))):=fun b o q'=>by rw[upd_ne (ne q')];exact S1 b o q'
   refine⟨.ref p,_,os,bare,⟨un.keep,un.slot,fun b o q' n' hx=>?_,un.there,fun b ys q'=>?_,fun b o u' q'=>?_,fun b ps' q'=>?_⟩,fun b ob q'=>?_,rv,q (.lst zs) (.ref p) _ S2 (rep_lst.mpr ⟨p,ws,rfl,.inl ⟨_,upd_same⟩,rr.kp K1⟩) n⟩
   ·have e1:=un.free b o q' n' hx
    rw[upd_ne (by rintro rfl;rw[hp]at e1;cases e1)]
    exact e1
   ·rw[upd_ne (ne q')];exact un.tups b ys q'
   ·rw[upd_ne (ne q')];exact un.frzs b o u' q'
   ·obtain⟨more,e1⟩:=un.tbls b ps' q'
    exact⟨more,by rw[upd_ne (ne q')];exact e1⟩
   ·by_cases hb:b=p
    ·subst hb
     rw[upd_same]at q'
     cases q'
     exact⟨eh,z,its,m,rl,eh⟩
    ·rw[upd_ne hb]at q'
     refine(hok b ob q').stay (fun c v hc q=>q) (fun c q=>?_) fun c ys q=>?_
     ·rw[upd_ne (by rintro rfl;rw[hp]at q;cases q)];exact q
     ·rw[upd_ne (by rintro rfl;rw[hp]at q;cases q)];exact q
  | next=>exact False.elim h
  | brk=>exact False.elim h
  | cont=>exact False.elim h
theorem CalO.frz{P:Program}{w:World}{K:PySem.W.Frag}{mg:Str->Option Value}{base:Heap}{k:Nat}{x:Str}{ps:List Str}{S:SpO}(C:CalO P w K mg base k x ps S):Cal P w K mg base k x ps (frO S) :=
 let ⟨f,fd,F,b,kp,m⟩:=C;⟨f,fd,F.frz,b,kp,m⟩
theorem RepSt.putOwnS{K:PySem.W.Frag}{H0 H H':Hp}{σ:St}{τ:List Slot}{i:Nat}{ts:List T}{vs:List V}{p:Addr}(R:RepSt K H0 H σ τ)(S:Same H H')(hp:H p=none)(hp':H' p=some (.lst vs))(r:Reps K H' ts vs):RepSt K H0 H' (σ.set i (some (.ref p))) (sput τ i (.own ts)):=by
 refine⟨R.same.trans S,by rw[length_sput,List.length_set];exact R.len,fun j=>?_,fun a b ts' us q hab ha hb ea eb=>?_⟩
 ·by_cases hij:i=j
  ·subst hij
   by_cases hi:i < τ.length
   ·rw[sget_same hi]
    exact⟨p,vs,List.getElem?_set_self (by rw[← R.len];exact hi),hp',r,R.same.free hp⟩
   ·rw[sget_big (by rw[length_sput];omega)]
    trivial
  ·rw[sget_ne hij,List.getElem?_set_ne hij]
   exact(R.slot j).mono S
 ·-- an elder own list stands at a tracked place,the new one did not
  have old:∀c ts,i≠c->sget (sput τ i (.own ts')) c=.own ts->σ[c]?≠some (some (.ref p)):=fun c ts hc hcs e=>by
   rw[sget_ne hc]at hcs
   have:=R.slot c
   rw[hcs]at this
   obtain⟨p',vs',e',h1,_⟩:=this
   rw[e]at e'
   cases e'
   rw[hp]at h1
   cases h1
  have isI:∀c,i=c->∀us,sget (sput τ i (.own ts)) c=.own us->(σ.set i (some (.ref p)))[c]?=some (some (.ref p)):=fun c hc us hcs=>by
   subst hc
   by_cases hi:i < τ.length
   ·exact List.getElem?_set_self (by rw[← R.len];exact hi)
   ·rw[sget_big (by rw[length_sput];omega)]at hcs;cases hcs
  by_cases ia:i=a
  ·have z:=isI a ia _ ha
   rw[z]at ea
   cases ea
   have ib:i≠b:=fun e=>hab (ia.symm.trans e)
   rw[List.getElem?_set_ne ib]at eb
   refine old b us ib ?_ eb
   rw[sget_ne ib]at hb ⊢
   exact hb
  ·rw[List.getElem?_set_ne ia]at ea
   by_cases ib:i=b
   ·have z:=isI b ib _ hb
    rw[z]at eb
    cases eb
    refine old a ts' ia ?_ ea
    rw[sget_ne ia]at ha ⊢
    exact ha
   ·rw[List.getElem?_set_ne ib]at eb
    rw[sget_ne ia]at ha
    rw[sget_ne ib]at hb
    exact R.apart a b ts' us q hab ha hb ea eb
section
variable {X:Cx} {e:Expr} {b:Expr} {es:List Expr} {wa wb w:WE} {ws:WA} {pos:Pos}
def sOwnF(i:Nat)(S:SpO)(ws:WA):WS:=fun D τ=>ws τ fun ts=>S ts fun us=>D.nx (sput τ i (.own us))
def sSetIx(i:Nat)(wb wa:WE):WS:=fun D τ=>match sget τ i with
 | .own ts=>wa τ fun t=>wb τ fun y=>(match y with | .int k=>(match ixN ts.length k with|some j=>D.nx (sput τ i (.own (ts.set j t)))|none=>False)|_=>False)
 | _=>False
theorem Reps.set{K:PySem.W.Frag}{H:Hp}{t:T}{v:V}(r:Rep K H t v):∀{ts:List T}{vs:List V}{j:Nat},Reps K H ts vs->Reps K H (ts.set j t) (vs.set j v)
 | [],vs,j,h=>by
  rw[reps_nil]at h
  subst h
  exact reps_nil.mpr rfl
 | x::ts,vs,j,h=>by
  rw[reps_cons]at h
  obtain⟨u,us,rfl,h1,h2⟩:=h
  cases j with
  | zero=>exact reps_cons.mpr ⟨_,_,rfl,r,h2⟩
  | succ j=>exact reps_cons.mpr ⟨_,_,rfl,h1,Reps.set r h2⟩
def sCatO(i j:Nat)(ws:WA):WS:=fun D τ=>match sget τ j with
 | .own ts=>ws τ fun us=>us.length<=1000/\ts.length + us.length<=1000/\D.nx (sput τ i (.own (ts++us)))
 | _=>False
def iOwn(i:Nat):WI:=fun τ Q=>match sget τ i with | .own ts=>Q ts|_=>False
end
end TL
namespace TL
open PySem PySem.Spec PyProof.Rows L2
mutual
def noL:T->Bool
 | .non | .bl _ | .int _ | .str _=>true
 | .tup ts=>noLs ts
 | _=>false
def noLs:List T->Bool
 | []=>true
 | t::ts=>noL t&&noLs ts
end
mutual
theorem Rep.noL{K:PySem.W.Frag}{H H':Hp}(k:∀a xs,SqT K H a xs->SqT K H' a xs):∀{t:T}{v:V},TL.noL t=true->Rep K H t v->Rep K H' t v
 | .non,v,_,h=>by rw[rep_non]at h ⊢;exact h
 | .bl b,v,_,h=>by rw[rep_bl]at h ⊢;exact h
 | .int i,v,_,h=>by rw[rep_int]at h ⊢;exact h
 | .str x,v,_,h=>by rw[rep_str]at h ⊢;exact h
 | .tup ts,v,n,h=>by
  rw[rep_tup]at h ⊢
  obtain⟨p,vs,e,s,r⟩:=h
  exact⟨p,vs,e,k p vs s,Reps.noL k (by rw[TL.noL]at n;exact n) r⟩
 | .lst ts,v,n,h=>by simp[TL.noL]at n
 | .dct,v,n,h=>by simp[TL.noL]at n
 | .exc c,v,n,h=>by simp[TL.noL]at n
 | .exf c f t,v,n,h=>by simp[TL.noL]at n
 | .dic _ _,v,n,h=>by simp[TL.noL]at n
theorem Reps.noL{K:PySem.W.Frag}{H H':Hp}(k:∀a xs,SqT K H a xs->SqT K H' a xs):∀{ts:List T}{vs:List V},TL.noLs ts=true->Reps K H ts vs->Reps K H' ts vs
 | [],vs,_,h=>by rw[reps_nil]at h ⊢;exact h
 | t::ts,vs,n,h=>by
  rw[reps_cons]at h ⊢
  obtain⟨v,r,e,h1,h2⟩:=h
  rw[TL.noLs,Bool.and_eq_true]at n
  exact⟨v,r,e,Rep.noL k n.1 h1,Reps.noL k n.2 h2⟩
end
section
variable {X:Cx}
theorem same_thaw{H H2:Hp}{p:Addr}{o:Obj}{vs:List V}(hp:H p=some (.lst vs))(S:Same (upd H p (.frz o (.lst vs))) H2):Same H (upd H2 p (.lst vs)):=fun b ob q=>by
 by_cases e:b=p
 ·subst e
  rw[upd_same]
  rw[hp]at q
  exact q
 ·rw[upd_ne e]
  exact S b ob (by rw[upd_ne e];exact q)
def wFz(i:Nat)(w:WE):WE:=fun τ Q=>match sget τ i with
 | .own ts=>w (sput τ i (.val (.lst ts))) fun t=>TL.noL t=true/\Q t
 | _=>False
def tFz(i:Nat)(w:WT):WT:=fun τ Q=>match sget τ i with
 | .own ts=>w (sput τ i (.val (.lst ts))) Q
 | _=>False
theorem jfzT(i:Nat){e:Expr}{w:WT}(h:JT X e w):JT X e (tFz i w):=by
 intro pins s σ H Q I ⟨τ,Q0,R,hw,k⟩
 unfold tFz at hw
 cases own:sget τ i with
 | own ts =>
  rw[own]at hw
  have sl:=R.slot i
  rw[own]at sl
  obtain⟨p,vs,ev,hp,rr,n0⟩:=sl
  obtain⟨o,I'⟩:=Inv.freeze I hp
  refine thn (h pins s σ _ (fun b H2=>Same (upd H p (.frz o (.lst vs))) H2/\Q0 b) I' ⟨_,_,R.freeze own ev hp rr,hw,fun t H2 S2 q2=>⟨S2,q2⟩⟩) fun u s' ⟨H2,I2,S2,q2⟩=>?_
  have hp2:H2 p=some (.frz o (.lst vs)):=S2 _ _ upd_same
  exact⟨_,Inv.unfreeze I2 hp2 n0,k _ _ (same_thaw hp S2) q2⟩
 | _=>rw[own]at hw;exact hw.elim
def vat1(v:V):Slot->Slot
 | .val t=>.vat t v
 | .vat t u=>.vat t u
 | _=>.no
def vatT(i:Nat)(ts:List T)(a:Nat->V):Nat->List Slot->List Slot
 | _,[]=>[]
 | n,s::r=>(if n=i then .vat (.lst ts) (a n) else vat1 (a n) s)::vatT i ts a (n + 1) r
def backT(Z:List Nat):Nat->List Slot->List Slot
 | _,[]=>[]
 | n,s::r=>(if n∈Z then .no else s)::backT Z (n + 1) r
def lone1:Slot->Bool
 | .no=>true
 | .val _=>true
 | .vat _ _=>true
 | _=>false
def lone(i:Nat):Nat->List Slot->Bool
 | _,[]=>true
 | n,s::r=>(decide (n=i)||lone1 s)&&lone i (n + 1) r
def sFzS(i:Nat)(Z:List Nat)(w:WS):WS:=fun D τ=>match sget τ i with
 | .own ts=>lone i 0 τ=true/\i∉Z/\∀a:Nat->V,w {nx:=fun τ'=>(τ'.length=τ.length/\∀j,j < τ.length->j∉Z->sget τ' j=sget (vatT i ts a 0 τ) j)/\D.nx (backT Z 0 τ),rt:=D.rt,bk:=fun _=>False,ct:=fun _=>False} (vatT i ts a 0 τ)
 | _=>False
end
section
variable {X:Cx} {a b c e:Expr} {es:List Expr} {wa wb wc w:WE} {ws:WA} {pos:Pos}
def rMulLT(x y:T)(Q:T->Prop):Prop:=match x,y with
 | .lst ts,.int n=>∃k:Nat,n=k/\k<=1000/\ts.length * k<=1000/\Q (.lst (List.replicate k ts).flatten)
 | _,_=>False
def lstQ(Q:List T->Prop):T->Prop:=fun t=>match t with | .lst us=>Q us|_=>False
def JF(X:Cx)(e:Expr)(w:WE):Prop:=PE X e fun σ H Q=>∃τ Q0,RepSt X.K X.H₀ H σ τ/\w τ (lstQ Q0)/\∀us p ws H',Same H H'->X.H₀ p=none->H p=none->H' p=some (.lst ws)->Reps X.K H' us ws->Q0 us->Q (.ref p) H'
end
abbrev soX(S:SpX):SpO:=fun ts Q=>S RF ts (lstQ Q)
section
variable {X:Cx} {a b c e:Expr} {es:List Expr} {wa wb wc w:WE} {ws:WA} {pos:Pos}
def rCountTs(ts us:List T)(Q:T->Prop):Prop:=match us with
 | [.int k]=>(match intsOf ts with|some ns=>Q (.int (ns.count k:Nat))|none=>False)
 | _=>False
def wCount(wa:WE)(ws:WA):WE:=fun τ Q=>wa τ fun x=>match x with
 | .lst ts=>ws τ fun us=>rCountTs ts us Q
 | _=>False
def cInTT(x y:T)(Q:Bool->Prop):Prop:=match x,y with
 | .str z,.tup ts=>(match strsOf ts with|some zs=>Q (zs.contains z)|none=>False)
 | _,_=>False
end
end TL
end
section
namespace TL
open PySem PySem.Spec PyProof.Rows L2
section
variable {X:Cx} {pins:List (Addr×Obj)} {σ:St} {s:Shared}
end
section
variable {X:Cx} {e b:Expr} {es:List Expr} {wa wb w:WE} {ws:WA} {pos:Pos}
end
section
variable {K:PySem.W.Frag} {H0 Hs H H':Hp} {σ:St} {τ:List Slot} {Fs:Nat->List Addr}
end
section
variable {X:Cx} {e b c:Expr} {es:List Expr} {wa wb w:WE} {ws:WA} {ua:WT} {t u:WS} {pos:Pos} {st:Stmt} {rest a d:List Stmt}
theorem noLs_app:∀{us:List T}{t:T},noLs us=true->noL t=true->noLs (us++[t])=true
 | [],t,_,n=>by simp only[List.nil_append,TL.noLs,n,Bool.and_true]
 | u::us,t,h,n=>by
  simp only[TL.noLs,Bool.and_eq_true]at h
  simp only[List.cons_append,TL.noLs,h.1,noLs_app h.2 n,Bool.and_true]
end
section
variable {X:Cx} {e b c:Expr} {es:List Expr} {wa wb w:WE} {ws:WA} {pos:Pos} {st:Stmt}
def BlF(X:Cx)(f:Value)(rT:List T->(T->Prop)->Prop):Prop:=∃r:List V->Hp->VK->Prop,CallR X f r/\∀ts vs H (Q0:List T->Prop) (Q:VK),Reps X.K H ts vs->rT ts (lstQ Q0) →
 (∀us p o ys,H p=none->Reps X.K H us ys->Q0 us->Q (.ref p) (upd H p (.frz o (.lst ys))))->r vs H Q
theorem ty_listF:BlF X (.type "list") rListT:=by
 refine⟨_,call_listF,fun ts vs H Q0 Q r q k=>?_⟩
 have fin:∀{xs:List T}{ys:List V},Q0 xs->Reps X.K H xs ys->∀l o,H l=none->Q (.ref l) (upd H l (.frz o (.lst ys))):=fun q rr l o hl=>k _ l o _ hl rr q
 unfold rListT at q
 split at q
 ·obtain⟨v,rfl,r1⟩:=reps1 r
  rw[rep_tup]at r1
  obtain⟨p,ys,rfl,sq,rr⟩:=r1
  exact⟨p,ys,rfl,.inr sq,fin q rr⟩
 ·obtain⟨v,rfl,r1⟩:=reps1 r
  rw[rep_lst]at r1
  obtain⟨p,ys,rfl,sq,rr⟩:=r1
  exact⟨p,ys,rfl,.inl sq.sq,fin q rr⟩
 ·exact q.elim
theorem jf_of{rT:List T->(T->Prop)->Prop}{r:List V->Hp->VK->Prop}(hp:PE X e (tCB r (upA X.K X.H₀ ws)))(br:∀ts vs H (Q0:List T->Prop) (Q:VK),Reps X.K H ts vs->rT ts (lstQ Q0)->(∀us p o ys,H p=none->Reps X.K H us ys->Q0 us->Q (.ref p) (upd H p (.frz o (.lst ys))))->r vs H Q):JF X e (wCB rT ws):=by
 intro pins s σ H Q I ⟨τ,Q0,R,hw,k⟩
 refine thn (hp pins s σ H (fun v H'=>∃us p o ys H1,v=.ref p/\H'=upd H1 p (.frz o (.lst ys))/\Same H H1/\H1 p=none/\Reps X.K H1 us ys/\Q0 us) I ⟨τ,_,R,hw,fun ts vs H1 S1 r1 q1=>br ts vs H1 Q0 _ r1 q1 fun us p o ys hn rr q=>⟨us,p,o,ys,H1,rfl,rfl,S1,hn,rr,q⟩⟩) fun u s1 ⟨v,H2,I2,rv,us,p,o,ys,H1,e1,e2,S1,hn,rr,q⟩=>?_
 subst e1 e2
 have hH:H p=none:=S1.free hn
 have h0:X.H₀ p=none:=R.same.free hH
 have I3:=Inv.unfreeze I2 upd_same h0
 rw[upd_upd]at I3
 have sm:Same H (upd H1 p (.lst ys)):=S1.trans (same_new hn _)
 exact⟨.ref p,_,I3,rv,k us p ys _ sm h0 hH upd_same (rr.kp (.of (same_new hn _))) q⟩
theorem jtyF{x:Str}{p:Pos}{id:String}{rT:List T->(T->Prop)->Prop}(h:BlF X (.type id) rT)(hg:Gl X x)(hm:X.mg x=none)(hv:bootBuiltins x=some (.type id))(ha:JA X (e::es) ws) (hn:x ≠ "__name__" := by decide)
  (hdb:(x==("__debug__" : Str))=false:=by decide) (he:starEach (e::es) X.env=(false,eval e X.env)::starEach es X.env:=by exact star1 rfl) (hpl:(backTo pos (starEach es X.env)).any (·.1)=false:=by exact stars rfl) :
  JF X (.Call (.Name x p) (e::es) [] pos) (wCB rT ws):=by
 obtain⟨r,hc,br⟩:=h
 exact jf_of (pe_callTy hc hg hm hv ha hn hdb he hpl) br
def sOwnW(i:Nat)(w:WE):WS:=fun D τ=>w τ (lstQ fun us=>D.nx (sput τ i (.own us)))
theorem jsetF{i:Nat}{x:Str}{pos':Pos}(hN:X.N.Nodup)(hi:X.N[i]?=some x)(hx:Loc X.env.scope x)(he:JF X e w)(hs:swapsWith e (some (.Name x pos')) pos.line X.env=pure false:=by rfl)
  (hf:X.fn x=true∨X.env.scope.names.lookup x=some .local:=by first|exact .inl rfl|exact .inr rfl|assumption):JS X (.Assign [.Name x pos'] e pos) (sOwnW i w) :=
 ps_of (ps_set hN hi hx he hs hf) fun D σ H ⟨τ,D0,R,hw,k,_⟩=>⟨τ,_,R,hw,fun us p ys H' S _ hn hp rr q=>k _ _ H' (.of S) (R.putOwnS S hn hp rr) q⟩
end
def Its(x:Str):It:=⟨fun i _=>i < x.cps.size,fun i H v H'=>H'=H/\∃c,x.cps[i]?=some c/\v=.str ⟨#[c]⟩,fun i _=>x.cps.size<=i⟩
theorem turn_ascii{P:Program}{w:World}{K:PySem.W.Frag}{tg:Expr}(it:Addr)(x:Str)(t:Tok):Turn P w K tg (Its x) [it] it (fun i h=>h.IsStrIter it "str_ascii_iterator" x t i) where
 mem:=by simp
 obj:=fun i h st b hb=>by
  have e:b=it:=by simpa using hb
  subst e
  obtain⟨o,e,c,d⟩:=st
  exact⟨o,e,fun v z=>by rw[d]at z;cases z⟩
 keep:=fun i h h' st k=>let ⟨o,ho,r⟩:=st;⟨o,k it (by simp) o ho,r⟩
 item:=by
  intro X hP hw hK hc i pins s σ H E I hf st hg
  subst hP hw hK
  obtain⟨f0,f1,f2,f3,f4,f5⟩:=hf it (by simp)
  have hg:i < x.cps.size:=hg
  refine wpAny_pyNext_ascii_item st (c:=x.cps[i]) (by simp[hg]) fun h' st' sb=>?_
  have I1:Inv X pins σ H {s with heap:=h',toks:=s.toks + 1}:=I.turned (fun b o hb e=>(sb.2 b hb).trans e) f0 f1 f3 f4 f5
  obtain⟨o,e,c,d⟩:=id st'
  exact⟨_,rfl,go_of (s:={s with heap:=h',toks:=s.toks + 1}) e c d (by decide) ⟨.str ⟨#[x.cps[i]]⟩,H,I1,⟨_,rfl⟩,⟨rfl,x.cps[i],by simp[hg],rfl⟩,st',fun b hb=>(hf b hb).1⟩⟩
 done:=by
  intro X hP hw hK hc i pins s σ H E I hf st hg
  subst hP hw hK
  obtain⟨f0,f1,f2,f3,f4,f5⟩:=hf it (by simp)
  have hg:x.cps.size<=i:=hg
  exact wpAny_pyNext_ascii_end (I.ok.hd hc) st (by simp[hg]) fun h' eb=>⟨rfl,I.turned (t':=s.toks) (fun b o hb e=>eb b o hb e) f0 f1 f3 f4 f5⟩
 self:=fun _ _ _ _ _ st h=>wpAny_pyIter_striter_ascii st h
section
variable {X:Cx} {e b c a:Expr} {es:List Expr} {wa wb w:WE} {ws:WA} {pos:Pos}
def sgnT(x:Str):List T:=x.cps.toList.map fun c=>.str ⟨#[c]⟩
def iStr(w:WE):WI:=fun τ Q=>w τ fun t=>match t with
 | .str x=>x.cps.all (· < 128)=true/\Q (sgnT x)
 | _=>False
theorem jiStr{tg l:Expr}(h:JE X l w):JI X tg l (iStr w):=by
 intro pins s σ H R I hw
 obtain⟨τ,Q0,Rs,hw,k⟩:=hw
 refine thn (h pins s σ H (fun v H1=>∃t,Same H H1/\Rep X.K H1 t v/\(match t with | .str x=>x.cps.all (· < 128)=true/\Q0 (sgnT x)|_=>False)) I ⟨τ,_,Rs,hw,fun t v H1 S r q=>⟨t,S,r,q⟩⟩) fun v s1 ⟨x,H1,I1,r1,t,S1,rt,q1⟩=>?_
 cases t<;>first|exact q1.elim|skip
 rename_i z
 obtain⟨ha,q1⟩:=q1
 have ez:=rep_str.mp rt
 subst ez
 obtain⟨tk,rfl⟩:=r1
 refine wpAny_pyIter_ascii ha ?_
 refine⟨s1.heap.objs.size,[s1.heap.objs.size],_,_,H1,rfl,I1.kept (t':=s1.toks) fun b o e=>Heap.get?_push_of_some _ e,turn_ascii _ z tk,⟨_,Heap.get?_push_size _ rfl,rfl,rfl⟩,fun b hb=>?_,k (sgnT z) (Its z) H1 S1 ?_ q1⟩
 ·have e:b=s1.heap.objs.size:=by simpa using hb
  subst e
  exact I1.fpOk (Nat.le_refl _) (I1.hok.fresh (Nat.le_refl _))
 ·intro H2 K2
  refine⟨fun i t ht=>?_,by show z.cps.size<=_;unfold sgnT;simp⟩
  unfold sgnT at ht
  rw[List.getElem?_map]at ht
  cases q:z.cps.toList[i]? with
  | none=>rw[q]at ht;cases ht
  | some c =>
   rw[q]at ht
   cases ht
   have hi:i < z.cps.size:=by have:=(List.getElem?_eq_some_iff.mp q).1;simpa using this
   have q':z.cps[i]?=some c:=by simpa using q
   refine⟨hi,fun x H3 ⟨e1,c',e2,e3⟩=>?_⟩
   subst e1 e3
   rw[q']at e2
   cases e2
   exact⟨.refl _,rep_str.mpr rfl⟩
theorem op_le_str:OpR X (compareOp .LtE) (fun x y H Q=>∃i j,x=.str i/\y=.str j/\Q (.bl (!(decide (j.cps.toList < i.cps.toList)))) H):=by
 intro pins s σ H x y v u Q I rx ry h
 obtain⟨i,j,rfl,rfl,q⟩:=h
 obtain⟨t,rfl⟩:=rx
 obtain⟨t',rfl⟩:=ry
 exact PySem.P.le_str (fin_bl I q rfl)
def cLeS(x y:T)(Q:Bool->Prop):Prop:=match x,y with
 | .str i,.str j=>Q (!(decide (j.cps.toList < i.cps.toList)))
 | _,_=>False
theorem c_leS:CRT X .LtE cLeS:=⟨_,op_le_str,fun t1 t2 v1 v2 H Q0 Q r1 r2 q k=>by
 cases t1<;>cases t2<;>first|exact q.elim|skip
 rename_i z n
 exact⟨z,n,rep_str.mp r1,rep_str.mp r2,k _ q⟩⟩
end
end TL
end
section
namespace TL
open PySem PySem.Spec PyProof.Rows L2
section
variable {X:Cx} {pins:List (Addr×Obj)} {σ:St} {H H':Hp} {s s':Shared} {a:Addr}
theorem catch_ret{C CY:Addr}{dx:Option Addr}{y:Str}{b:Bool}{k}{np p1 p2 hpos:Pos}{Q:Flow->Shared->Prop}{E:Value->Shared->Prop}(D:DefCx X)(I:Inv X pins σ H s)(F:Fly X.prog X.w X.stack H s H' a (.ref C) s')(da:DAt s'.heap a dx)
  (hg:Gl X y) (hm:X.mg y=some (.ref CY)) (ex:PySem.W.exmOne X.K (.ref C) (.ref CY)=some true) (hdy:(y==("__debug__" : Str))=false)
  (hQ:∀s7 σ7 v,Inv X pins σ7 H' s7->RelV (.bl b) v->Q (.ret v) s7) :
  wpAny (model X.prog X.w) X.A (noteFrame (.ref a) X.env) (fun _ s2=>wpAny (model X.prog X.w) X.A (setFlight (.ref a) none) (fun _ s3 =>
   wpAny (model X.prog X.w) X.A (handleBy (.ref a) X.env [.ExceptHandler (some (.Name y np)) none [.Return (some (.Constant (.bool b) k p1)) p2] hpos]) Q E s3) E s2) E s':=by
 obtain⟨B,a0,fl,tB,oB⟩:=F.fly
 have hfr:X.A.frames=some (X.env::X.outer):=by rw[I.ok.frames,D.stk]
 have fl0:Heap.FlyingW B (X.env::X.outer) a (.ref C) a0 s'.heap:=by rw[← D.stk];exact fl
 refine noteD hfr D.frame fl0 da fun h4 held sm4 da4=>?_
 refine landD (s:={s' with heap:=h4}) held.1 held.2.1 held.2.2.1 held.2.2.2 da4 fun h5 fl5 sm5 da5=>?_
 have I5:Inv X pins σ H' {s' with heap:=h5}:=land_inv I F fl tB oB fl5.1 (sm4.trans sm5)
 obtain⟨ob,hob,hobc⟩:=fl5.there
 refine wpAny_handleBy_cons (codeAny_handlers_test (ld_glob (Inv.caught (E:=E) I5 a) hg hm ?_ hdy)) (by intro q;cases q)
 have LT:PySem.W.Looks (model X.prog X.w) h5 (typeOf (.ref a)) (.ref C):=hobc ▸ (PySem.W.Looks.ld hob).andThen .now
 refine(PySem.W.exm_one (M:=model X.prog X.w) I5.kIn LT ex).here ?_
 refine codeAny_handlers_suite ?_
 refine landD (s:={s' with heap:=h5}) fl5.1 fl5.2.1 fl5.2.2.1 fl5.2.2.2.at da5 fun h6 fl6 sm6 da6=>?_
 have I6:Inv X pins σ H' {s' with heap:=h6}:=land_inv I F fl tB oB fl6.1 ((sm4.trans sm5).trans sm6)
 have Ic:=Inv.caught (E:=fun _ _=>False) I6 a
 have ps:PSs (Cx.caught X a fun _ _=>False) [.Return (some (.Constant (.bool b) k p1)) p2] (tRet (tC (.bl b))):=pss_one (ps_ret pe_bl)
 have z:=ps pins _ _ _ {nx:=fun _ _=>False,rt:=fun v H9=>v=.bl b/\H9=H' } Ic ⟨rfl,rfl⟩
 refine wpAny_mono z (fun f s9 h9=>?_) fun x s9 h9=>?_
 ·cases f with
  | next=>obtain⟨_,_,_,z⟩:=h9;exact z.elim
  | brk=>obtain⟨_,_,_,z⟩:=h9;exact z.elim
  | cont=>obtain⟨_,_,_,z⟩:=h9;exact z.elim
  | ret u =>
   obtain⟨v,σ9,H9,I9,r9,rfl,rfl⟩:=h9
   exact hQ s9 σ9 u (Inv.uncaught I.ok I9) r9
 ·exact False.elim h9
def sTryF(tb:(T->Prop)->WS)(b:Bool)(cs:List Str):WS:=fun D τ=>tb (fun x=>match x with | .exc c=>c∈cs/\D.rt (.bl b) | .exf c _ _=>c∈cs/\D.rt (.bl b)|_=>False) D τ
theorem jtryF{tb:(T->Prop)->WS}{st:Stmt}{y:Str}{b:Bool}{k}{pos np p1 p2 hpos:Pos}{cs:List Str}(D:DefCx X)(G:Catches X.K X.mg y cs)(hg:Gl X y)(hb:JB X st tb) (hdy:(y==("__debug__" : Str))=false:=by decide) :
  JS X (.Try [st] [.ExceptHandler (some (.Name y np)) none [.Return (some (.Constant (.bool b) k p1)) p2] hpos] [] [] pos) (sTryF tb b cs):=by
 obtain⟨CY,hm,hcs⟩:=G
 intro pins s σ H Dn I ⟨τ,D0,R0,hw,kn,kr,kb,kc⟩
 refine wpAny_Try_except ?_
 have body:=hb pins s σ H Dn _ (fun e s1=>wpAny (model X.prog X.w) X.A (noteFrame e X.env) (fun _ s2=>wpAny (model X.prog X.w) X.A (setFlight e none) (fun _ s3=>wpAny (model X.prog X.w) X.A (handleBy e X.env [.ExceptHandler (some (.Name y np)) none [.Return (some (.Constant (.bool b) k p1)) p2] hpos]) (SP X pins Dn) X.xe s3) X.xe s2) X.xe s1) τ D0 I R0 hw kn ?_
 ·refine wpAny_execs_cons (thn body fun f s1 h1=>?_)
  obtain⟨rfl,h1⟩:=h1
  exact wpAny_execs_nil (wpAny_execs_nil h1)
 ·intro H1 H' s1 s' a C dx I1 S1 fl da S2 ⟨c,h1,hw1⟩
  have SS:=S1.trans S2
  cases dx with
  | none =>
   obtain⟨hc,hq⟩:=hw1
   exact catch_ret D I1 fl da hg hm (hcs c hc C h1) hdy fun s7 σ7 v I7 r7=>⟨.bl b,σ7,H',I7,r7,kr _ _ H' (R0.same.trans SS) (rep_bl.mpr rfl) hq⟩
  | some d =>
   obtain⟨f,t,od0,u,v,hd,hl,hu,hr,hc,hq⟩:=hw1
   exact catch_ret D I1 fl da hg hm (hcs c hc C h1) hdy fun s7 σ7 v I7 r7=>⟨.bl b,σ7,H',I7,r7,kr _ _ H' (R0.same.trans SS) (rep_bl.mpr rfl) hq⟩
theorem funFrames_push{h b:Heap}{o:Obj}:∀{l:List Env},h.FunFrames b l->(h.push o).FunFrames b l
 | [],_=>by unfold Heap.FunFrames;trivial
 | e::l,q=>by
  unfold Heap.FunFrames at q ⊢
  obtain⟨k,⟨L,ob,e1,e2,e3,e4⟩,r⟩:=q
  exact⟨k,⟨L,ob,e1,e2,Heap.get?_push_of_some _ e3,e4⟩,funFrames_push r⟩
theorem traced_push{h b:Heap}{o:Obj}{e:Addr}{cls a0 fl:Value}(q:h.TracedAtW b e cls a0 fl):(h.push o).TracedAtW b e cls a0 fl:=by
 obtain⟨oe,vs,T,oT,ts,q1,q2,q3,q4,q5,q6,q7,q8,q9⟩:=q
 exact⟨oe,vs,T,oT,ts,Heap.get?_push_of_some _ q1,q2,q3,q4,q5,q6,Heap.get?_push_of_some _ q7,q8,q9⟩
theorem catch_ret2{C CY CZ:Addr}{dx:Option Addr}{y z:Str}{b:Bool}{k}{n1:Nat}{np np' tp p1 p2 hpos:Pos}{Q:Flow->Shared->Prop}{E:Value->Shared->Prop}(D:DefCx X)(I:Inv X pins σ H s)(F:Fly X.prog X.w X.stack H s H' a (.ref C) s')(da:DAt s'.heap a dx)
  (hg:Gl X y) (hm:X.mg y=some (.ref CY)) (hg':Gl X z) (hm':X.mg z=some (.ref CZ)) (ex:PySem.W.exmAny X.K (.ref C) [.ref CY,.ref CZ]=some true) (hdy:(y==("__debug__" : Str))=false) (hdz:(z==("__debug__" : Str))=false)
  (hs:starEach [.Name y np,.Name z np'] X.env=[(false,eval (.Name y np) X.env),(false,eval (.Name z np') X.env)])
  (hQ:∀s7 σ7 v,Inv X pins σ7 H' s7->RelV (.bl b) v->Q (.ret v) s7) :
  wpAny (model X.prog X.w) X.A (noteFrame (.ref a) X.env) (fun _ s2=>wpAny (model X.prog X.w) X.A (setFlight (.ref a) none) (fun _ s3 =>
   wpAny (model X.prog X.w) X.A (handleBy (.ref a) X.env [.ExceptHandler (some (.Tuple [.Name y np,.Name z np'] n1 tp)) none [.Return (some (.Constant (.bool b) k p1)) p2] hpos]) Q E s3) E s2) E s':=by
 obtain⟨B,a0,fl,tB,oB⟩:=F.fly
 have hfr:X.A.frames=some (X.env::X.outer):=by rw[I.ok.frames,D.stk]
 have fl0:Heap.FlyingW B (X.env::X.outer) a (.ref C) a0 s'.heap:=by rw[← D.stk];exact fl
 refine noteD hfr D.frame fl0 da fun h4 held sm4 da4=>?_
 refine landD (s:={s' with heap:=h4}) held.1 held.2.1 held.2.2.1 held.2.2.2 da4 fun h5 fl5 sm5 da5=>?_
 have I5:Inv X pins σ H' {s' with heap:=h5}:=land_inv I F fl tB oB fl5.1 (sm4.trans sm5)
 have Ic5:=Inv.caught (E:=E) I5 a
 refine wpAny_handleBy_cons (codeAny_handlers_test (wpAny_Tuple_spliced ?_)) (by intro q;cases q)
 rw[hs]
 refine Calls.spliced_cons (ld_glob Ic5 hg hm ?_ hdy)
 refine Calls.spliced_cons (ld_glob Ic5 hg' hm' ?_ hdz)
 refine Calls.spliced_nil ⟨by show 2<=sizeLine;decide,?_⟩
 have st5:B.StaysIn (h5.push {cls:=Value.type "tuple", data:=Data.seq #[.ref CY,.ref CZ]}):=fun c o q=>Heap.get?_push_of_some _ (fl5.1 c o q)
 have sm5':h5.UpToSlots (h5.push {cls:=Value.type "tuple", data:=Data.seq #[.ref CY,.ref CZ]}):=fun c o q _=>⟨o.slots,Heap.get?_push_of_some _ q⟩
 have I5':Inv X pins σ H' {s' with heap:=h5.push {cls:=Value.type "tuple", data:=Data.seq #[.ref CY,.ref CZ]} }:=land_inv I F fl tB oB st5 ((sm4.trans sm5).trans sm5')
 have tr5:=traced_push (o:={cls:=Value.type "tuple", data:=Data.seq #[.ref CY,.ref CZ]}) fl5.2.2.2.at
 have ff5:=funFrames_push (o:={cls:=Value.type "tuple", data:=Data.seq #[.ref CY,.ref CZ]}) fl5.2.2.1
 obtain⟨ob,hob,hobc⟩:=fl5.there
 have hob':=Heap.get?_push_of_some {cls:=Value.type "tuple", data:=Data.seq #[.ref CY,.ref CZ]} hob
 have htp:(h5.push {cls:=Value.type "tuple", data:=Data.seq #[.ref CY,.ref CZ]}).get? h5.objs.size=some {cls:=Value.type "tuple", data:=Data.seq #[.ref CY,.ref CZ]}:=Heap.get?_push_size _ rfl
 have da5':DAt (h5.push {cls:=Value.type "tuple", data:=Data.seq #[.ref CY,.ref CZ]}) a dx:=by
  obtain⟨o9,q9,r9⟩:=da5
  exact⟨o9,Heap.get?_push_of_some _ q9,r9⟩
 generalize h5.push {cls:=Value.type "tuple", data:=Data.seq #[.ref CY,.ref CZ]}=h5' at *
 have LT:PySem.W.Looks (model X.prog X.w) h5' (typeOf (.ref a)) (.ref C):=hobc ▸ (PySem.W.Looks.ld hob').andThen .now
 refine(PySem.W.exm_tup2 (M:=model X.prog X.w) I5'.kIn LT htp ex).here ?_
 refine codeAny_handlers_suite ?_
 refine landD (s:={s' with heap:=h5' }) st5 fl5.2.1 ff5 tr5 da5' fun h6 fl6 sm6 da6=>?_
 have I6:Inv X pins σ H' {s' with heap:=h6}:=land_inv I F fl tB oB fl6.1 (((sm4.trans sm5).trans sm5').trans sm6)
 have Ic:=Inv.caught (E:=fun _ _=>False) I6 a
 have ps:PSs (Cx.caught X a fun _ _=>False) [.Return (some (.Constant (.bool b) k p1)) p2] (tRet (tC (.bl b))):=pss_one (ps_ret pe_bl)
 have z:=ps pins _ _ _ {nx:=fun _ _=>False,rt:=fun v H9=>v=.bl b/\H9=H' } Ic ⟨rfl,rfl⟩
 refine wpAny_mono z (fun f s9 h9=>?_) fun x s9 h9=>?_
 ·cases f with
  | next=>obtain⟨_,_,_,z⟩:=h9;exact z.elim
  | brk=>obtain⟨_,_,_,z⟩:=h9;exact z.elim
  | cont=>obtain⟨_,_,_,z⟩:=h9;exact z.elim
  | ret u =>
   obtain⟨v,σ9,H9,I9,r9,rfl,rfl⟩:=h9
   exact hQ s9 σ9 u (Inv.uncaught I.ok I9) r9
 ·exact False.elim h9
def Catches2(K:PySem.W.Frag)(mg:Str->Option Value)(y z:Str)(cs:List Str):Prop:=∃CY CZ,mg y=some (.ref CY)/\mg z=some (.ref CZ)/\∀c∈cs,∀C,clsAt K c C->PySem.W.exmAny K (.ref C) [.ref CY,.ref CZ]=some true
theorem jtryF2{tb:(T->Prop)->WS}{st:Stmt}{y z:Str}{b:Bool}{k}{n1:Nat}{pos np np' tp p1 p2 hpos:Pos}{cs:List Str}(D:DefCx X)(G:Catches2 X.K X.mg y z cs)(hg:Gl X y)(hg':Gl X z)(hb:JB X st tb) (hdy:(y==("__debug__" : Str))=false:=by decide) (hdn:(z==("__debug__" : Str))=false:=by decide)
  (hs:starEach [.Name y np,.Name z np'] X.env=[(false,eval (.Name y np) X.env),(false,eval (.Name z np') X.env)]:=by rfl) :
  JS X (.Try [st] [.ExceptHandler (some (.Tuple [.Name y np,.Name z np'] n1 tp)) none [.Return (some (.Constant (.bool b) k p1)) p2] hpos] [] [] pos) (sTryF tb b cs):=by
 obtain⟨CY,CZ,hm,hm',hcs⟩:=G
 intro pins s σ H Dn I ⟨τ,D0,R0,hw,kn,kr,kb,kc⟩
 refine wpAny_Try_except ?_
 have body:=hb pins s σ H Dn _ (fun e s1=>wpAny (model X.prog X.w) X.A (noteFrame e X.env) (fun _ s2=>wpAny (model X.prog X.w) X.A (setFlight e none) (fun _ s3=>wpAny (model X.prog X.w) X.A (handleBy e X.env [.ExceptHandler (some (.Tuple [.Name y np,.Name z np'] n1 tp)) none [.Return (some (.Constant (.bool b) k p1)) p2] hpos]) (SP X pins Dn) X.xe s3) X.xe s2) X.xe s1) τ D0 I R0 hw kn ?_
 ·refine wpAny_execs_cons (thn body fun f s1 h1=>?_)
  obtain⟨rfl,h1⟩:=h1
  exact wpAny_execs_nil (wpAny_execs_nil h1)
 ·intro H1 H' s1 s' a C dx I1 S1 fl da S2 ⟨c,h1,hw1⟩
  have SS:=S1.trans S2
  cases dx with
  | none =>
   obtain⟨hc,hq⟩:=hw1
   exact catch_ret2 D I1 fl da hg hm hg' hm' (hcs c hc C h1) hdy hdn hs fun s7 σ7 v I7 r7=>⟨.bl b,σ7,H',I7,r7,kr _ _ H' (R0.same.trans SS) (rep_bl.mpr rfl) hq⟩
  | some d =>
   obtain⟨f,t,od0,u,v,hd,hl,hu,hr,hc,hq⟩:=hw1
   exact catch_ret2 D I1 fl da hg hm hg' hm' (hcs c hc C h1) hdy hdn hs fun s7 σ7 v I7 r7=>⟨.bl b,σ7,H',I7,r7,kr _ _ H' (R0.same.trans SS) (rep_bl.mpr rfl) hq⟩
theorem catches2_nil{K:PySem.W.Frag}{mg:Str->Option Value}{y z:Str}{DY DZ:Addr}(m:mg y=some (.ref DY))(m':mg z=some (.ref DZ)):Catches2 K mg y z []:=⟨DY,DZ,m,m',fun c h=>by cases h⟩
theorem catches2_cons{K:PySem.W.Frag}{mg:Str->Option Value}{y z c0:Str}{DY DZ D:Addr}{cs:List Str}(d:clsAt K c0 D)(m:mg y=some (.ref DY))(m':mg z=some (.ref DZ))(k:PySem.W.exmAny K (.ref D) [.ref DY,.ref DZ]=some true)(r:Catches2 K mg y z cs):Catches2 K mg y z (c0::cs):=by
 obtain⟨E,E',hE,hE',r⟩:=r
 obtain rfl:DY=E:=Value.ref.inj (Option.some.inj (m.symm.trans hE))
 obtain rfl:DZ=E':=Value.ref.inj (Option.some.inj (m'.symm.trans hE'))
 refine⟨DY,DZ,m,m',fun c h C hC=>?_⟩
 rcases List.mem_cons.mp h with rfl|h
 ·obtain rfl:=cls_same hC d
  exact k
 ·exact r c h C hC
end
end TL
end
section
namespace TL
open PySem PySem.Spec PyProof.Rows L2
section
variable {X:Cx} {e b c a:Expr} {es:List Expr} {wa wb w:WE} {ws:WA} {pos:Pos}
theorem RepSt.hide{K:PySem.W.Frag}{H0 H:Hp}{σ:St}{τ:List Slot}{i:Nat}{v:Option V}(R:RepSt K H0 H σ τ):RepSt K H0 H (σ.set i v) (sput τ i .no):=by
 refine⟨R.same,by rw[length_sput,List.length_set];exact R.len,fun j=>?_,fun a b ts us p hab ha hb ea eb=>?_⟩
 ·by_cases hij:i=j
  ·subst hij
   by_cases hi:i < τ.length
   ·rw[sget_same hi];trivial
   ·rw[sget_big (by rw[length_sput];omega)];trivial
  ·rw[sget_ne hij,List.getElem?_set_ne hij]
   exact R.slot j
 ·have na:∀{c:Nat}{ts:List T},sget (sput τ i .no) c=.own ts->i≠c:=fun {c ts} h z=>by
   subst z
   by_cases hi:i < τ.length
   ·rw[sget_same hi]at h;cases h
   ·rw[sget_big (by rw[length_sput];omega)]at h;cases h
  have n1:=na ha
  have n2:=na hb
  rw[sget_ne n1]at ha
  rw[sget_ne n2]at hb
  rw[List.getElem?_set_ne n1]at ea
  rw[List.getElem?_set_ne n2]at eb
  exact R.apart a b ts us p hab ha hb ea eb
theorem Kp.dict{H:Hp}{p:Addr}{kvs:List (Key×V)}(hp:H p=some (.dK kvs))(o:HO):Kp H (upd H p o) :=
 ⟨fun b xs h=>by rw[upd_ne (ne_of h hp (by intro z;cases z))];exact h,fun b o' u h=>by rw[upd_ne (ne_of h hp (by intro z;cases z))];exact h⟩
def noD:List Slot->Bool
 | []=>true
 | .owd _ _::_=>false
 | _::r=>noD r
theorem noD_cons{s:Slot}{r:List Slot}:noD (s::r)=true ↔ (∀p q,s ≠ .owd p q)/\noD r=true:=by
 cases s<;>simp[noD]
theorem noD_at:∀{τ:List Slot},noD τ=true->∀(j:Nat){p:Addr}{kvs:List (Key×T)},sget τ j ≠ .owd p kvs
 | [],_,_,_,_=>by simp[sget]
 | s::r,h,0,p,kvs=>(noD_cons.mp h).1 p kvs
 | s::r,h,j + 1,p,kvs=>noD_at (noD_cons.mp h).2 j
theorem vals_at:∀{xs:List V}{us:List Value}{i:Nat}{u:Value},Vals xs us->us[i]?=some u->∃x,xs[i]?=some x/\RelV x u
 | _,_,i,u,.nil,h=>by simp at h
 | x::xs,v::us,0,u,.cons r t,h=>by simp at h;subst h;exact⟨x,by simp,r⟩
 | x::xs,v::us,i + 1,u,.cons r t,h=>by
  obtain⟨y,e,ry⟩:=vals_at t (by simpa using h)
  exact⟨y,by simpa using e,ry⟩
theorem idx_ne{α:Type} [DecidableEq α] {k:α}:∀{ns:List α}{m:Nat},m < ns.idxOf k->ns[m]?=some k->False
 | [],m,h,e=>by simp at e
 | x::r,m,h,e=>by
  rw[List.idxOf_cons]at h
  by_cases q:x=k
  ·subst q
   simp at h
  ·rw[beq_eq_false_iff_ne.mpr q]at h
   cases m with
   | zero=>simp at e;exact q e
   | succ m =>
    simp at h e
    exact idx_ne h e
theorem idx_props{α:Type} [DecidableEq α] {f:α->V} (hf:∀a b,eqV (f a) (f b)=decide (a=b)) {ns:List α} {k:α} (hk:k∈ns):ns.idxOf k < (ns.map f).length/\(∀z,(ns.map f)[ns.idxOf k]?=some z->eqV z (f k)=true)/\∀(m:Nat) z,m < ns.idxOf k->(ns.map f)[m]?=some z->eqV z (f k)=false:=by
 have hj:ns.idxOf k < ns.length:=List.idxOf_lt_length_iff.mpr hk
 refine⟨by rw[List.length_map];exact hj,fun z hz=>?_,fun m z hm hz=>?_⟩
 ·rw[List.getElem?_map,List.getElem?_eq_getElem hj]at hz
  cases hz
  rw[hf]
  simp
 ·have hm':m < ns.length:=by omega
  rw[List.getElem?_map,List.getElem?_eq_getElem hm']at hz
  cases hz
  rw[hf]
  refine decide_eq_false fun e=>?_
  exact idx_ne hm (by rw[List.getElem?_eq_getElem hm',e])
end
end TL
end
section
namespace TL
open PySem PySem.Spec PyProof PyProof.Rows L2
section
variable {X:Cx} {e b a:Expr} {wa wb w:WE} {pos:Pos}
end
section
variable {K:PySem.W.Frag} {H0 H H':Hp} {d:Addr} {rs:List RL}
theorem RepSt.raw{σ:St}{τ:List Slot}{q:Addr}{ws ws':List V}(R:RepSt K H0 H σ τ)(hl:∀i,lone1 (sget τ i)=true)(hq:H q=some (.lst ws))(h0:H0 q=none):RepSt K H0 (upd H q (.lst ws')) σ τ:=by
 have k:=Kp.write hq (.lst ws')
 refine⟨fun b o h=>?_,R.len,fun j=>?_,R.apart⟩
 ·rw[upd_ne (fun z=>by rw[z,h0]at h;cases h)]
  exact R.same b o h
 ·have s:=R.slot j
  have l:=hl j
  cases e:sget τ j with
  | no=>trivial
  | val t=>rw[e]at s;obtain⟨v,e1,r⟩:=s;exact⟨v,e1,r.kp k⟩
  | vat t v=>rw[e]at s;exact⟨s.1,s.2.kp k⟩
  | own ts=>rw[e]at l;cases l
  | see ts=>rw[e]at l;cases l
  | dic ps=>rw[e]at l;cases l
  | owd _ _=>rw[e]at l;cases l
theorem lone_sput{τ:List Slot}{i:Nat}{t:T}(hl:∀i,lone1 (sget τ i)=true):∀j,lone1 (sget (sput τ i (.val t)) j)=true:=fun j=>by
 by_cases z:i=j
 ·subst z
  by_cases hi:i < τ.length
  ·rw[sget_same hi];rfl
  ·rw[sget_big (by rw[length_sput];omega)];rfl
 ·rw[sget_ne z];exact hl j
theorem lone_hide{τ:List Slot}{i:Nat}(hl:∀i,lone1 (sget τ i)=true):∀j,lone1 (sget (sput τ i .no) j)=true:=fun j=>by
 by_cases z:i=j
 ·subst z
  by_cases hi:i < τ.length
  ·rw[sget_same hi];rfl
  ·rw[sget_big (by rw[length_sput];omega)];rfl
 ·rw[sget_ne z];exact hl j
end
section
variable {X:Cx}
end
end TL
end
section
namespace TL
open PySem PySem.Spec PyProof.Rows L2
section
variable {prog:Program} {w:World} {A:Around} {E:Value->Shared->Prop} {s:Shared} {I:Addr} {fp wr:List Addr} {G:Array GenState->Array GenState->Prop} {n:Nat} {P:Nat->Value->Prop} {St:Nat->Shared->Prop}
end
section
variable {X:Cx} {e b c a:Expr} {es:List Expr} {wa wb w:WE} {ws:WA} {pos:Pos}
def wLRev(w:WE):WE:=fun τ Q=>w τ fun x=>match x with
 | .lst ts=>Q (.lst ts.reverse)
 | _=>False
end
section
variable {X:Cx} {e b c a:Expr} {es:List Expr} {wa wb w:WE} {ws:WA} {pos:Pos}
def keyT:T->Option Key
 | .int i=>some (.inl i)
 | .str x=>some (.inr x)
 | _=>none
def putT(kvs:List (Key×T))(k:Key)(t:T):List (Key×T):=if kvs.any fun kv=>decide (kv.1=k) then kvs.map fun kv=>if kv.1=k then (kv.1,t) else kv else kvs++[(k,t)]
def valT(kvs:List (Key×T))(k:Key):Option T:=(kvs.find? fun kv=>decide (kv.1=k)).map (·.2)
def sDNew(i:Nat):WS:=fun D τ=>∀p,D.nx (sput τ i (.owd p []))
def onlyD(i:Nat)(τ:List Slot):Bool:=noD (sput τ i .no)
theorem RepSt.wrD{K:PySem.W.Frag}{H0 H:Hp}{σ:St}{τ:List Slot}{i:Nat}{p:Addr}{kvs kvs2:List (Key×T)}{vs2:List (Key×V)}(R:RepSt K H0 H σ τ)(hs:sget τ i=.owd p kvs)(od:onlyD i τ=true)(ek:vs2.map (·.1)=kvs2.map (·.1))(r:Reps K H (kvs2.map (·.2)) (vs2.map (·.2))) :
  RepSt K H0 (upd H p (.dK vs2)) σ (sput τ i (.owd p kvs2)):=by
 have sl:=R.slot i
 rw[hs]at sl
 obtain⟨ev,⟨vs,hp,_,_⟩,n0⟩:=sl
 have k:=Kp.dict hp (.dK vs2)
 have hi:i < τ.length:=by
  by_cases hi:i < τ.length
  ·exact hi
  ·rw[sget_big (by omega)]at hs;cases hs
 have ow:∀c us,sget (sput τ i (.owd p kvs2)) c=.own us->sget τ c=.own us:=fun c us h=>by
  by_cases hc:i=c
  ·subst hc;rw[sget_same hi]at h;cases h
  ·rw[sget_ne hc]at h;exact h
 refine⟨fun b o h=>?_,by rw[length_sput];exact R.len,fun j=>?_,fun a b ts us q hab ha hb ea eb=>R.apart a b ts us q hab (ow a _ ha) (ow b _ hb) ea eb⟩
 ·rw[upd_ne (fun z=>by rw[z,n0]at h;cases h)]
  exact R.same b o h
 ·by_cases hij:i=j
  ·subst hij
   rw[sget_same hi]
   exact⟨ev,⟨vs2,upd_same,ek,r.kp k⟩,n0⟩
  ·rw[sget_ne hij]
   have s:=R.slot j
   cases e:sget τ j with
   | no=>trivial
   | val t=>rw[e]at s;obtain⟨v,e1,r⟩:=s;exact⟨v,e1,r.kp k⟩
   | own ts=>rw[e]at s;obtain⟨q,vs,e1,h1,r,n⟩:=s;exact⟨q,vs,e1,by rw[upd_ne (ne_of h1 hp (by intro z;cases z))];exact h1,r.kp k,n⟩
   | see ts=>rw[e]at s;obtain⟨q,vs,e1,h1,r,n⟩:=s;exact⟨q,vs,e1,by rw[upd_ne (ne_of h1 hp (by intro z;cases z))];exact h1,r.kp k,n⟩
   | dic ps=>rw[e]at s;obtain⟨q,o,kv,e1,h1,ek,r⟩:=s;exact⟨q,o,kv,e1,k.frz _ _ _ h1,ek,r.kp k⟩
   | vat t v=>rw[e]at s;exact⟨s.1,s.2.kp k⟩
   | owd q kv =>
    have:=noD_at od j (p:=q) (kvs:=kv)
    rw[sget_ne hij]at this
    exact absurd e this
theorem putT_keys:∀{kvs:List (Key×T)}{vs:List (Key×V)}{k:Key}{t:T}{v:V},vs.map (·.1)=kvs.map (·.1)->(putK vs k v).map (·.1)=(putT kvs k t).map (·.1):=fun {kvs vs k t v} e=>by
 have ea:(vs.any fun kv=>decide (kv.1=k))=kvs.any fun kv=>decide (kv.1=k):=by
  have h1:(vs.any fun kv=>decide (kv.1=k))=(vs.map (·.1)).any fun x=>decide (x=k):=by rw[List.any_map];rfl
  have h2:(kvs.any fun kv=>decide (kv.1=k))=(kvs.map (·.1)).any fun x=>decide (x=k):=by rw[List.any_map];rfl
  rw[h1,h2,e]
 unfold putK putT
 rw[ea]
 split
 ·rw[List.map_map,List.map_map]
  have f1:((fun x:Key×V=>x.1) ∘ fun kv:Key×V=>if kv.1=k then (kv.1,v) else kv)=fun kv:Key×V=>kv.1:=by funext kv;simp only[Function.comp];split<;>rfl
  have f2:((fun x:Key×T=>x.1) ∘ fun kv:Key×T=>if kv.1=k then (kv.1,t) else kv)=fun kv:Key×T=>kv.1:=by funext kv;simp only[Function.comp];split<;>rfl
  rw[f1,f2]
  exact e
 ·rw[List.map_append,List.map_append,e]
  rfl
theorem put_map{K:PySem.W.Frag}{H:Hp}{k:Key}{t:T}{v:V}(rt:Rep K H t v):∀{kvs:List (Key×T)}{vs:List (Key×V)},vs.map (·.1)=kvs.map (·.1)->Reps K H (kvs.map (·.2)) (vs.map (·.2))->Reps K H ((kvs.map fun kv=>if kv.1=k then (kv.1,t) else kv).map (·.2)) ((vs.map fun kv=>if kv.1=k then (kv.1,v) else kv).map (·.2))
 | [],[],_,_=>reps_nil.mpr rfl
 | [],_::_,e,_=>by simp at e
 | _::_,[],e,_=>by simp at e
 | (a,x)::kvs,(b,y)::vs,e,r=>by
  simp only[List.map_cons,List.cons.injEq]at e
  obtain⟨e1,e2⟩:=e
  subst e1
  simp only[List.map_cons]at r ⊢
  rw[reps_cons]at r
  obtain⟨u,us,eq,r1,r2⟩:=r
  cases eq
  refine Reps.cons ?_ (put_map rt e2 r2)
  split
  ·exact rt
  ·exact r1
theorem putT_reps{K:PySem.W.Frag}{H:Hp}{kvs:List (Key×T)}{vs:List (Key×V)}{k:Key}{t:T}{v:V}(e:vs.map (·.1)=kvs.map (·.1))(r:Reps K H (kvs.map (·.2)) (vs.map (·.2)))(rt:Rep K H t v):Reps K H ((putT kvs k t).map (·.2)) ((putK vs k v).map (·.2)):=by
 have ea:(vs.any fun kv=>decide (kv.1=k))=kvs.any fun kv=>decide (kv.1=k):=by
  have h1:(vs.any fun kv=>decide (kv.1=k))=(vs.map (·.1)).any fun x=>decide (x=k):=by rw[List.any_map];rfl
  have h2:(kvs.any fun kv=>decide (kv.1=k))=(kvs.map (·.1)).any fun x=>decide (x=k):=by rw[List.any_map];rfl
  rw[h1,h2,e]
 unfold putK putT
 rw[ea]
 split
 ·exact put_map rt e r
 ·rw[List.map_append,List.map_append]
  exact r.append (.one rt)
theorem rep_key{K:PySem.W.Frag}{H:Hp}{t:T}{v:V}{k:Key}(e:keyT t=some k)(r:Rep K H t v):v=kV k:=by
 cases t<;>simp only[keyT,Option.some.injEq,reduceCtorEq]at e
 ·subst e;exact rep_int.mp r
 ·subst e;exact rep_str.mp r
def sDSet(i:Nat)(wb wa:WE):WS:=fun D τ=>match sget τ i with
 | .owd p kvs=>onlyD i τ=true/\kvs.length < 1000/\wa τ fun t=>wb τ fun y=>match keyT y with
  | some k=>D.nx (sput τ i (.owd p (putT kvs k t)))
  | none=>False
 | _=>False
theorem jdset{i:Nat}{x:Str}{p5 p7:Pos}(hu:X.A.units + 1 < cLine)(hv:PE X (.Name x p5) (tVar i))(hb:JE X b wb)(ha:JE X a wa)(hs:swapsWith a (some (.Subscript (.Name x p5) b p7)) pos.line X.env=pure false:=by rfl) :
  JS X (.Assign [.Subscript (.Name x p5) b p7] a pos) (sDSet i wb wa):=by
 refine ps_of (ps_dput hu hv hb ha hs) fun D σ H ⟨τ,D0,R,hw,kk,_⟩=>?_
 unfold sDSet at hw
 cases own:sget τ i with
 | owd p kvs =>
  rw[own]at hw
  obtain⟨od,hl,hw⟩:=hw
  refine⟨τ,_,R,hw,fun t v H1 S1 r1 q1=>?_⟩
  have sl:=(R.mono S1).slot i
  rw[own]at sl
  obtain⟨ev,⟨vs,hp,ek,rr⟩,n0⟩:=sl
  refine⟨.ref p,ev,τ,_,R.mono S1,q1,fun y u H2 S2 r2 q2=>?_⟩
  cases ey:keyT y with
  | none=>rw[ey]at q2;exact q2.elim
  | some k =>
   rw[ey]at q2
   have eu:=rep_key ey r2
   subst eu
   have hp2:H2 p=some (.dK vs):=S2 _ _ hp
   have hl2:vs.length=kvs.length:=by have:=congrArg List.length ek;simpa using this
   refine⟨p,_,rfl,DPut.k hp2 (by rw[hl2];exact small1000 (Nat.le_of_lt hl)),?_⟩
   exact kk _ _ _ ((Kp.of (S1.trans S2)).trans (Kp.dict hp2 _)) (((R.mono S1).mono S2).wrD own od (putT_keys ek) (putT_reps ek (rr.kp (.of S2)) (r1.kp (.of S2)))) q2
 | _=>rw[own]at hw;exact hw.elim
def wDLen(i:Nat):WE:=fun τ Q=>match sget τ i with | .owd _ kvs=>Q (.int kvs.length)|_=>False
def wDGt(i:Nat)(wb:WE):WE:=fun τ Q=>match sget τ i with
 | .owd _ kvs=>wb τ fun y=>match keyT y with
  | some k=>(match valT kvs k with|some t=>Q t|none=>False)
  | none=>False
 | _=>False
theorem val_rep{K:PySem.W.Frag}{H:Hp}{k:Key}{t:T}:∀{kvs:List (Key×T)}{vs:List (Key×V)},vs.map (·.1)=kvs.map (·.1)->Reps K H (kvs.map (·.2)) (vs.map (·.2))->valT kvs k=some t->∃v,L2.valV vs k=some v/\Rep K H t v
 | [],_,_,_,h=>by simp[valT]at h
 | _::_,[],e,_,_=>by simp at e
 | (a,x)::kvs,(b,y)::vs,e,r,h=>by
  simp only[List.map_cons,List.cons.injEq]at e
  obtain⟨e1,e2⟩:=e
  subst e1
  simp only[List.map_cons]at r
  rw[reps_cons]at r
  obtain⟨u,us,eq,r1,r2⟩:=r
  cases eq
  by_cases hk:b=k
  ·refine⟨y,valV_pos hk,?_⟩
   simp[valT,List.find?_cons,hk]at h
   subst h
   exact r1
  ·rw[valV_neg (p:=(b,y)) hk]
   refine val_rep e2 r2 ?_
   simpa [valT,List.find?_cons,hk] using h
theorem jdgt{i:Nat}{x:Str}{p:Pos}(hu:X.A.units + 1 < cLine)(hv:PE X (.Name x p) (tVar i))(hb:JE X b wb)(hs:NoSl b:=by intro _ _;rfl):JE X (.Subscript (.Name x p) b pos) (wDGt i wb):=pe_of (pe_dget hu hv hb hs) fun σ H Q ⟨τ,Q0,R,hw,k⟩=>by
 unfold wDGt at hw
 cases own:sget τ i with
 | owd p kvs =>
  rw[own]at hw
  have sl:=R.slot i
  rw[own]at sl
  obtain⟨ev,⟨vs,hp,ek,rr⟩,n0⟩:=sl
  refine⟨.ref p,ev,τ,_,R,hw,fun y u H2 S2 r2 q2=>?_⟩
  cases ey:keyT y with
  | none=>rw[ey]at q2;exact q2.elim
  | some kk =>
   rw[ey]at q2
   have eu:=rep_key ey r2
   subst eu
   have q3:(match valT kvs kk with|some t=>Q0 t|none=>False):=q2
   cases et:valT kvs kk with
   | none=>rw[et]at q3;exact q3.elim
   | some t =>
    rw[et]at q3
    obtain⟨v,e1,rv⟩:=val_rep ek rr et
    exact⟨p,v,rfl,by rw[← e1];exact DGet.k (S2 _ _ hp),k t v H2 S2 (rv.kp (.of S2)) q3⟩
 | _=>rw[own]at hw;exact hw.elim
end
section
variable {X:Cx} {e b c a:Expr} {es:List Expr} {wa wb w:WE} {ws:WA} {pos:Pos}
def rCountB(ts us:List T)(Q:T->Prop):Prop:=match us with
 | [.bl k]=>(match boolsOf ts with|some ns=>Q (.int (ns.count k:Nat))|none=>False)
 | _=>False
def wCountB(wa:WE)(ws:WA):WE:=fun τ Q=>wa τ fun x=>match x with
 | .lst ts=>ws τ fun us=>rCountB ts us Q
 | _=>False
def rIdxB(ts us:List T)(Q:T->Prop):Prop:=match us with
 | [.bl k]=>(match boolsOf ts with|some ns=>k∈ns/\ns.length<=1000/\Q (.int (ns.idxOf k:Nat))|none=>False)
 | _=>False
def wIdxB(wa:WE)(ws:WA):WE:=fun τ Q=>wa τ fun x=>match x with
 | .lst ts=>ws τ fun us=>rIdxB ts us Q
 | _=>False
end
end TL
end
section
namespace TL
open PySem PySem.Spec PyProof.Rows L2
section
open Builtin Builtin.Str
variable {prog:Program} {w:World} {A:Around} {E:Value->Shared->Prop} {s:Shared} {x y:Str} {t u:Tok} {Q:Value->Shared->Prop}
theorem split_at(hy:(y.length==0)=false)
  (hq:∀(l:List (Str×Tok))(k n:Nat),l.map (·.1)=Txt.split x y->Q (.ref s.heap.objs.size) {s with heap:=s.heap.push {cls:=.type "list", data:=.seq (strValues l).toArray n},toks:=k})
  (hsz:x.length<=sizeLine) (hsz2:(partsBetween x (occurrences x y 0 x.length (x.length + 1)) y.length).length<=sizeLine) :
  wpAny (model prog w) A (call (.builtin "str.split") [.str x t,.str y u]) Q E s:=by
 cases h1:(decide (x.length < y.length)||decide (strKind x < strKind y))
 ·cases hf:(occurrences x y 0 x.length (x.length + 1)).isEmpty
  ·refine call_meets F.slot_str_split (typeIs_str _ _ _) F.entry_str_split (F.args_str_split_2 _ _) (meets_str_split_sep x y t u h1 hy hf hsz hsz2) ?_
   show wants Q E _ {s with toks:=_,heap:=s.heap.push {cls:=.type "list", data:=.seq (strsFrom s.toks (partsBetween x (occurrences x y 0 x.length (x.length + 1)) y.length)).toArray} }
   rw[strsFrom_eq]
   exact hq (numbered s.toks _) _ _ ((numbered_texts _ _).trans ((if_neg (ne_true_of_eq_false h1)).trans (if_neg (ne_true_of_eq_false hf))).symm)
  ·exact call_meets F.slot_str_split (typeIs_str _ _ _) F.entry_str_split (F.args_str_split_2 _ _) (meets_str_split_not_found x y t u h1 hy hf)
    (hq [(x,t)] s.toks _ ((if_neg (ne_true_of_eq_false h1)).trans (if_pos hf)).symm)
 ·exact call_meets F.slot_str_split (typeIs_str _ _ _) F.entry_str_split (F.args_str_split_2 _ _) (meets_str_split_cannot_occur x y t u h1)
   (hq [(x,t)] s.toks _ (if_pos h1).symm)
theorem split_ok(hy:(y.length==0)=false)
  (hq:∀(l:List (Str×Tok))(k n:Nat),l.map (·.1)=Txt.split x y->Q (.ref s.heap.objs.size) {s with heap:=s.heap.push {cls:=.type "list", data:=.seq (strValues l).toArray n},toks:=k})
  (hsz:x.length + 2<=sizeLine):wpAny (model prog w) A (call (.builtin "str.split") [.str x t,.str y u]) Q E s:=by
 refine split_at hy hq (by omega) ?_
 have e1:=StrLaws.occ_length_le x y 0 x.length (x.length + 1)
 rw[length_partsBetween]
 omega
theorem vals_strV:∀l:List (Str×Tok),Vals ((l.map (·.1)).map V.str) (strValues l)
 | []=>.nil
 | p::l=>.cons ⟨p.2,rfl⟩ (vals_strV l)
end
section
variable {X:Cx} {e b c a:Expr} {es:List Expr} {wa wb w:WE} {ws:WA} {pos:Pos}
theorem reps_strs'{K:PySem.W.Frag}{H:Hp}:∀zs:List Str,Reps K H (zs.map T.str) (zs.map V.str)
 | []=>reps_nil.mpr rfl
 | z::r=>.cons (rep_str.mpr rfl) (reps_strs' r)
theorem mt_split:MtR X "str.split" (fun x vs H Q=>∃(z y:Str),x=.str z/\vs=[.str y]/\(y.length==0)=false/\z.length<=1000000/\∀l o,H l=none->Q (.ref l) (upd H l (.frz o (.lst ((Txt.split z y).map V.str))))):=by
  intro pins s σ H x vs v us Q I rx rv h
  obtain⟨z,y,rfl,rfl,hy,hz,q⟩:=h
  obtain⟨t,rfl⟩:=rx
  obtain⟨u,rfl,ru⟩:=vals1 rv
  obtain⟨t',rfl⟩:=ru
  refine split_ok hy (fun l k n e => ?_) (by have:(1000002:Nat)<=sizeLine:=by decide +kernel
                                             omega)
  have hl:((Txt.split z y).map V.str).length<=sizeLine:=by
    rw[List.length_map]
    have:=split_le z y
    have:(1000002:Nat)<=sizeLine:=by decide +kernel
    omega
  have I1:=I.laid (h':=s.heap.push {cls:=.type "list", data:=.seq (strValues l).toArray n}) (t':=k) (a:=s.heap.objs.size) (o:=.lst ((Txt.split z y).map V.str)) (fun b u e=>Heap.get?_push_of_some _ e) (Nat.le_refl _)
    (show ObjOk X.prog X.w _ _ _ (.lst ((Txt.split z y).map V.str)) from ⟨hl,strValues l,n,by rw[← e];exact vals_strV l,Heap.get?_push_size _ rfl⟩)
  obtain⟨o,I2⟩:=Inv.freeze I1 (upd_same (o:=.lst ((Txt.split z y).map V.str)))
  rw[upd_upd]at I2
  exact⟨.ref s.heap.objs.size,_,I2,rfl,q _ o (I.hok.fresh (Nat.le_refl _))⟩
def rSplitT(z:Str)(us:List T)(Q:T->Prop):Prop:=match us with
 | [.str y]=>(y.length==0)=false/\z.length<=1000000/\Q (.lst ((Txt.split z y).map T.str))
 | _=>False
def wSplit(wa:WE)(ws:WA):WE:=fun τ Q=>wa τ fun x=>match x with
 | .str z=>ws τ fun us=>rSplitT z us Q
 | _=>False
theorem one_str{us:List T}{P:Str->Prop}(h:match us with|[.str k]=>P k|_=>False):∃k,us=[.str k]/\P k:=by
 cases us with
 | nil=>exact h.elim
 | cons y r =>
  cases y<;>first|exact h.elim|skip
  cases r with
  | nil=>exact⟨_,rfl,h⟩
  | cons _ _=>exact h.elim
theorem jsplit{apos:Pos}(ha:JE X a wa)(hb:JA X [b] ws)(hst:starEach [b] X.env=[(false,eval b X.env)]:=by exact star1 rfl) (hbase:attributeBase a "split" X.env (eval a X.env)=eval a X.env:=by rfl)
  (hfew:((backTo pos (starEach [b] X.env)).all (fun x=>!x.1)&&(backToKw pos (keywordEach [] X.env)).all (fun x=>x.1.isSome)
   && decide ([b].length + ([]:List Keyword).length + (if ([]:List Keyword).isEmpty then 0 else 1) < 30))=true:=by rfl)
  (hline:(apos.endLine==pos.line)=true:=by rfl):JE X (.Call (.Attribute a "split" apos) [b] [] pos) (wSplit wa ws):=by
 refine pe_of (pe_bm F.plainAttrs_str F.slot_str_split F.type_str_split mt_split ha hb hbase hfew hline hst (stars rfl)) fun σ H Q ⟨τ,Q0,R,hw,k⟩=>?_
 refine⟨τ,_,R,hw,fun t v H1 S1 r1 q1=>?_⟩
 cases t<;>first|exact q1.elim|skip
 rename_i z
 have e1:=rep_str.mp r1
 subst e1
 refine⟨rfl,τ,fun us=>rSplitT z us Q0,R.mono S1,q1,fun us ws' H2 S2 rs q2=>?_⟩
 obtain⟨y,rfl,q3⟩:=one_str (P:=fun y=>(y.length==0)=false/\z.length<=1000000/\Q0 (.lst ((Txt.split z y).map T.str))) q2
 obtain⟨v,rfl,r2⟩:=reps1 rs
 refine⟨z,y,rfl,by rw[rep_str.mp r2],q3.1,q3.2.1,fun l o hl=>?_⟩
 have S3:=same_new hl (.frz o (.lst ((Txt.split z y).map V.str)))
 exact k _ _ _ ((S1.trans S2).trans S3) (rep_lst.mpr ⟨l,_,rfl,.inl ⟨o,upd_same⟩,reps_strs' _⟩) q3.2.2
theorem mt_starts:MtR X "str.startswith" (fun x vs H Q=>∃(z y:Str),x=.str z/\vs=[.str y]/\Q (.bl (Txt.startswith z y)) H):=by
 intro pins s σ H x vs v us Q I rx rv h
 obtain⟨z,y,rfl,rfl,q⟩:=h
 obtain⟨t,rfl⟩:=rx
 obtain⟨u,rfl,ru⟩:=vals1 rv
 obtain⟨t',rfl⟩:=ru
 exact SC.startswith ⟨.bl _,H,I,rfl,q⟩
def wStarts(wa:WE)(ws:WA):WE:=fun τ Q=>wa τ fun x=>match x with
 | .str z=>ws τ fun us=>match us with|[.str y]=>Q (.bl (Txt.startswith z y))|_=>False
 | _=>False
theorem jstarts{apos:Pos}(ha:JE X a wa)(hb:JA X [b] ws)(hst:starEach [b] X.env=[(false,eval b X.env)]:=by exact star1 rfl) (hbase:attributeBase a "startswith" X.env (eval a X.env)=eval a X.env:=by rfl)
  (hfew:((backTo pos (starEach [b] X.env)).all (fun x=>!x.1)&&(backToKw pos (keywordEach [] X.env)).all (fun x=>x.1.isSome)
   && decide ([b].length + ([]:List Keyword).length + (if ([]:List Keyword).isEmpty then 0 else 1) < 30))=true:=by rfl)
  (hline:(apos.endLine==pos.line)=true:=by rfl):JE X (.Call (.Attribute a "startswith" apos) [b] [] pos) (wStarts wa ws):=by
 refine pe_of (pe_bm F.plainAttrs_str F.slot_str_startswith F.type_str_startswith mt_starts ha hb hbase hfew hline hst (stars rfl)) fun σ H Q ⟨τ,Q0,R,hw,k⟩=>?_
 refine⟨τ,_,R,hw,fun t v H1 S1 r1 q1=>?_⟩
 cases t<;>first|exact q1.elim|skip
 rename_i z
 have e1:=rep_str.mp r1
 subst e1
 refine⟨rfl,τ,fun us=>(match us with|[.str y]=>Q0 (.bl (Txt.startswith z y))|_=>False),R.mono S1,q1,fun us ws' H2 S2 rs q2=>?_⟩
 obtain⟨y,rfl,q3⟩:=one_str (P:=fun y=>Q0 (.bl (Txt.startswith z y))) q2
 obtain⟨v,rfl,r2⟩:=reps1 rs
 exact⟨z,y,rfl,by rw[rep_str.mp r2],k _ _ H2 (S1.trans S2) (rep_bl.mpr rfl) q3⟩
theorem call_intS:CallR X (.type "int") (fun xs H Q=>∃(z:Str) (n:Int),xs=[.str z]/\z.length<=640/\intText? z=some n/\Q (.int n) H):=by
 intro pins s σ H xs us Q I r h
 obtain⟨z,n,rfl,hl,hn,q⟩:=h
 obtain⟨u,rfl,rx⟩:=vals1 r
 obtain⟨t,rfl⟩:=rx
 exact PySem.W.KIN.call_text hn hl ⟨.int n,H,I.tok _,⟨_,rfl⟩,q⟩
def rIntST(ts:List T)(Q:T->Prop):Prop:=match ts with
 | [.str z]=>z.length<=640/\(match intText? z with|some n=>Q (.int n)|none=>False)
 | _=>False
theorem ty_intS:BlR X (.type "int") rIntST:=by
 refine⟨_,call_intS,fun ts vs H Q0 Q r q k=>?_⟩
 obtain⟨z,rfl,q1,q2⟩:=one_str (P:=fun z=>z.length<=640/\(match intText? z with|some n=>Q0 (.int n)|none=>False)) q
 obtain⟨v,rfl,r1⟩:=reps1 r
 cases e:intText? z with
 | none=>rw[e]at q2;exact q2.elim
 | some n =>
  rw[e]at q2
  exact⟨z,n,by rw[rep_str.mp r1],q1,e,k _ _ H (.refl H) (rep_int.mpr rfl) q2⟩
end
theorem fz_all{X:Cx}{pins:List (Addr×Obj)}{σ:St}{s:Shared}:∀{as:List (Addr×List V)}{H:Hp},(as.map (·.1)).Nodup->Inv X pins σ H s->(∀r∈as,H r.1=some (.lst r.2)/\X.H₀ r.1=none) →
  ∃Hf,Inv X pins σ Hf s/\(∀r∈as,∃o,Hf r.1=some (.frz o (.lst r.2)))/\(∀b,b∉as.map (·.1)->Hf b=H b)/\Kp H Hf/\∀{σ2:St}{s2:Shared}{H2:Hp},Inv X pins σ2 H2 s2->Same Hf H2->∃H3,Inv X pins σ2 H3 s2/\Same H H3
 | [],H,_,I,_=>⟨H,I,(fun r m=>by cases m),fun _ _=>rfl,.refl H,fun I2 S=>⟨_,I2,S⟩⟩
 | a::r,H,nd,I,h=>by
  rw[List.map_cons,List.nodup_cons]at nd
  obtain⟨ha,h0⟩:=h a List.mem_cons_self
  obtain⟨o,I1⟩:=Inv.freeze I ha
  obtain⟨Hf,I2,h1,h2,k2,th⟩:=fz_all nd.2 I1 fun x m=>by
   rw[upd_ne fun z=>nd.1 (by rw[← z];exact List.mem_map_of_mem m)]
   exact h x (List.mem_cons_of_mem _ m)
  refine⟨Hf,I2,fun x m=>?_,fun b nb=>?_,(Kp.write ha _).trans k2,fun {σ2 s2 H2} I3 S=>?_⟩
  ·rcases List.mem_cons.mp m with rfl|m
   ·exact⟨o,by rw[h2 x.1 nd.1];exact upd_same⟩
   ·exact h1 x m
  ·rw[List.map_cons,List.mem_cons]at nb
   rw[h2 b fun z=>nb (.inr z),upd_ne fun z=>nb (.inl z)]
  ·obtain⟨H3,I4,S4⟩:=th I3 S
   have hp:H3 a.1=some (.frz o (.lst a.2)):=S4 _ _ upd_same
   exact⟨_,Inv.unfreeze I4 hp h0,same_thaw ha S4⟩
theorem RepSt.lone_kp{K:PySem.W.Frag}{H0 H H':Hp}{σ:St}{τ:List Slot}(R:RepSt K H0 H σ τ)(hl:∀i,lone1 (sget τ i)=true)(k:Kp H H')(S:Same H0 H'):RepSt K H0 H' σ τ:=by
 refine⟨S,R.len,fun j=>?_,R.apart⟩
 have s:=R.slot j
 have l:=hl j
 cases e:sget τ j with
 | no=>trivial
 | val t=>rw[e]at s;obtain⟨v,e1,r⟩:=s;exact⟨v,e1,r.kp k⟩
 | vat t v=>rw[e]at s;exact⟨s.1,s.2.kp k⟩
 | own ts=>rw[e]at l;cases l
 | see ts=>rw[e]at l;cases l
 | dic ps=>rw[e]at l;cases l
 | owd _ _=>rw[e]at l;cases l
theorem nodup_at{α:Type}:∀{l:List α}{n m:Nat}{a:α},l.Nodup->l[n]?=some a->l[m]?=some a->n=m
 | [],n,m,a,_,h,_=>by simp at h
 | x::l,0,0,a,_,_,_=>rfl
 | x::l,0,m + 1,a,nd,h1,h2=>by
  rw[List.nodup_cons]at nd
  simp only[List.getElem?_cons_zero,Option.some.injEq]at h1
  rw[List.getElem?_cons_succ]at h2
  rw[h1]at nd
  exact absurd (List.mem_of_getElem? h2) nd.1
 | x::l,n + 1,0,a,nd,h1,h2=>by
  rw[List.nodup_cons]at nd
  simp only[List.getElem?_cons_zero,Option.some.injEq]at h2
  rw[List.getElem?_cons_succ]at h1
  rw[h2]at nd
  exact absurd (List.mem_of_getElem? h1) nd.1
 | x::l,n + 1,m + 1,a,nd,h1,h2=>by
  rw[List.nodup_cons]at nd
  rw[List.getElem?_cons_succ]at h1 h2
  rw[nodup_at nd.2 h1 h2]
structure Rd3(K:PySem.W.Frag)(H0 H:Hp)(p:Addr)(qs:List Addr)(ls:List (List T)):Prop where
 tup:H p=some (.tup (qs.map V.ref))
 nd:qs.Nodup
 len:qs.length=ls.length
 ats:∀(n:Nat)(q:Addr)(us:List T),qs[n]?=some q->ls[n]?=some us->∃ws,H q=some (.lst ws)/\Reps K H us ws
 new:∀q∈qs,H0 q=none
 nl:∀us∈ls,noLs us=true
section
variable {K:PySem.W.Frag} {H0 H H':Hp} {p:Addr} {qs:List Addr} {ls:List (List T)}
theorem Rd3.mono(R:Rd3 K H0 H p qs ls)(S:Same H H'):Rd3 K H0 H' p qs ls :=
 ⟨S _ _ R.tup,R.nd,R.len,fun n q us e1 e2=>by obtain⟨ws,a,b⟩:=R.ats n q us e1 e2;exact⟨ws,S _ _ a,b.kp (.of S)⟩,R.new,R.nl⟩
theorem Rd3.at_q(R:Rd3 K H0 H p qs ls){n:Nat}{us:List T}(e:ls[n]?=some us):∃q ws,qs[n]?=some q/\H q=some (.lst ws)/\Reps K H us ws:=by
 have hn:n < ls.length:=(List.getElem?_eq_some_iff.mp e).1
 have hq:n < qs.length:=by rw[R.len];exact hn
 obtain⟨ws,a,b⟩:=R.ats n qs[n] us (List.getElem?_eq_getElem hq) e
 exact⟨qs[n],ws,List.getElem?_eq_getElem hq,a,b⟩
theorem Rd3.lists(R:Rd3 K H0 H p qs ls):∀q∈qs,∃ws,H q=some (.lst ws):=fun q m=>by
 obtain⟨n,hn,e⟩:=List.getElem_of_mem m
 have hl:n < ls.length:=by rw[← R.len];exact hn
 obtain⟨ws,a,_⟩:=R.ats n q ls[n] (by rw[List.getElem?_eq_getElem hn,e]) (List.getElem?_eq_getElem hl)
 exact⟨ws,a⟩
theorem Rd3.app(R:Rd3 K H0 H p qs ls){n:Nat}{q:Addr}{us:List T}{ws:List V}{t:T}{y:V}(e1:qs[n]?=some q)(e2:ls[n]?=some us)(hq:H q=some (.lst ws))(rr:Reps K H us ws)(rt:Rep K H t y)(nt:noL t=true):Rd3 K H0 (upd H q (.lst (ws++[y]))) p qs (ls.set n (us++[t])):=by
 have k:=Kp.write hq (.lst (ws++[y]))
 have hn:n < ls.length:=(List.getElem?_eq_some_iff.mp e2).1
 refine⟨?_,R.nd,by rw[List.length_set];exact R.len,fun m q' us' f1 f2=>?_,R.new,fun us' h=>?_⟩
 ·rw[upd_ne (fun z=>by have:=R.tup;rw[z,hq]at this;cases this)]
  exact R.tup
 ·by_cases hm:n=m
  ·subst hm
   rw[e1]at f1
   cases f1
   rw[List.getElem?_set_self hn]at f2
   cases f2
   exact⟨_,upd_same,(rr.kp k).append (.one (rt.kp k))⟩
  ·rw[List.getElem?_set_ne hm]at f2
   obtain⟨ws',a,b⟩:=R.ats m q' us' f1 f2
   refine⟨ws',?_,b.kp k⟩
   rw[upd_ne fun z=>hm ?_]
   ·exact a
   ·rw[z]at f1
    exact nodup_at R.nd e1 f1
 ·rcases List.mem_or_eq_of_mem_set h with h|h
  ·exact R.nl _ h
  ·rw[h]
   exact noLs_app (R.nl us (List.mem_of_getElem? e2)) nt
end
section
variable {X:Cx}
theorem rd_fz{pins:List (Addr×Obj)}{σ:St}{H:Hp}{s:Shared}{p:Addr}{qs:List Addr}{ls:List (List T)}(I:Inv X pins σ H s)(SS:Same X.H₀ H)(D:Rd3 X.K X.H₀ H p qs ls):∃Hf,Inv X pins σ Hf s/\Same X.H₀ Hf/\Kp H Hf/\Rep X.K Hf (.tup (ls.map T.lst)) (.ref p)/\∀{σ2:St}{s2:Shared}{H2:Hp},Inv X pins σ2 H2 s2->Same Hf H2->∃H3,Inv X pins σ2 H3 s2/\Same H H3:=by
 obtain⟨wss,hw⟩:∃wss:List (Addr×List V),wss.map (·.1)=qs/\∀r∈wss,H r.1=some (.lst r.2):=by
  have:=D.lists
  clear D
  induction qs with
  | nil=>exact⟨[],rfl,fun r m=>by cases m⟩
  | cons q qs ih =>
   obtain⟨wss,e,h⟩:=ih fun x m=>this x (List.mem_cons_of_mem _ m)
   obtain⟨ws,hq⟩:=this q List.mem_cons_self
   refine⟨(q,ws)::wss,by rw[List.map_cons,e],fun r m=>?_⟩
   rcases List.mem_cons.mp m with rfl|m
   ·exact hq
   ·exact h r m
 obtain⟨Hf,If,f1,f2,kf,th⟩:=fz_all (as:=wss) (by rw[hw.1];exact D.nd) I fun r m=>⟨hw.2 r m,D.new r.1 (by rw[← hw.1];exact List.mem_map_of_mem m)⟩
 have S0:Same X.H₀ Hf:=fun b ob e=>by
  have nb:b∉wss.map (·.1):=fun m=>by
   rw[hw.1]at m
   rw[D.new b m]at e
   cases e
  rw[f2 b nb]
  exact SS b ob e
 have hp:Hf p=some (.tup (qs.map V.ref)):=by
  rw[f2 p fun m=>by
   obtain⟨r,mr,e⟩:=List.mem_map.mp m
   have:=hw.2 r mr
   rw[e,D.tup]at this
   cases this]
  exact D.tup
 have reps:∀(qs':List Addr)(ls':List (List T)),qs'.length=ls'.length->(∀(n:Nat)(q:Addr)(us:List T),qs'[n]?=some q->ls'[n]?=some us->q∈qs/\∃ws,H q=some (.lst ws)/\Reps X.K H us ws)->Reps X.K Hf (ls'.map T.lst) (qs'.map V.ref):=fun qs'=>by
  induction qs' with
  | nil =>
   intro ls' e _
   cases ls' with
   | nil=>exact reps_nil.mpr rfl
   | cons _ _=>simp at e
  | cons q r ih =>
   intro ls' e g
   cases ls' with
   | nil=>simp at e
   | cons us t =>
    obtain⟨mq,ws,a,b⟩:=g 0 q us rfl rfl
    rw[← hw.1]at mq
    obtain⟨z,mz,ez⟩:=List.mem_map.mp mq
    obtain⟨o,eo⟩:=f1 z mz
    have e3:=hw.2 z mz
    rw[ez]at e3 eo
    rw[a]at e3
    cases e3
    exact Reps.cons (rep_lst.mpr ⟨q,_,rfl,.inl ⟨o,eo⟩,b.kp kf⟩) (ih t (by simpa using e) fun n q' us' g1 g2=>g (n + 1) q' us' (by simpa using g1) (by simpa using g2))
 have rp:Rep X.K Hf (.tup (ls.map T.lst)) (.ref p):=rep_tup.mpr ⟨p,_,rfl,SqT.of hp,reps qs ls D.len fun n q us g1 g2=>⟨List.mem_of_getElem? g1,D.ats n q us g1 g2⟩⟩
 exact⟨Hf,If,S0,kf,rp,th⟩
theorem pt_rd{c:Expr}{u:WT}{iy:Nat}(h:JT X c u):PT X c (fun σ H Q=>∃(τ:List Slot) (Q0:Bool->Prop) (p:Addr) (qs:List Addr) (ls:List (List T)),RepSt X.K X.H₀ H σ τ/\(∀j,lone1 (sget τ j)=true)/\σ[iy]?=some (some (.ref p))/\Rd3 X.K X.H₀ H p qs ls/\u (sput τ iy (.val (.tup (ls.map T.lst)))) Q0/\∀b H',Same H H'->Q0 b->Q b H'):=by
 intro pins s σ H Q I ⟨τ,Q0,p,qs,ls,R,hl,ev,D,hu,k⟩
 obtain⟨Hf,If,S0,kf,rp,th⟩:=rd_fz I R.same D
 have Rf:=(R.lone_kp hl kf S0).put (i:=iy) rp
 have es:σ.set iy (some (.ref p))=σ:=by
  apply List.ext_getElem?
  intro j
  by_cases hj:iy=j
  ·subst hj
   rw[List.getElem?_set_self (List.getElem?_eq_some_iff.mp ev).1,ev]
  ·rw[List.getElem?_set_ne hj]
 rw[es]at Rf
 refine thn (h pins s σ Hf (fun b H2=>Same Hf H2/\Q0 b) If ⟨_,_,Rf,hu,fun b H' S q=>⟨S,q⟩⟩) fun b s2 ⟨H2,I2,S2,q2⟩=>?_
 obtain⟨H3,I3,S3⟩:=th I2 S2
 exact⟨H3,I3,k b H3 S3 q2⟩
theorem pe_rd{e:Expr}{iy:Nat}(v:PE X e (tVar iy)):PE X e (fun σ H Q=>∃(p:Addr) (qs:List Addr) (ls:List (List T)),σ[iy]?=some (some (.ref p))/\Rd3 X.K X.H₀ H p qs ls/\Same X.H₀ H/\∀Hf,Same X.H₀ Hf->Rep X.K Hf (.tup (ls.map T.lst)) (.ref p)->Q (.ref p) Hf):=by
 intro pins s σ H Q I ⟨p,qs,ls,ev,D,SS,k⟩
 refine thn (v pins s σ H (fun y H1=>y=.ref p/\H1=H) I ⟨.ref p,ev,rfl,rfl⟩) fun u s2 ⟨y,H1,I1,ry,hy,hH⟩=>?_
 subst hy
 subst hH
 obtain⟨Hf,If,S0,kf,rp,th⟩:=rd_fz I1 SS D
 exact⟨.ref p,Hf,If,ry,k Hf S0 rp⟩
def DF:DT:={nx:=fun _=>False,rt:=fun _=>False}
def rdT (iy jn jr ir:Nat) (wr:WE) (u1:WT) (r1:WS) (wx we:WE) (u2:WT) (r2:WS):List T->List (List T)->(List T->Prop)->List Slot->Prop
 | [],ls,Q,_=>Q (ls.map T.lst)
 | t :: ts,ls,Q,τ=>match t with
  | .tup [n,row]=>wr (sput (sput τ jn (.val n)) jr (.val row)) fun rd=>u1 (sput (sput (sput (sput τ jn (.val n)) jr (.val row)) ir (.val rd)) iy (.val (.tup (ls.map T.lst)))) fun k =>
    (k=true->r1 DF (sput (sput (sput τ jn (.val n)) jr (.val row)) ir (.val rd)))/\(k=false->wx (sput (sput (sput τ jn (.val n)) jr (.val row)) ir (.val rd)) fun y=>∃(m:Nat) (us:List T),y=.int (m:Nat)/\ls[m]?=some us/\us.length < 1000 ∧
     we (sput (sput (sput τ jn (.val n)) jr (.val row)) ir (.val rd)) fun e=>noL e=true/\u2 (sput (sput (sput (sput τ jn (.val n)) jr (.val row)) ir (.val rd)) iy (.val (.tup ((ls.set m (us++[e])).map T.lst)))) fun k2 =>
      (k2=true->r2 DF (sput (sput (sput τ jn (.val n)) jr (.val row)) ir (.val rd)))/\(k2=false->rdT iy jn jr ir wr u1 r1 wx we u2 r2 ts (ls.set m (us++[e])) Q (sput (sput (sput τ jn (.val n)) jr (.val row)) ir (.val rd))))
  | _=>False
def sRd(iy jn jr ir:Nat)(wi:WI)(wr:WE)(u1:WT)(r1:WS)(wx we:WE)(u2:WT)(r2:WS):WS:=fun D τ=>(iy < τ.length/\jn < τ.length/\jr < τ.length/\ir < τ.length/\(∀j,lone1 (sget τ j)=true))/\wi (sput τ iy .no) fun ts=>rdT iy jn jr ir wr u1 r1 wx we u2 r2 ts [[],[],[]] (fun us=>D.rt (.tup us)) (sput τ iy .no)
theorem rd3_new{K:PySem.W.Frag}{H0 H:Hp}{p q1 q2 q3:Addr}(S0:Same H0 H)(h1:H q1=none)(h2:upd H q1 (.lst []) q2=none)(h3:upd (upd H q1 (.lst [])) q2 (.lst []) q3=none)(h4:upd (upd (upd H q1 (.lst [])) q2 (.lst [])) q3 (.lst []) p=none) :
  Rd3 K H0 (upd (upd (upd (upd H q1 (.lst [])) q2 (.lst [])) q3 (.lst [])) p (.tup [.ref q1,.ref q2,.ref q3])) p [q1,q2,q3] [[],[],[]]/\Same H (upd (upd (upd (upd H q1 (.lst [])) q2 (.lst [])) q3 (.lst [])) p (.tup [.ref q1,.ref q2,.ref q3])):=by
 have S1:=same_new h1 (.lst [])
 have S2:=same_new h2 (.lst [])
 have S3:=same_new h3 (.lst [])
 have S4:=same_new h4 (.tup [.ref q1,.ref q2,.ref q3])
 have e1:upd H q1 (.lst []) q1=some (.lst []):=upd_same
 have e2:upd (upd H q1 (.lst [])) q2 (.lst []) q2=some (.lst []):=upd_same
 have e3:upd (upd (upd H q1 (.lst [])) q2 (.lst [])) q3 (.lst []) q3=some (.lst []):=upd_same
 have f1:=S4 _ _ (S3 _ _ (S2 _ _ e1))
 have f2:=S4 _ _ (S3 _ _ e2)
 have f3:=S4 _ _ e3
 have n12:q1≠q2:=fun z=>by rw[← z,e1]at h2;cases h2
 have n13:q1≠q3:=fun z=>by rw[← z,S2 _ _ e1]at h3;cases h3
 have n23:q2≠q3:=fun z=>by rw[← z,e2]at h3;cases h3
 have g2:H q2=none:=by rw[upd_ne (Ne.symm n12)]at h2;exact h2
 have g3:H q3=none:=by rw[upd_ne (Ne.symm n23),upd_ne (Ne.symm n13)]at h3;exact h3
 refine⟨⟨upd_same,by simp[n12,n13,n23],rfl,fun n q us a b=>?_,fun q m=>?_,fun us m=>?_⟩,((S1.trans S2).trans S3).trans S4⟩
 ·match n,a,b with
  | 0,a,b=>cases a;cases b;exact⟨[],f1,reps_nil.mpr rfl⟩
  | 1,a,b=>cases a;cases b;exact⟨[],f2,reps_nil.mpr rfl⟩
  | 2,a,b=>cases a;cases b;exact⟨[],f3,reps_nil.mpr rfl⟩
  | n + 3,a,b=>simp at a
 ·simp only[List.mem_cons,List.not_mem_nil,or_false]at m
  rcases m with rfl|rfl|rfl
  ·exact S0.free h1
  ·exact S0.free g2
  ·exact S0.free g3
 ·simp only[List.mem_cons,List.not_mem_nil,or_false]at m
  rcases m with rfl|rfl|rfl<;>rfl
theorem read_core{tr:TE}{wi:WI}{wr wx we:WE}{u1 u2:WT}{r1 r2:WS}{iy jn jr ir:Nat}{y n r z:Str}{iter er c1 ex ee c2:Expr}{st1 st2:Stmt}{k0 k1}{p1 p2 p3 q1 q2 q3 a1 a2 a3 a4 b1 b2 b3 b4 d1 d3 d4 d6 d7 e1 e2:Pos}(hne:iy≠jn/\iy≠jr/\iy≠ir)(hp:PassesOwn (model X.prog X.w) X.A X.env X.xe)(hc:X.calm=true)
  (hN:X.N.Nodup) (hy:X.N[iy]?=some y) (ly:Loc X.env.scope y) (hn:X.N[jn]?=some n) (ln:Loc X.env.scope n) (hr:X.N[jr]?=some r) (lr:Loc X.env.scope r) (hz:X.N[ir]?=some z) (lz:Loc X.env.scope z)
  (hit:JI X (.Tuple [.Name n a1,.Name r a2] k1 a3) iter wi) (hrd:JE X er wr) (hc1:JT X c1 u1) (hr1:JS X st1 r1) (hx:JE X ex wx) (he:JE X ee we) (hc2:JT X c2 u2) (hr2:JS X st2 r2)
  (v1:PE X (.Name y d1) (tVar iy)) (v2:PE X (.Name y e1) tr)
  (fy:X.fn y=true∨X.env.scope.names.lookup y=some .local:=by first|exact .inl rfl|exact .inr rfl|assumption) (fn:X.fn n=true∨X.env.scope.names.lookup n=some .local:=by first|exact .inl rfl|exact .inr rfl|assumption)
  (fr:X.fn r=true∨X.env.scope.names.lookup r=some .local:=by first|exact .inl rfl|exact .inr rfl|assumption) (fz:X.fn z=true∨X.env.scope.names.lookup z=some .local:=by first|exact .inl rfl|exact .inr rfl|assumption)
  (s1:swapsWith (.Tuple [.List [] q1,.List [] q2,.List [] q3] k0 p2) (some (.Name y p1)) p3.line X.env=pure false:=by rfl) (s2:swapsWith er (some (.Name z b1)) b2.line X.env=pure false:=by rfl)
  (t1:starEach [.List [] q1,.List [] q2,.List [] q3] X.env=(false,eval (.List [] q1) X.env)::starEach [.List [] q2,.List [] q3] X.env:=by rfl) (t2:starEach [.List [] q2,.List [] q3] X.env=(false,eval (.List [] q2) X.env)::starEach [.List [] q3] X.env:=by rfl) (t3:starEach [.List [] q3] X.env=(false,eval (.List [] q3) X.env)::starEach [] X.env:=by rfl)
  (f1:∀z,foldedSetIterable iter X.env z=pure z:=by intro _;rfl)
  (g1:(assignEach [.Name r a2] X.env).map (·.2)=assign (.Name r a2) X.env::(assignEach [] X.env).map (·.2):=by rfl)
  (g2:(assignEach [.Name n a1,.Name r a2] X.env).map (·.2)=assign (.Name n a1) X.env::(assignEach [.Name r a2] X.env).map (·.2):=by rfl)
  (g3:(assignEach [.Name n a1,.Name r a2] X.env).length=2:=by rfl) (g4:(assignEach [.Name n a1,.Name r a2] X.env).findIdx? (·.1)=none:=by rfl)
  (s3:swapsWith (.Call (.Attribute (.Subscript (.Name y d1) ex d3) "append" d4) [ee] [] d6) none d7.line X.env=pure false:=by rfl)
  (hbase:attributeBase (.Subscript (.Name y d1) ex d3) "append" X.env (eval (.Subscript (.Name y d1) ex d3) X.env)=eval (.Subscript (.Name y d1) ex d3) X.env:=by rfl)
  (hfew:((backTo d6 (starEach [ee] X.env)).all (fun x=>!x.1)&&(backToKw d6 (keywordEach [] X.env)).all (fun x=>x.1.isSome)
   && decide ([ee].length + ([]:List Keyword).length + (if ([]:List Keyword).isEmpty then 0 else 1) < 30))=true:=by rfl)
  (hline:(d4.endLine==d6.line)=true:=by rfl) (hst:starEach [ee] X.env=(false,eval ee X.env)::starEach [] X.env:=by rfl) (hplain:(backTo d6 (starEach [] X.env)).any (·.1)=false:=by rfl) (nsl:PlainIx ex:=by intro _ _;rfl) :
  PSs X [.Assign [.Name y p1] (.Tuple [.List [] q1,.List [] q2,.List [] q3] k0 p2) p3,.For (.Tuple [.Name n a1,.Name r a2] k1 a3) iter [.Assign [.Name z b1] er b2,.If c1 [st1] [] b3,
   .Expr (.Call (.Attribute (.Subscript (.Name y d1) ex d3) "append" d4) [ee] [] d6) d7,.If c2 [st2] [] b4] [] a4,.Return (some (.Name y e1)) e2] (fun D σ H=>∃(τ:List Slot) (D0:DT),RepSt X.K X.H₀ H σ τ/\sRd iy jn jr ir wi wr u1 r1 wx we u2 r2 D0 τ/\∀p qs ls σ' H',Same X.H₀ H'->σ'[iy]?=some (some (.ref p))->Rd3 X.K X.H₀ H' p qs ls->D0.rt (.tup (ls.map T.lst))->tr σ' H' D.rt):=by
 obtain⟨n1,n2,n3⟩:=hne
 refine pss_of (pss_cons (ps_set hN hy ly (pe_tup (pa_cons (pe_lst pa_nil) (pa_cons (pe_lst pa_nil) (pa_cons (pe_lst pa_nil) pa_nil t3) t2) t1)) s1 fy) (pss_cons (ps_for hp hc hit (pg_tup hc (pgs_cons (pg_name hN hn ln fn) (pgs_cons (pg_name hN hr lr fr) pgs_nil g1) g2) g3 g4)
  (pss_cons (ps_set hN hz lz hrd s2 fz) (pss_cons (ps_if (pt_rd (iy:=iy) hc1) (pss_one hr1) pss_nil) (pss_cons (ps_expr (pe_bm PySem.F.plainAttrs_list PySem.F.slot_list_append PySem.F.type_list_append mt_append (pe_ix ix_tup v1 hx nsl) (pa_cons he pa_nil hst) hbase hfew hline hst hplain) s3) (pss_one (ps_if (pt_rd (iy:=iy) hc2) (pss_one hr2) pss_nil))))) f1) (pss_one (ps_ret v2)))) fun D σ H ⟨τ,D0,R,hw,kr⟩=>?_
 obtain⟨⟨hyT,hnT,hrT,hzT,hlone⟩,hw⟩:=hw
 refine⟨Nat.zero_le _,fun x1 h1=>⟨Nat.zero_le _,fun x2 h2=>⟨Nat.zero_le _,fun x3 h3=>⟨show 3<=sizeLine by decide +kernel,fun p h4=>?_⟩⟩⟩⟩
 obtain⟨D1,S1⟩:=rd3_new (K:=X.K) R.same h1 h2 h3 h4
 generalize upd (upd (upd (upd H x1 (.lst [])) x2 (.lst [])) x3 (.lst [])) p (.tup [.ref x1,.ref x2,.ref x3])=Ha at D1 S1 ⊢
 have hlen:τ.length=σ.length:=R.len
 have hiN:iy < σ.length:=by omega
 have n0:∀q∈[x1,x2,x3],X.H₀ q=none:=D1.new
 refine⟨sput τ iy .no,_,(R.mono S1).hide,hw,fun ts J H1 S2 wk q=>?_⟩
 refine⟨fun k m σ' H'=>m=ts.length - k/\k<=ts.length/\∃τ' ls,τ'.length=τ.length/\RepSt X.K X.H₀ H' σ' τ'/\(∀j,lone1 (sget τ' j)=true)/\Kp H1 H'/\σ'[iy]?=some (some (.ref p))/\Rd3 X.K X.H₀ H' p [x1,x2,x3] ls/\rdT iy jn jr ir wr u1 r1 wx we u2 r2 (ts.drop k) ls (fun us=>D0.rt (.tup us)) τ',⟨ts.length,by simp,Nat.zero_le _,_,[[],[],[]],length_sput _ _ _,((R.mono S1).hide).mono S2,lone_hide hlone,.refl H1,List.getElem?_set_self hiN,D1.mono S2,by rw[List.drop_zero];exact q⟩,?_⟩
 rintro k m σ2 H2 ⟨rfl,hk,τ2,ls,l2,R2,o2,K2,e2,L2,q2⟩
 obtain⟨wi',ws'⟩:=wk H2 K2
 by_cases hlt:k < ts.length
 ·refine .inr ?_
  have ei:ts[k]?=some ts[k]:=List.getElem?_eq_getElem hlt
  obtain⟨go,yl⟩:=wi' k _ ei
  rw[List.drop_eq_getElem_cons hlt]at q2
  refine⟨go,fun σ' H'=>∃τ' ls,τ'.length=τ.length/\RepSt X.K X.H₀ H' σ' τ'/\(∀j,lone1 (sget τ' j)=true)/\Kp H1 H'/\σ'[iy]?=some (some (.ref p))/\Rd3 X.K X.H₀ H' p [x1,x2,x3] ls/\rdT iy jn jr ir wr u1 r1 wx we u2 r2 (ts.drop (k + 1)) ls (fun us=>D0.rt (.tup us)) τ',fun σ' H' ⟨τ',ls',a1,a2,a3,a4,a5,a6,a7⟩=>⟨ts.length - (k + 1),by omega,rfl,hlt,τ',ls',a1,a2,a3,a4,a5,a6,a7⟩,fun z H3 yy=>?_⟩
  obtain⟨S3,r3⟩:=yl z H3 yy
  simp only[rdT]at q2
  generalize ts[k]=t at q2 r3
  split at q2
  ·rename_i nv row
   rw[rep_tup]at r3
   obtain⟨pt,vs,rfl,sq,rr⟩:=r3
   rw[reps_cons]at rr
   obtain⟨w1,r',rfl,rw1,rr⟩:=rr
   rw[reps_cons]at rr
   obtain⟨w2,r',rfl,rw2,rr⟩:=rr
   rw[reps_nil]at rr
   subst rr
   have R3:=(((R2.mono S3).put (i:=jn) rw1).put (i:=jr) rw2)
   have o3:=lone_sput (i:=jr) (t:=row) (lone_sput (i:=jn) (t:=nv) o2)
   have L3:=L2.mono S3
   have K3:=K2.trans (.of S3)
   have ed:((σ2.set jn (some w1)).set jr (some w2))[iy]?=some (some (.ref p)):=by
    rw[List.getElem?_set_ne (Ne.symm n2),List.getElem?_set_ne (Ne.symm n1)]
    exact e2
   have l3:(sput (sput τ2 jn (.val nv)) jr (.val row)).length=τ.length:=by rw[length_sput,length_sput];exact l2
   generalize sput (sput τ2 jn (.val nv)) jr (.val row)=τ3 at q2 R3 o3 l3
   refine⟨pt,[w1,w2],rfl,sq,rfl,w1,[w2],rfl,w2,[],rfl,rfl,?_⟩
   generalize ((σ2.set jn (some w1)).set jr (some w2))=σ3 at ed R3 ⊢
   refine⟨τ3,_,R3,q2,fun rd v5 H5 S5 r5 q5=>?_⟩
   have R5:=(R3.mono S5).put (i:=ir) r5
   have o5:=lone_sput (i:=ir) (t:=rd) o3
   have L5:=L3.mono S5
   have K5:=K3.trans (.of S5)
   have e5:(σ3.set ir (some v5))[iy]?=some (some (.ref p)):=by rw[List.getElem?_set_ne (Ne.symm n3)];exact ed
   have l5:(sput τ3 ir (.val rd)).length=τ.length:=by rw[length_sput];exact l3
   generalize sput τ3 ir (.val rd)=τ5 at q5 R5 o5 l5
   refine⟨τ5,_,p,[x1,x2,x3],ls,R5,o5,e5,L5,q5,fun b H6 S6 q6=>?_⟩
   have R6:=R5.mono S6
   have L6:=L5.mono S6
   have K6:=K5.trans (.of S6)
   cases b with
   | true =>
    show ite _ _ _
    rw[if_pos rfl]
    exact⟨τ5,DF,R6,q6.1 rfl,fun _ _ _ _ _ z=>z.elim,fun _ _ _ _ _ z=>z.elim,fun _ _ _ _ _ z=>z.elim,fun _ _ _ _ _ z=>z.elim⟩
   | false =>
    show ite _ _ _
    rw[if_neg (by decide)]
    refine⟨.ref p,e5,τ5,_,R6,q6.2 rfl,fun ix vx H7 S7 r7 q7=>?_⟩
    obtain⟨mm,us,rfl,eu,lus,q7⟩:=q7
    have ez:=rep_int.mp r7
    subst ez
    have L7:=L6.mono S7
    obtain⟨q,ws,eq1,hq,rq⟩:=L7.at_q eu
    have eat:atI ([x1,x2,x3].map V.ref) (mm:Int)=some (.ref q):=atI_nat (by rw[List.getElem?_map,eq1];rfl)
    refine⟨p,_,(mm:Int),.ref q,rfl,rfl,SqT.of L7.tup,eat,.inl ⟨rfl,ws,SqL.of hq⟩,τ5,_,R6.mono S7,q7,fun el ve H8 S8 r8 q8=>?_⟩
    obtain⟨ne,q8⟩:=q8
    have L8:=L7.mono S8
    have hq8:=S8 _ _ hq
    have rq8:=rq.kp (.of S8)
    have lws:ws.length=us.length:=rq.length
    refine⟨q,ws,ve,rfl,rfl,hq8,by rw[lws];exact small1000 (Nat.le_of_lt lus),?_⟩
    have R8:=(R6.mono (S7.trans S8)).raw (ws':=ws++[ve]) o5 hq8 (n0 q (List.mem_of_getElem? eq1))
    have L9:=L8.app eq1 eu hq8 rq8 r8 ne
    have K8:=(K6.trans (.of (S7.trans S8))).trans (Kp.write hq8 (.lst (ws++[ve])))
    generalize upd H8 q (.lst (ws++[ve]))=H9 at R8 L9 K8 ⊢
    refine⟨τ5,_,p,[x1,x2,x3],_,R8,o5,e5,L9,q8,fun b HA SA qA=>?_⟩
    cases b with
    | true =>
     show ite _ _ _
     rw[if_pos rfl]
     exact⟨τ5,DF,R8.mono SA,qA.1 rfl,fun _ _ _ _ _ z=>z.elim,fun _ _ _ _ _ z=>z.elim,fun _ _ _ _ _ z=>z.elim,fun _ _ _ _ _ z=>z.elim⟩
    | false =>
     show ite _ _ _
     rw[if_neg (by decide)]
     exact⟨τ5,_,l5,R8.mono SA,o5,K8.trans (.of SA),e5,L9.mono SA,qA.2 rfl⟩
  ·exact q2.elim
 ·have e:k=ts.length:=by omega
  subst e
  rw[List.drop_length]at q2
  refine .inl ⟨ws',kr p [x1,x2,x3] ls _ _ R2.same e2 L2 q2⟩
theorem jreadX{wi:WI}{wr wx we:WE}{u1 u2:WT}{r1 r2:WS}{iy jn jr ir:Nat}{y n r z:Str}{iter er c1 ex ee c2:Expr}{st1 st2:Stmt}{k0 k1}{p1 p2 p3 q1 q2 q3 a1 a2 a3 a4 b1 b2 b3 b4 d1 d3 d4 d6 d7 e1 e2:Pos}(hne:iy≠jn/\iy≠jr/\iy≠ir)(hp:PassesOwn (model X.prog X.w) X.A X.env X.xe)(hc:X.calm=true)
  (hN:X.N.Nodup) (hy:X.N[iy]?=some y) (ly:Loc X.env.scope y) (hn:X.N[jn]?=some n) (ln:Loc X.env.scope n) (hr:X.N[jr]?=some r) (lr:Loc X.env.scope r) (hz:X.N[ir]?=some z) (lz:Loc X.env.scope z)
  (hit:JI X (.Tuple [.Name n a1,.Name r a2] k1 a3) iter wi) (hrd:JE X er wr) (hc1:JT X c1 u1) (hr1:JS X st1 r1) (hx:JE X ex wx) (he:JE X ee we) (hc2:JT X c2 u2) (hr2:JS X st2 r2)
  (v1:PE X (.Name y d1) (tVar iy)) (v2:PE X (.Name y e1) (tVar iy))
  (fy:X.fn y=true∨X.env.scope.names.lookup y=some .local:=by first|exact .inl rfl|exact .inr rfl|assumption) (fn:X.fn n=true∨X.env.scope.names.lookup n=some .local:=by first|exact .inl rfl|exact .inr rfl|assumption)
  (fr:X.fn r=true∨X.env.scope.names.lookup r=some .local:=by first|exact .inl rfl|exact .inr rfl|assumption) (fz:X.fn z=true∨X.env.scope.names.lookup z=some .local:=by first|exact .inl rfl|exact .inr rfl|assumption)
  (s1:swapsWith (.Tuple [.List [] q1,.List [] q2,.List [] q3] k0 p2) (some (.Name y p1)) p3.line X.env=pure false:=by rfl) (s2:swapsWith er (some (.Name z b1)) b2.line X.env=pure false:=by rfl)
  (t1:starEach [.List [] q1,.List [] q2,.List [] q3] X.env=(false,eval (.List [] q1) X.env)::starEach [.List [] q2,.List [] q3] X.env:=by rfl) (t2:starEach [.List [] q2,.List [] q3] X.env=(false,eval (.List [] q2) X.env)::starEach [.List [] q3] X.env:=by rfl) (t3:starEach [.List [] q3] X.env=(false,eval (.List [] q3) X.env)::starEach [] X.env:=by rfl)
  (f1:∀z,foldedSetIterable iter X.env z=pure z:=by intro _;rfl)
  (g1:(assignEach [.Name r a2] X.env).map (·.2)=assign (.Name r a2) X.env::(assignEach [] X.env).map (·.2):=by rfl)
  (g2:(assignEach [.Name n a1,.Name r a2] X.env).map (·.2)=assign (.Name n a1) X.env::(assignEach [.Name r a2] X.env).map (·.2):=by rfl)
  (g3:(assignEach [.Name n a1,.Name r a2] X.env).length=2:=by rfl) (g4:(assignEach [.Name n a1,.Name r a2] X.env).findIdx? (·.1)=none:=by rfl)
  (s3:swapsWith (.Call (.Attribute (.Subscript (.Name y d1) ex d3) "append" d4) [ee] [] d6) none d7.line X.env=pure false:=by rfl)
  (hbase:attributeBase (.Subscript (.Name y d1) ex d3) "append" X.env (eval (.Subscript (.Name y d1) ex d3) X.env)=eval (.Subscript (.Name y d1) ex d3) X.env:=by rfl)
  (hfew:((backTo d6 (starEach [ee] X.env)).all (fun x=>!x.1)&&(backToKw d6 (keywordEach [] X.env)).all (fun x=>x.1.isSome)
   && decide ([ee].length + ([]:List Keyword).length + (if ([]:List Keyword).isEmpty then 0 else 1) < 30))=true:=by rfl)
  (hline:(d4.endLine==d6.line)=true:=by rfl) (hst:starEach [ee] X.env=(false,eval ee X.env)::starEach [] X.env:=by rfl) (hplain:(backTo d6 (starEach [] X.env)).any (·.1)=false:=by rfl) (nsl:PlainIx ex:=by intro _ _;rfl) :
  JSs X [.Assign [.Name y p1] (.Tuple [.List [] q1,.List [] q2,.List [] q3] k0 p2) p3,.For (.Tuple [.Name n a1,.Name r a2] k1 a3) iter [.Assign [.Name z b1] er b2,.If c1 [st1] [] b3,
   .Expr (.Call (.Attribute (.Subscript (.Name y d1) ex d3) "append" d4) [ee] [] d6) d7,.If c2 [st2] [] b4] [] a4,.Return (some (.Name y e1)) e2] (sRd iy jn jr ir wi wr u1 r1 wx we u2 r2):=by
 refine pss_of (read_core hne hp hc hN hy ly hn ln hr lr hz lz hit hrd hc1 hr1 hx he hc2 hr2 v1 (pe_rd v2) fy fn fr fz s1 s2 t1 t2 t3 f1 g1 g2 g3 g4 s3 hbase hfew hline hst hplain nsl) fun D σ H ⟨τ,D0,R,hw,_,kr,_,_⟩=>⟨τ,D0,R,hw,fun p qs ls σ' H' S e L q=>?_⟩
 exact⟨p,qs,ls,e,L,S,fun Hf Sf rf=>kr _ _ Hf Sf rf q⟩
end
section
open Builtin Builtin.Tuple
theorem wpAny_forIn_rng{M:Model}{A:Around}{E:Value->Shared->Prop}{s:Shared}{β:Type}(f:Nat->β->Sem (ForInStep β))(I:List Nat->β->Shared->Prop)(Q:β->Shared->Prop)
  (turn:∀x rest b s,I (x::rest) b s->wpAny M A (f x b) (fun r s'=>match r with | .yield b'=>I rest b' s' | .done b'=>Q b' s') E s)
  (fin:∀b s,I [] b s->Q b s) (n:Nat) (b:β) (h:I (List.range' 0 n) b s):wpAny M A (forIn [0:n] b f) Q E s:=by
 rw[Std.Legacy.Range.forIn_eq_forIn_range']
 simp only[Std.Legacy.Range.size,Nat.sub_zero,Nat.add_sub_cancel,Nat.div_one]
 exact wpAny_forIn_list f I Q turn fin _ b h
theorem tuple_indexAt(l:Addr)(items:Array Value)(n:Nat)(dd:Option Addr)(sl:Array (Option Value))(x:Value)(e:Value->Bool)(j:Nat)(hj:j < items.size)
  (hit:e items[j]=true) (hno:∀m (hm:m < items.size),m < j->e items[m]=false) :
  Meets (Builtin.«tuple.index» ⟨[.ref l,x],[]⟩)
   (fun A R s=>s.heap.get? l=some {cls:=.type "tuple", dict:=dd,data:=.seq items n,slots:=sl}/\(∀y,y∈items->SeqAt.EqAt A.in1 s y x (e y))/\R (.ok (.ret (.int j s.toks))) {s with toks:=s.toks + 1}) :=
 .of_wp fun prog w A R s h=>by
  obtain⟨hp,g,d,tk,os⟩:=s;obtain⟨hl,he,h⟩:=h
  wp_walk using wpAny_loadPart' hl,wpAny_forIn_rng _ (fun rest b s'=>b.1=none/\s'=⟨hp,g,d,tk,os⟩/\∃k,k<=j/\rest=List.range' k (items.size - k)) _
  case turn =>
   rintro m rest b s' ⟨hb,rfl,k,hk,hr⟩
   have hks:k < items.size:=by omega
   have e1:items.size - k=(items.size - (k + 1)) + 1:=by omega
   rw[e1,List.range'_succ]at hr
   injection hr with h1 h2
   subst h1
   have hi:items[m]?=some items[m]:=by simp[hks]
   rw[hi]
   refine wpAny_bind (he _ (Array.getElem_mem hks) prog w _ _ ?_)
   by_cases hm:m=j
   ·subst hm
    rw[hit]
    wp_walk
    exact⟨_,rfl,h⟩
   ·rw[hno m hks (by omega)]
    wp_walk
    exact⟨rfl,rfl,m + 1,by omega,h2⟩
  case fin =>
   rintro b s' ⟨hb,rfl,k,hk,hr⟩
   have:=congrArg List.length hr
   simp at this
   omega
  case h =>
   exact⟨rfl,rfl,0,Nat.zero_le _,by simp⟩
end
section
variable {X:Cx} {e b c a:Expr} {es:List Expr} {wa wb w:WE} {ws:WA} {pos:Pos}
theorem mt_indexT:MtR X "tuple.index" (fun x vs H Q=>∃(p:Addr) (ys:List V) (y:V) (j:Nat),x=.ref p/\vs=[y]/\SqT X.K H p ys/\flatV y=true/\ys.all flatV=true/\j < ys.length ∧
  (∀z,ys[j]?=some z->eqV z y=true)/\(∀(m:Nat) z,m < j->ys[m]?=some z->eqV z y=false)/\Q (.int (j:Int)) H):=by
 intro pins s σ H x vs v us Q I rx rv h
 obtain⟨p,ys,y,j,rfl,rfl,hq,fy,fs,hj,hit,hno,q⟩:=h
 cases rx
 obtain⟨u,rfl,ru⟩:=vals1 rv
 obtain⟨its,r,pl,hz⟩:=I.tuple hq
 have hlen:=r.length
 obtain⟨⟨cls,dd,data,sl⟩,ho,hc,n,hd⟩:=id pl
 simp only at hc hd
 subst hc hd
 have at':∀(m:Nat)(hm:m < its.toArray.size),∃z,ys[m]?=some z/\eqU y its.toArray[m]=eqV z y:=fun m hm=>by
  have hm':m < its.length:=by simpa using hm
  obtain⟨z,e1,rz⟩:=vals_at r (List.getElem?_eq_getElem hm')
  have fz:flatV z=true:=List.all_eq_true.mp fs z (List.mem_of_getElem? e1)
  exact⟨z,e1,by rw[List.getElem_toArray];exact eqU_of rz fz⟩
 have hj':j < its.toArray.size:=by simpa [← hlen] using hj
 refine call_meets PySem.F.slot_tuple_index ⟨_,ho,rfl⟩ PySem.F.entry_tuple_index (PySem.F.args_tuple_index_2 _ _)
  (tuple_indexAt p its.toArray n dd sl u (eqU y) j hj' ?_ ?_) ⟨ho,fun w hw=>mem_eqAt ru fy r fs w (by simpa using hw),⟨.int j,H,I.tok _,⟨_,rfl⟩,q⟩⟩
 ·obtain⟨z,e1,e2⟩:=at' j hj'
  rw[e2]
  exact hit z e1
 ·intro m hm hlt
  obtain⟨z,e1,e2⟩:=at' m hm
  rw[e2]
  exact hno m z hlt e1
def rIdxTT(ts us:List T)(Q:T->Prop):Prop:=match us with
 | [.str k]=>(match strsOf ts with|some ns=>k∈ns/\Q (.int (ns.idxOf k:Nat))|none=>False)
 | _=>False
def wIdxT(ts:List T)(ws:WA):WE:=fun τ Q=>ws τ fun us=>rIdxTT ts us Q
def GlT(K:PySem.W.Frag)(mg:Str->Option Value)(x:Str)(ts:List T):Prop:=∃p o,mg x=some (.ref p)/\K.lookup p=some o/\o.cls=.type "tuple" /\ o.dict=none/\∀H,Rep K H (.tup ts) (.ref p)
theorem GlT.glC{K:PySem.W.Frag}{mg:Str->Option Value}{x:Str}{ts:List T}(h:GlT K mg x ts):GlC K mg x (.tup ts):=let ⟨_,_,hm,_,_,_,r⟩:=h;⟨_,hm,.ref _,rfl,r⟩
theorem jindexT{apos p0:Pos}{x:Str}{ts:List T}(g:GlT X.K X.mg x ts)(hg:Gl X x)(hb:JA X [b] ws) (hd:(x==("__debug__" : Str))=false:=by decide) (hst:starEach [b] X.env=[(false,eval b X.env)]:=by exact star1 rfl) (hbase:attributeBase (.Name x p0) "index" X.env (eval (.Name x p0) X.env)=eval (.Name x p0) X.env:=by rfl)
  (hfew:((backTo pos (starEach [b] X.env)).all (fun x=>!x.1)&&(backToKw pos (keywordEach [] X.env)).all (fun x=>x.1.isSome)
   && decide ([b].length + ([]:List Keyword).length + (if ([]:List Keyword).isEmpty then 0 else 1) < 30))=true:=by rfl)
  (hline:(apos.endLine==pos.line)=true:=by rfl):JE X (.Call (.Attribute (.Name x p0) "index" apos) [b] [] pos) (wIdxT ts ws):=by
 obtain⟨p,o,hm,ho,hc,hdn,rp⟩:=g
 refine pe_of (pe_bm PySem.F.plainAttrs_tuple PySem.F.slot_tuple_index PySem.F.type_tuple_index mt_indexT (pe_glob (v:=.ref p) hg hm rfl hd) hb hbase hfew hline hst (stars rfl)) fun σ H Q ⟨τ,Q0,R,hw,k⟩=>?_
 refine⟨.inr (.inl ⟨rfl,o,ho,hc,hdn⟩),τ,fun us=>rIdxTT ts us Q0,R,hw,fun us ws' H2 S2 rs q2=>?_⟩
 obtain⟨y,rfl,q2'⟩:=one_str (P:=fun y=>(match strsOf ts with|some ns=>y∈ns/\Q0 (.int (ns.idxOf y:Nat))|none=>False)) q2
 obtain⟨v,rfl,r2⟩:=reps1 rs
 obtain⟨p',vs,e',sq,rr⟩:=rep_tup.mp (rp H2)
 cases e'
 cases ez:strsOf ts with
 | none=>rw[ez]at q2';exact q2'.elim
 | some ns =>
  rw[ez]at q2'
  rw[strsOf_eq ez]at rr
  have ew:=reps_strs_inv rr
  subst ew
  obtain⟨h1,h2,h3⟩:=idx_props (f:=V.str) (fun a b=>by show (a==b)=_;exact Bool.eq_iff_iff.mpr (by simp)) q2'.1
  exact⟨p,ns.map V.str,.str y,ns.idxOf y,rfl,by rw[rep_str.mp r2],sq,rfl,flat_strs ns,h1,h2,h3,k _ _ H2 S2 (rep_int.mpr rfl) q2'.2⟩
def cNotInTT(x y:T)(Q:Bool->Prop):Prop:=match x,y with
 | .str z,.tup ts=>(match strsOf ts with|some zs=>Q (!zs.contains z)|none=>False)
 | _,_=>False
theorem c_notinT:CRT X .NotIn cNotInTT:=by
 refine⟨_,op_notIn_seq,fun t1 t2 v1 v2 H Q0 Q r1 r2 q k=>?_⟩
 cases t1<;>cases t2<;>first|exact q.elim|skip
 rename_i z ts
 have q':(match strsOf ts with|some zs=>Q0 (!zs.contains z)|none=>False):=q
 cases e:strsOf ts with
 | none=>rw[e]at q';exact q'.elim
 | some zs =>
  rw[e]at q'
  rw[strsOf_eq e,rep_tup]at r2
  obtain⟨p,vs,rfl,sq,rr⟩:=r2
  have ev:=reps_strs_inv rr
  subst ev
  have ez:=rep_str.mp r1
  subst ez
  refine⟨p,_,rfl,.inr sq,rfl,flat_strs zs,?_⟩
  rw[inV_strs]
  exact k _ q'
end
section
variable {prog:Program} {w:World} {A:Around} {R:Result->Shared->Prop}
def ListsAt(h:Heap)(I:Addr)(items:Array Value)(f:Nat->Bool):Prop:=∀j v,items[j]?=some v->∃q its,v=.ref q/\q≠I/\h.IsList q its/\(its.size:Int) < 2 ^ 63/\f j=!its.isEmpty
theorem ListsAt.on{h h':Heap}{I:Addr}{items:Array Value}{f:Nat->Bool}(L:ListsAt h I items f)(k:∀b o,b≠I->h.get? b=some o->h'.get? b=some o):ListsAt h' I items f:=fun j v e=>by
 obtain⟨q,its,e1,n,⟨o,ho,r⟩,z,f1⟩:=L j v e
 exact⟨q,its,e1,n,⟨o,k q o n ho,r⟩,z,f1⟩
theorem any_lists{I p:Addr}{items:Array Value}{f:Nat->Bool}(hne:p≠I)(hh:A.in1.handled=none):∀(k i:Nat)(s:Shared),i + k=items.size->s.heap.IsTupleIter I p i->s.heap.IsTuple p items->ListsAt s.heap I items f →
  (∀h' tk,(∀b o,b≠I->s.heap.get? b=some o->h'.get? b=some o)->R (.ok (.ret (.bool (((List.range items.size).drop i).any f)))) {s with heap:=h',toks:=tk}) →
  codeAny (model prog w) A (.builtin "any.loop" ⟨[.ref I],[]⟩) R s
 | 0,i,s,hk,it,tu,L,hR=>by
  have W:=Walks.tuple (prog:=prog) (w:=w) hh I p hne items
  refine codeAny_builtin PySem.F.entry_any_loop ?_
  rw[Around.under_plainId PySem.F.plain_any_loop _]
  have hi:i=items.size:=by omega
  subst hi
  refine wpAny_bind (m:=pyNext (.ref I)) (W.done s _ _ ⟨it,tu⟩ fun h' tk kp=>wpAny_bind (wpAny_rule (wpAny_pure ?_)))
  have:=hR h' tk fun b o hb e=>kp b o (by simpa using hb) e
  rw[List.drop_of_length_le (by simp)]at this
  exact this
 | k + 1,i,s,hk,it,tu,L,hR=>by
  have W:=Walks.tuple (prog:=prog) (w:=w) hh I p hne items
  have hlt:i < items.size:=by omega
  have hd:(List.range items.size).drop i=i::(List.range items.size).drop (i + 1):=by
   rw[List.drop_eq_getElem_cons (by simpa using hlt),List.getElem_range]
  refine codeAny_builtin PySem.F.entry_any_loop ?_
  rw[Around.under_plainId PySem.F.plain_any_loop _]
  refine wpAny_bind (m:=pyNext (.ref I)) (W.item i s _ _ hlt ⟨it,tu⟩ fun v h' tk hv st kp=>?_)
  have kp':∀b o,b≠I->s.heap.get? b=some o->h'.get? b=some o:=fun b o hb e=>kp b o (by simpa using hb) e
  have L':=L.on kp'
  obtain⟨q,its,rfl,nq,hl,z,ef⟩:=L' i v hv
  refine wpAny_bind (wpAny_holding (wpAny_truthy_list hl z (wpAny_bind (wpAny_letGo ?_))))
  rw[← ef]
  cases hb:f i with
  | false =>
   simp only[Bool.false_eq_true,if_false]
   refine wpAny_pure ⟨plainId_quiet PySem.F.plain_any_loop _,any_lists hne hh k (i + 1) _ (by omega) st.1 st.2 L' fun h'' tk'' k2=>?_⟩
   have:=hR h'' tk'' fun b o hbw e=>k2 b o hbw (kp' b o hbw e)
   rw[hd,List.any_cons,hb,Bool.false_or]at this
   exact this
  | true =>
   simp only[if_true]
   refine wpAny_bind (wpAny_rule (wpAny_pure ?_))
   have:=hR h' (tk + 1 + 1) kp'
   rw[hd,List.any_cons,hb,Bool.true_or]at this
   exact this
end
section
variable {X:Cx}
theorem call_anyT(hc:X.calm=true):CallR X (.builtin "any") (fun xs H Q=>∃(p:Addr) (qs:List Addr) (ls:List (List V)),xs=[.ref p]/\SqT X.K H p (qs.map V.ref)/\qs.length=ls.length/\(∀(j:Nat) q l,qs[j]?=some q->ls[j]?=some l->SqL X.K H q l)/\Q (.bl (ls.any fun l=>!l.isEmpty)) H):=by
 intro pins s σ H xs us Q I r h
 obtain⟨p,qs,ls,rfl,hq,hle,hls,q⟩:=h
 obtain⟨u,rfl,rx⟩:=vals1 r
 cases rx
 obtain⟨its,r',pl,hz⟩:=I.tuple hq
 have hl:s.heap.IsTuple p its.toArray:=pl
 have hlt:p < s.heap.objs.size:=by obtain⟨_,e,_⟩:=hl;exact Heap.lt_size e
 have rlen:=r'.length
 rw[List.length_map]at rlen
 refine call_function_tree PySem.F.kind_any PySem.F.plain_any PySem.F.entry_any (PySem.F.args_any1 _) ?_
 unfold Builtin.«any»
 refine wpAny_bind (m:=oneArg "any" _) (wpAny_pure (wpAny_bind (wpAny_pyIter_tuple hl (wpAny_pure ⟨plainId_quiet PySem.F.plain_any_loop _,?_⟩))))
 refine any_lists (p:=p) (f:=fun j=>(ls[j]?.map fun l=>!l.isEmpty).getD false) (Nat.ne_of_lt hlt) (I.ok.hd hc) its.toArray.size 0 _ (by omega) ⟨_,Heap.get?_push_size _ rfl,rfl,rfl⟩ (hl.push _) (fun j v e=>?_) fun h' tk kp=>?_
 ·have ev:its[j]?=some v:=by simpa using e
  obtain⟨x,ex,rv⟩:=vals_at r' ev
  rw[List.getElem?_map]at ex
  cases eq:qs[j]? with
  | none=>rw[eq]at ex;cases ex
  | some q =>
   rw[eq]at ex
   cases ex
   cases rv
   have hj:j < ls.length:=by rw[← hle];exact(List.getElem?_eq_some_iff.mp eq).1
   have el:ls[j]?=some ls[j]:=List.getElem?_eq_getElem hj
   obtain⟨it2,r2,pl2,z2⟩:=I.list (hls j q _ eq el)
   have hl2:=pl2.isList
   have hq2:q < s.heap.objs.size:=by obtain⟨_,e,_⟩:=hl2;exact Heap.lt_size e
   refine⟨q,it2.toArray,rfl,Nat.ne_of_lt hq2,hl2.push _,?_,?_⟩
   ·have:=r2.length
    have:=line63
    simp only[List.size_toArray]
    omega
   ·show (Option.map (fun l:List V=>!l.isEmpty) ls[j]?).getD false=_
    rw[el]
    have:=r2.length
    show (!(ls[j]).isEmpty)=!(it2.toArray).isEmpty
    cases h1:ls[j] with
    | nil=>rw[h1]at this;cases it2 with|nil=>rfl|cons _ _=>simp at this
    | cons _ _=>rw[h1]at this;cases it2 with|nil=>simp at this|cons _ _=>simp
 ·have e:((List.range its.toArray.size).any fun j=>(ls[j]?.map fun l=>!l.isEmpty).getD false)=ls.any fun l=>!l.isEmpty:=by
   rw[List.size_toArray,← rlen,hle]
   apply Bool.eq_iff_iff.mpr
   rw[List.any_eq_true,List.any_eq_true]
   constructor
   ·rintro ⟨j,m,h⟩
    have hj:=List.mem_range.mp m
    rw[List.getElem?_eq_getElem hj]at h
    exact⟨_,List.getElem_mem hj,h⟩
   ·rintro ⟨l,m,h⟩
    obtain⟨j,hj,e⟩:=List.getElem_of_mem m
    exact⟨j,List.mem_range.mpr hj,by rw[List.getElem?_eq_getElem hj,e];exact h⟩
  rw[List.drop_zero,e]
  exact⟨.bl _,H,I.kept (t':=tk) (LSm.kept_iter fun b o hb e=>kp b o (by simpa using hb) e),rfl,q⟩
def lstsOf:List T->Option (List (List T))
 | []=>some []
 | .lst us::r=>(lstsOf r).map (us :: ·)
 | _=>none
def rAnyTT(ts:List T)(Q:T->Prop):Prop:=match ts with
 | [.tup xs]=>(match lstsOf xs with|some ls=>Q (.bl (ls.any fun l=>!l.isEmpty))|none=>False)
 | _=>False
theorem lstsOf_reps{K:PySem.W.Frag}{H:Hp}:∀{xs:List T}{ls:List (List T)}{vs:List V},lstsOf xs=some ls->Reps K H xs vs->∃(qs:List Addr) (lv:List (List V)),vs=qs.map V.ref/\qs.length=lv.length/\(∀(j:Nat) q l,qs[j]?=some q->lv[j]?=some l->SqL K H q l)/\(lv.any fun l=>!l.isEmpty)=ls.any fun l=>!l.isEmpty
 | [],ls,vs,h,r=>by
  cases h
  rw[reps_nil]at r
  subst r
  exact⟨[],[],rfl,rfl,(fun j q l e=>by simp at e),rfl⟩
 | t::xs,ls,vs,h,r=>by
  cases t<;>first|cases h;done|skip
  rename_i us
  simp only[lstsOf,Option.map_eq_some_iff]at h
  obtain⟨ms,e,rfl⟩:=h
  rw[reps_cons]at r
  obtain⟨v,r',rfl,rv,rr⟩:=r
  obtain⟨qs,lv,rfl,hl,hs,ha⟩:=lstsOf_reps e rr
  obtain⟨q,ws,rfl,sq,rw⟩:=rep_lst.mp rv
  refine⟨q::qs,ws::lv,rfl,by simp[hl],fun j q' l e1 e2=>?_,?_⟩
  ·cases j with
   | zero=>cases e1;cases e2;exact sq.sq
   | succ j=>exact hs j q' l (by simpa using e1) (by simpa using e2)
  ·rw[List.any_cons,List.any_cons,ha]
   have:=rw.length
   congr 1
   cases us with
   | nil=>cases ws with|nil=>rfl|cons _ _=>simp at this
   | cons _ _=>cases ws with|nil=>simp at this|cons _ _=>rfl
theorem bl_anyT(hc:X.calm=true):BlR X (.builtin "any") rAnyTT:=by
 refine⟨_,call_anyT hc,fun ts vs H Q0 Q r q k=>?_⟩
 unfold rAnyTT at q
 split at q
 ·obtain⟨v,rfl,r1⟩:=reps1 r
  split at q
  ·rename_i ls e
   rw[rep_tup]at r1
   obtain⟨p,ys,rfl,sq,rr⟩:=r1
   obtain⟨qs,lv,rfl,h1,h2,h3⟩:=lstsOf_reps e rr
   exact⟨p,qs,lv,rfl,sq,h1,h2,k _ _ H (.refl H) (rep_bl.mpr rfl) (by rw[h3];exact q)⟩
  ·exact q.elim
 ·exact q.elim
end
def tabAt(z:Str):List (Str×Int)->Option Int
 | []=>none
 | p::D=>if z=p.1 then some p.2 else tabAt z D
section
open KTD
abbrev tabD(D:List (Str×Int)):List (Str×Dat):=D.map fun p=>(p.1,Dat.flat (.int p.2))
theorem tab_in{z:Str}{i:Int}:∀{D:List (Str×Int)},tabAt z D=some i->inKeys z (tabD D)=true
 | [],h=>by cases h
 | p::D,h=>by
  unfold tabAt at h
  by_cases e:z=p.1
  ·show (decide (z=p.1)||_)=true
   rw[decide_eq_true e,Bool.true_or]
  ·rw[if_neg e]at h
   show (decide (z=p.1)||inKeys z (tabD D))=true
   rw[tab_in h,Bool.or_true]
theorem tab_each{h:Heap}{P:Value->Prop}{z:Str}{i:Int}(hp:∀t,P (.int i t)):∀{D:List (Str×Int)},tabAt z D=some i->EachL h z P (tabD D)
 | [],h=>by cases h
 | p::D,h=>by
  unfold tabAt at h
  by_cases e:z=p.1
  ·rw[if_pos e]at h
   cases h
   exact eachL_hit e (opened_int hp)
  ·rw[if_neg e]at h
   exact eachL_miss e (tab_each hp h)
theorem tab_plain:∀D:List (Str×Int),((tabD D).all fun p=>KTD.plain p.2)=true
 | []=>rfl
 | p::D=>by
  show (KTD.plain (Dat.flat (.int p.2))&&(tabD D).all fun p=>KTD.plain p.2)=true
  rw[tab_plain D]
  rfl
def tabIn(K:PySem.W.Frag)(a:Addr)(D:List (Str×Int)):Bool:=tabLook flatLooks (fun a=>K.lookup a) a (D.map fun p=>(p.1,PyData.int p.2))
def GlD(K:PySem.W.Frag)(mg:Str->Option Value)(x:Str)(D:List (Str×Int)):Prop:=∃a,mg x=some (.ref a)/\tabIn K a D=true
variable {X:Cx} {b:Expr} {wb:WE} {pos p0:Pos}
theorem ix_tab{a:Addr}{D:List (Str×Int)}(h:tabLook flatLooks (fun a=>X.K.lookup a) a (D.map fun p=>(p.1,PyData.int p.2))=true):IxR X (fun x y H Q=>∃z i,x=.ref a/\y=.str z/\tabAt z D=some i/\Q (.int i) H):=by
 intro value slice pins s σ H x y v u Q I rx ry hh hs
 obtain⟨z,i,rfl,rfl,e,q⟩:=hh
 cases rx
 obtain⟨t,rfl⟩:=ry
 have T:=(tab_of_look (fun d v=>flat_of_looks) (h:=s.heap) (fun a o e=>I.kIn a o e) h).text
 rw[List.map_map]at T
 exact item_textA (D:=tabD D) ⟨T,fun _ _ e=>e⟩ (tab_plain D) (tab_in e) (tab_each (fun t'=>⟨.int i,H,I.tok _,⟨_,rfl⟩,q⟩) e) hs
def wTab(D:List (Str×Int))(wb:WE):WE:=fun τ Q=>wb τ fun t=>match t with
 | .str z=>(match tabAt z D with|some i=>Q (.int i)|none=>False)
 | _=>False
theorem jtab{x:Str}{D:List (Str×Int)}(g:GlD X.K X.mg x D)(hg:Gl X x)(hb:JE X b wb) (hd:(x==("__debug__" : Str))=false:=by decide) (nsl:PlainIx b:=by intro _ _;rfl):JE X (.Subscript (.Name x p0) b pos) (wTab D wb):=by
 obtain⟨a,hm,h⟩:=g
 refine pe_of (pe_ix (ix_tab h) (pe_glob (v:=.ref a) hg hm rfl hd) hb nsl) fun σ H Q ⟨τ,Q0,R,hw,k⟩=>?_
 refine⟨τ,_,R,hw,fun t v H1 S1 r1 q1=>?_⟩
 cases t<;>first|exact q1.elim|skip
 rename_i z
 have q1':(match tabAt z D with|some i=>Q0 (.int i)|none=>False):=q1
 cases e:tabAt z D with
 | none=>rw[e]at q1';exact q1'.elim
 | some i =>
  rw[e]at q1'
  exact⟨z,i,rfl,rep_str.mp r1,e,k _ _ H1 S1 (rep_int.mpr rfl) q1'⟩
end
def rLenSB(ts:List T)(Q:T->Prop):Prop:=match ts with
 | [.str z]=>z.length<=1000000/\Q (.int z.length)
 | _=>False
end TL
end
section
namespace TL
open PySem PySem.Spec PyProof.Rows L2
section
variable {X:Cx} {a b:Expr} {wa wb:WE} {pos:Pos}
theorem call_strB:CallR X (.type "str") (fun xs H Q=>∃i:Int,xs=[.int i]/\i.natAbs < 2 ^ 200/\Q (.str (Str.ofString (toString i))) H):=by
 intro pins s σ H xs us Q I r h
 obtain⟨i,rfl,hi,q⟩:=h
 obtain⟨u,rfl,ru⟩:=vals1 r
 obtain⟨t,rfl⟩:=ru
 refine P.str_of_int ?_ ⟨.str _,H,I.tok _,⟨_,rfl⟩,q⟩
 by_cases h0:i.natAbs=0
 ·rw[h0];simp
 ·exact(Nat.log2_lt h0).mpr (Nat.lt_trans hi (by decide))
def rStrTB(ts:List T)(Q:T->Prop):Prop:=match ts with
 | [.int i]=>i.natAbs < 2 ^ 200/\Q (.str (Str.ofString (toString i)))
 | _=>False
theorem ty_strB:BlR X (.type "str") rStrTB:=by
 refine⟨_,call_strB,fun ts vs H Q0 Q r q k=>?_⟩
 unfold rStrTB at q
 split at q
 ·obtain⟨v,rfl,r1⟩:=reps1 r
  have:=rep_int.mp r1
  subst this
  exact⟨_,rfl,q.1,k _ _ H (.refl H) (rep_str.mpr rfl) q.2⟩
 ·exact q.elim
def get3(k1 k2 k3 z1 z2 z3 k d:Str):Str:=if k1=k then z1 else if k2=k then z2 else if k3=k then z3 else d
def wGet3(k1 k2 k3:Str)(w1 w2 w3 wa wb:WE):WE:=fun τ Q=>w1 τ fun x1=>w2 τ fun x2=>w3 τ fun x3=>wa τ fun x=>wb τ fun y=>∃z1 z2 z3 k d,x1=.str z1/\x2=.str z2/\x3=.str z3/\x=.str k/\y=.str d/\Q (.str (get3 k1 k2 k3 z1 z2 z3 k d))
end
end TL
end
section
namespace TL
open PySem PySem.Spec PyProof.Rows L2
section
variable {X:Cx} {a b e:Expr} {wa wb w:WE} {pos:Pos}
theorem ins_eq(l:List Value)(k:Nat)(y:Value):(l.toArray.extract 0 k).push y++l.toArray.extract k=(l.take k++y::l.drop k).toArray:=by
 apply Array.toList_inj.mp
 simp
 exact List.take_of_length_le (by simp)
theorem mt_insert:MtM X "list.insert" (fun x vs H Q=>∃l xs i y,x=.ref l/\vs=[.int (i:Nat),y]/\H l=some (.lst xs)/\i<=xs.length/\xs.length < 1000/\Q .non (upd H l (.lst (xs.take i++y::xs.drop i)))):=by
 intro pins s σ H x vs v us Q I rx rv h
 obtain⟨l,xs,i,y,rfl,rfl,hH,hi,hz,q⟩:=h
 cases rx
 obtain⟨u,u2,rfl,ru,ru2⟩:=vals2 rv
 obtain⟨tk,rfl⟩:=ru
 obtain⟨z,its,n,r,hl,e⟩:=I.lstM hH
 have le:its.length=xs.length:=r.length.symm
 have hs1:its.toArray.size<=sizeLine:=by rw[List.size_toArray,le];exact few (Nat.le_of_lt hz)
 obtain⟨xi,hx⟩:∃j:Int,j=((i:Nat):Int):=⟨_,rfl⟩
 rw[← hx]
 have a1:decide (-(2 ^ 63:Int)<=xi)=true:=decide_eq_true (by omega)
 have a2:decide (xi < 2 ^ 63)=true:=decide_eq_true (by omega)
 have fit:¬(!Builtin.List.listFitsIndex xi)=true:=by
  unfold Builtin.List.listFitsIndex
  rw[a1,a2]
  decide
 have M:=PySem.AutoSeq1.list_insert_list_int_val_1 l its.toArray n xi tk u2 fit hs1
 refine call_meets F.slot_list_insert ⟨_,e,rfl⟩ F.entry_list_insert (F.args_list_insert_3 _ _ _) M ⟨e,?_⟩
 clear M
 refine⟨.non,_,I.lset (its':=its.take i++u2::its.drop i) hH e ?_ (Vals.append (r.take _) (.cons ru2 (r.drop _))) ?_,rfl,q⟩
 ·show (its.toArray.extract 0 (if xi < 0 then (xi + (its.toArray.size:Int)).toNat else min xi.toNat its.toArray.size)).push u2++its.toArray.extract (if xi < 0 then (xi + (its.toArray.size:Int)).toNat else min xi.toNat its.toArray.size)=_
  have em:min i its.toArray.size=i:=by rw[List.size_toArray];omega
  rw[if_neg (by omega),hx,Int.toNat_natCast,em]
  exact ins_eq its i u2
 ·rw[List.length_append,List.length_cons,List.length_take,List.length_drop]
  exact few (by omega)
def sIns(i:Nat)(wa wb:WE):WS:=fun D τ=>match sget τ i with
 | .own ts=>wa τ fun x=>wb τ fun t=>∃n:Nat,x=.int (n:Nat)/\n<=ts.length/\ts.length < 1000/\D.nx (sput τ i (.own (ts.take n++t::ts.drop n)))
 | _=>False
theorem jins{i:Nat}{x:Str}{px apos cpos:Pos}(hv:PE X (.Name x px) (tVar i))(ha:JE X a wa)(hb:JE X b wb)
  (hs:swapsWith (.Call (.Attribute (.Name x px) "insert" apos) [a,b] [] cpos) none pos.line X.env=pure false:=by rfl)
  (hbase:attributeBase (.Name x px) "insert" X.env (eval (.Name x px) X.env)=eval (.Name x px) X.env:=by rfl)
  (hfew:((backTo cpos (starEach [a,b] X.env)).all (fun x=>!x.1)&&(backToKw cpos (keywordEach [] X.env)).all (fun x=>x.1.isSome)
   && decide (([a,b]:List Expr).length + ([]:List Keyword).length + (if ([]:List Keyword).isEmpty then 0 else 1) < 30))=true:=by rfl)
  (hline:(apos.endLine==cpos.line)=true:=by rfl) (hst:starEach [a,b] X.env=(false,eval a X.env)::starEach [b] X.env:=by rfl) (hst2:starEach [b] X.env=(false,eval b X.env)::starEach [] X.env:=by rfl) (hplain:(backTo cpos (starEach [b] X.env)).any (·.1)=false:=by rfl) :
  JS X (.Expr (.Call (.Attribute (.Name x px) "insert" apos) [a,b] [] cpos) pos) (sIns i wa wb):=by
 refine ps_of (ps_expr (pe_bm PySem.F.plainAttrs_list PySem.F.slot_list_insert PySem.F.type_list_insert mt_insert hv (pa_cons ha (pa_cons hb pa_nil hst2) hst) hbase hfew hline hst hplain) hs) fun D σ H ⟨τ,D0,R,hw,k,_⟩=>?_
 unfold sIns at hw
 split at hw
 ·rename_i ts own
  have sl:=R.slot i
  rw[own]at sl
  obtain⟨p,vs,ev,hp,rr,n0⟩:=sl
  refine⟨.ref p,ev,.inl ⟨rfl,vs,SqL.of hp⟩,τ,_,R,hw,fun t1 v1 H1 S1 r1 q1=>⟨τ,_,R.mono S1,q1,fun t v H' S r q=>?_⟩⟩
  obtain⟨n,rfl,hn,hl,q⟩:=q
  have e1:=rep_int.mp r1
  subst e1
  have S':=S1.trans S
  refine⟨p,vs,n,v,rfl,rfl,S' _ _ hp,by rw[rr.length];exact hn,by rw[rr.length];exact hl,?_⟩
  have rr':=rr.kp (.of S')
  exact k _ _ _ ((Kp.of S').trans (Kp.write (S' _ _ hp) _)) ((R.mono S').write own ev (S' _ _ hp) ((rr'.take n).append (.cons r (rr'.drop n)))) q
 ·exact hw.elim
theorem RepSt.putD2{K:PySem.W.Frag}{H0 H H':Hp}{σ:St}{τ:List Slot}{i:Nat}{p:Addr}{kvs:List (Key×T)}{vs:List (Key×V)}(R:RepSt K H0 H σ τ)(S:Same H H')(n0:H0 p=none)(hp:H' p=some (.dK vs))(ek:vs.map (·.1)=kvs.map (·.1))(rr:Reps K H' (kvs.map (·.2)) (vs.map (·.2))):RepSt K H0 H' (σ.set i (some (.ref p))) (sput τ i (.owd p kvs)):=by
 have nown:∀c ts,sget (sput τ i (.owd p kvs)) c=.own ts->i≠c/\sget τ c=.own ts:=fun c ts h=>by
  by_cases hc:i=c
  ·subst hc
   by_cases hi:i < τ.length
   ·rw[sget_same hi]at h;cases h
   ·rw[sget_big (by rw[length_sput];omega)]at h;cases h
  ·rw[sget_ne hc]at h
   exact⟨hc,h⟩
 refine⟨R.same.trans S,by rw[length_sput,List.length_set];exact R.len,fun j=>?_,fun a b ts us q hab ha hb ea eb=>?_⟩
 ·by_cases hij:i=j
  ·subst hij
   by_cases hi:i < τ.length
   ·rw[sget_same hi]
    exact⟨List.getElem?_set_self (by rw[← R.len];exact hi),⟨vs,hp,ek,rr⟩,n0⟩
   ·rw[sget_big (by rw[length_sput];omega)];trivial
  ·rw[sget_ne hij,List.getElem?_set_ne hij]
   exact(R.slot j).mono S
 ·obtain⟨na,ha⟩:=nown a ts ha
  obtain⟨nb,hb⟩:=nown b us hb
  rw[List.getElem?_set_ne na]at ea
  rw[List.getElem?_set_ne nb]at eb
  exact R.apart a b ts us q hab ha hb ea eb
def sDNew3(i:Nat)(k1 k2 k3:Str)(w1 w2 w3:WE):WS:=fun D τ=>w1 τ fun t1=>w2 τ fun t2=>w3 τ fun t3=>∀p,D.nx (sput τ i (.owd p [(.inr k1,t1),(.inr k2,t2),(.inr k3,t3)]))
theorem jdnew3{i:Nat}{x k1 k2 k3:Str}{e1 e2 e3:Expr}{w1 w2 w3:WE}{i1 i2 i3}{q1 q2 q3 p1 p2:Pos}(hN:X.N.Nodup)(hi:X.N[i]?=some x)(hx:Loc X.env.scope x)(h1:JE X e1 w1)(h2:JE X e2 w2)(h3:JE X e3 w3)
  (hd:k1≠k2/\k1≠k3/\k2≠k3:=by decide +kernel)
  (hs:swapsWith (.Dict [some (.Constant (.str k1) i1 q1),some (.Constant (.str k2) i2 q2),some (.Constant (.str k3) i3 q3)] [e1,e2,e3] p2) (some (.Name x p1)) pos.line X.env=pure false:=by rfl)
  (hf:X.fn x=true∨X.env.scope.names.lookup x=some .local:=by first|exact .inl rfl|exact .inr rfl|assumption) :
  JS X (.Assign [.Name x p1] (.Dict [some (.Constant (.str k1) i1 q1),some (.Constant (.str k2) i2 q2),some (.Constant (.str k3) i3 q3)] [e1,e2,e3] p2) pos) (sDNew3 i k1 k2 k3 w1 w2 w3):=by
 refine ps_of (ps_set hN hi hx (pe_disp (pps_cons pe_str h1 (pps_cons pe_str h2 (pps_cons pe_str h3 pps_nil))) rfl rfl (by simp) (by simp)) hs hf) fun D σ H ⟨τ,D0,R,hw,k,_⟩=>?_
 intro p hp
 have S0:=same_new hp (.dK [])
 refine⟨τ,_,R.mono S0,hw,fun x1 v1 H1 S1 r1 hw=>⟨τ,_,R.mono (S0.trans S1),hw,fun x2 v2 H2 S2 r2 hw=>⟨τ,_,R.mono ((S0.trans S1).trans S2),hw,fun x3 v3 H3 S3 r3 hw=>?_⟩⟩⟩
 have S03:=((S0.trans S1).trans S2).trans S3
 have hp3:H3 p=some (.dK []):=S3 _ _ (S2 _ _ (S1 _ _ upd_same))
 have e1:mergeK [] [((.inr k1:Key),v1),(.inr k2,v2),(.inr k3,v3)]=[((.inr k1:Key),v1),(.inr k2,v2),(.inr k3,v3)]:=by
  simp[mergeK,putK,hd.1,hd.2.1,hd.2.2,Ne.symm hd.1,Ne.symm hd.2.1,Ne.symm hd.2.2]
 refine⟨hp3,[((.inr k1:Key),v1),(.inr k2,v2),(.inr k3,v3)],rfl,by simp,?_⟩
 rw[e1]
 have kp:=Kp.dict hp3 (.dK [((.inr k1:Key),v1),(.inr k2,v2),(.inr k3,v3)])
 have SH:Same H (upd H3 p (.dK [((.inr k1:Key),v1),(.inr k2,v2),(.inr k3,v3)])):=fun c o e=>by
  rw[upd_ne (fun z=>by rw[z,hp]at e;cases e)]
  exact S03 c o e
 refine k _ _ _ (.of SH) (R.putD2 SH (R.same.free hp) upd_same rfl ?_) (hw p)
 exact .cons ((r1.kp (.of (S2.trans S3))).kp kp) (.cons ((r2.kp (.of S3)).kp kp) (.cons (r3.kp kp) (reps_nil.mpr rfl)))
end
end TL
end
namespace TL
open PySem PySem.Spec PyProof.Rows L2
theorem cpow10(n:Int)(h:0<=n/\n<=1000000):CPow 10 n:=⟨h.1,h.2,by decide⟩
theorem Lim.of{n:Nat}{i:Int}(h1:-(10 ^ n) < i)(h2:i < 10 ^ n):Lim n i:=by
 unfold Lim
 have:((10 ^ n:Nat):Int)=10 ^ n:=by simp
 omega
theorem Lim.bd{n:Nat}{i:Int}(h:Lim n i):-(10 ^ n) < i/\i < 10 ^ n:=by
 unfold Lim at h
 have:((10 ^ n:Nat):Int)=10 ^ n:=by simp
 omega
theorem Lim.mono{m n:Nat}{i:Int}(h:Lim m i)(hn:m<=n):Lim n i:=Nat.lt_of_lt_of_le h (Nat.pow_le_pow_right (by decide) hn)
theorem Lim.mul{m n:Nat}{i j:Int}(a:Lim m i)(b:Lim n j):Lim (m + n) (i * j):=by
 unfold Lim at *
 rw[Int.natAbs_mul,Nat.pow_add]
 exact Nat.mul_lt_mul'' a b
theorem Lim.add{m n:Nat}{i j:Int}(a:Lim m i)(b:Lim n j):Lim (max m n + 1) (i + j):=by
 have a':=a.mono (Nat.le_max_left m n)
 have b':=b.mono (Nat.le_max_right m n)
 unfold Lim at *
 rw[Nat.pow_succ]
 have:=Int.natAbs_add_le i j
 omega
theorem Lim.neg{m:Nat}{i:Int}(a:Lim m i):Lim m (-i):=by
 unfold Lim at *
 rw[Int.natAbs_neg]
 exact a
theorem Lim.sub{m n:Nat}{i j:Int}(a:Lim m i)(b:Lim n j):Lim (max m n + 1) (i - j):=by
 rw[Int.sub_eq_add_neg]
 exact a.add b.neg
theorem mulOk{m n:Nat}{i j:Int}(a:Lim m i)(b:Lim n j)(hm:m<=100000:=by decide)(hn:n<=100000:=by decide):MulOk i j:=.inl ⟨m,n,hm,hn,a,b⟩
theorem divOk{n:Nat}{j:Int}(h:j≠0)(b:Lim n j)(hn:n<=2200:=by decide):DivOk j:=⟨h,n,hn,b⟩
theorem fmod_pos{b:Int}(a:Int)(h:0 < b):0<=a.fmod b/\a.fmod b < b:=⟨Int.fmod_nonneg_of_pos a h,Int.fmod_lt_of_pos a h⟩
theorem plain_ints:∀ns:List Int,PyData.canLayAll0 (pds (ns.map T.int))=true
 | []=>by simp[pds,PyData.canLayAll0]
 | n::r=>by simp only[List.map,pds,pd,PyData.canLayAll0,PyData.canLay0,plain_ints r,Bool.and_self]
theorem dep_ints:∀ns:List Int,PyData.depthAll (pds (ns.map T.int))=0
 | []=>by simp[pds,PyData.depthAll]
 | n::r=>by simp only[List.map,pds,pd,PyData.depthAll,PyData.depth,dep_ints r,Nat.max_self]
theorem eqOk_tup(ns ms:List Int):EqOk (.tup (ns.map T.int)) (.tup (ms.map T.int)):=by
 refine⟨by simp only[plain,pd,PyData.canLay0,plain_ints],by simp only[plain,pd,PyData.canLay0,plain_ints],by simp only[dep,pd,PyData.depth,dep_ints];decide⟩
theorem atI_map{ns:List Int}{k:Int}(h0:0<=k)(h1:k < ns.length):∃v,v∈ns/\atI (ns.map T.int) k=some (.int v):=by
 have hk:k.toNat < ns.length:=by omega
 refine⟨ns[k.toNat],List.getElem_mem hk,?_⟩
 unfold atI ixN
 rw[List.length_map,if_pos h0,if_pos h1]
 simp only[Option.bind]
 rw[List.getElem?_map,List.getElem?_eq_getElem hk]
 rfl
theorem atI0{α:Type}(a:α)(r:List α):atI (a::r) 0=some a:=by
 unfold atI ixN
 rw[if_pos (by decide),if_pos (by simp)]
 rfl
theorem atI1{α:Type}(a b:α)(r:List α):atI (a::b::r) 1=some b:=by
 unfold atI ixN
 rw[if_pos (by decide),if_pos (by simp;omega)]
 rfl
theorem atI2{α:Type}(a b c:α)(r:List α):atI (a::b::c::r) 2=some c:=by
 unfold atI ixN
 rw[if_pos (by decide),if_pos (by simp;omega)]
 rfl
def Within:List Int->List Int->Prop
 | [],[]=>True
 | r::rs,b::bs=>(0<=r/\r < b)/\Within rs bs
 | _,_=>False
theorem Within.snoc:∀{rs bs:List Int}{r b:Int},Within rs bs->0<=r->r < b->Within (rs++[r]) (bs++[b])
 | [],[],r,b,_,h0,h1=>⟨⟨h0,h1⟩,trivial⟩
 | _::_,_::_,r,b,h,h0,h1=>⟨h.1,h.2.snoc h0 h1⟩
 | [],_::_,_,_,h,_,_=>h.elim
 | _::_,[],_,_,h,_,_=>h.elim
theorem Within.length:∀{rs bs:List Int},Within rs bs->rs.length=bs.length
 | [],[],_=>rfl
 | _::_,_::_,h=>by simp[h.2.length]
 | [],_::_,h=>h.elim
 | _::_,[],h=>h.elim
@[elab_as_elim] theorem args0{α:Type}{M:List α->Prop}{us:List α}(hl:us.length=0)(h:M []):M us:=by cases us;exact h;cases hl
@[elab_as_elim] theorem argsS{α:Type}{M:List α->Prop}{us:List α}{n:Nat}(hl:us.length=n + 1)(h:∀a r,r.length=n->M (a::r)):M us:=by cases us;cases hl;exact h _ _ (Nat.succ.inj hl)
@[elab_as_elim] theorem args1{α:Type}{M:List α->Prop}{us:List α}(hl:us.length=1)(h:∀a,M [a]):M us:=argsS (M:=M) hl fun a r hl=>args0 (M:=fun r=>M (a::r)) hl (h a)
@[elab_as_elim] theorem args2{α:Type}{M:List α->Prop}{us:List α}(hl:us.length=2)(h:∀a b,M [a,b]):M us:=argsS (M:=M) hl fun a r hl=>args1 (M:=fun r=>M (a::r)) hl (h a)
@[elab_as_elim] theorem args3{α:Type}{M:List α->Prop}{us:List α}(hl:us.length=3)(h:∀a b c,M [a,b,c]):M us:=argsS (M:=M) hl fun a r hl=>args2 (M:=fun r=>M (a::r)) hl (h a)
local macro_rules|`(tactic| walk_at "tw")=>`(tactic| simp only[sSeq,sNext,sSet,sIf,sRet,sOwn,sApp,sFrz,sAsg,sPar,sFor,sNever,sExpr,sRetN,gT,gsC,gs0,gN,wVar,wC,w2,rAddT,rSubT,rMulT,rDivT,rModT,rPowT,wNeg,wCmp,tCmpT,cLtT,cLeT,cGtT,cGeT,cEqT,cNeT,cIsN,cNotN,wChain,tChainT,tAndT,tOrT,tNotT,tVal,wAndV,wOrV,wNotV,wIfE,aNil,aCons,wTup,wLst,rIxTT,wCB,rLenT,rAbsT,rMaxT,rMinT,rTupleT,isK,noExc,wIsi,wCall,sget,sput,iSeq,iRange1,iRange2,iEnum,wComp,compT,hide,tTrue,rSumT,intsOf,rAllT,boolsOf,rListT,iRange3,wRev,wRevA,wSl,wo,wo0,rSlTT,sRaise,sRaiseF,sTry,wIsE,wFld,wOIx,wOLen,tONe,rIxST,rAddST,rMulST,tTruT,cInT,cNotInT,rSortT,strsOf,sOwnF,sSetIx,sCatO,iOwn,endO,frO,wFz,tFz,sFzS,vatT,vat1,backT,lone,lone1,noL,noLs,rMulLT,lstQ,soX,wCount,rCountTs,cInTT,sOwnW,valV,iStr,sgnT,cLeS,sTryF,sIns,sDNew3,wGet3,rStrTB,wSplit,rSplitT,wStarts,rIntST,sRd,rdT,wIdxT,rIdxTT,cNotInTT,lstsOf,rAnyTT,tabAt,wTab,rLenSB,wLRev,sDNew,sDSet,wDLen,wDGt,keyT,onlyD,noD,wCountB,rCountB,wIdxB,rIdxB,wJoin,rJoinT,rStrT,wSlS,rAddAT,rLenST,sOwnC,Option.map,List.sum_cons,List.sum_nil,rangeT,startT,atI0,atI1,atI2,List.map,List.length_cons,List.length_nil,List.append_nil,List.cons_append,List.nil_append,List.replicate,Nat.reduceAdd,Nat.reduceSub,Nat.reduceLeDiff,Nat.zero_le,Int.reduceToNat,Int.reducePow,Int.reduceMul,Int.reduceAdd,true_and,and_true])
local macro_rules|`(tactic| walk_at "go")=>`(tactic| ((conv=>whnf);repeat (first|(refine And.intro (by first|rfl|exact trivial|decide|exact Nat.le_of_ble_eq_true rfl|exact mulOk (by assumption) (by assumption)|assumption) ?_;conv=>whnf)|(refine And.intro (fun q=>Bool.noConfusion q) (fun _=>?_);conv=>whnf)|(refine And.intro (fun _=>?_) (fun q=>Bool.noConfusion q);conv=>whnf))))
local macro_rules|`(tactic| walk_at "nf1")=>`(tactic| conv=>arg 1;simp only[startT,sput,sget,hide,List.map,List.replicate,List.length_cons,List.length_nil,Nat.reduceAdd,Nat.reduceSub,List.cons_append,List.nil_append,List.append_nil])
local macro_rules|`(tactic| walk_at "nf2")=>`(tactic| conv=>arg 2;simp only[startT,sput,sget,hide,List.map,List.replicate,List.length_cons,List.length_nil,Nat.reduceAdd,Nat.reduceSub,List.cons_append,List.nil_append,List.append_nil])
structure Frac(p q a b:Int):Prop where
 pos:0 < q
 cop:Int.gcd p q=1
 eq:p * b=a * q
 top:p.natAbs<=a.natAbs
 bot:q.natAbs<=b.natAbs
theorem low_uniq{p q p' q':Int}(hq:0 < q)(hq':0 < q')(c:Int.gcd p q=1)(c':Int.gcd p' q'=1)(e:p * q'=p' * q):p=p'/\q=q':=by
 have n:p.natAbs * q'.natAbs=p'.natAbs * q.natAbs:=by rw[← Int.natAbs_mul,← Int.natAbs_mul,e]
 have c1:Nat.Coprime q.natAbs p.natAbs:=by
  have:Nat.gcd p.natAbs q.natAbs=1:=c
  exact(Nat.gcd_comm _ _).trans this
 have c2:Nat.Coprime q'.natAbs p'.natAbs:=by
  have:Nat.gcd p'.natAbs q'.natAbs=1:=c'
  exact(Nat.gcd_comm _ _).trans this
 have d1:q.natAbs ∣ q'.natAbs:=c1.dvd_of_dvd_mul_left ⟨p'.natAbs,by rw[n,Nat.mul_comm]⟩
 have d2:q'.natAbs ∣ q.natAbs:=c2.dvd_of_dvd_mul_left ⟨p.natAbs,by rw[← n,Nat.mul_comm]⟩
 have qe:q.natAbs=q'.natAbs:=Nat.dvd_antisymm d1 d2
 have qq:q=q':=by omega
 subst qq
 exact⟨Int.eq_of_mul_eq_mul_right (by omega) e,rfl⟩
mutual
theorem eqT_self:∀t:T,plain t=true->eqT t t=true
 | .non,_=>rfl
 | .bl b,_=>by rw[eqTb];exact beq_self_eq_true b
 | .int i,_=>by rw[eqTe];exact decide_eq_true rfl
 | .str x,_=>by rw[eqTf];exact beq_self_eq_true x
 | .tup ts,h=>by
  simp only[plain,pd,PyData.canLay0]at h
  exact eqTs_self ts h
 | .lst ts,h=>by
  simp only[plain,pd,PyData.canLay0]at h
  exact eqTs_self ts h
 | .dct,h=>by simp[plain,pd,PyData.canLay0]at h
 | .exc _,h=>by simp[plain,pd,PyData.canLay0]at h
theorem eqTs_self:∀ts:List T,PyData.canLayAll0 (pds ts)=true->eqTs ts ts=true
 | [],_=>rfl
 | t::r,h=>by
  simp only[pds,PyData.canLayAll0,Bool.and_eq_true]at h
  rw[eqTj,Bool.and_eq_true]
  exact⟨eqT_self t h.1,eqTs_self r h.2⟩
end
def Pn(n:Nat)(t:T):Prop:=plain t=true/\dep t<=n
theorem Pn.all{n:Nat}:∀{ts:List T},(∀t∈ts,Pn n t)->PyData.canLayAll0 (pds ts)=true/\PyData.depthAll (pds ts)<=n
 | [],_=>by simp[pds,PyData.canLayAll0,PyData.depthAll]
 | t::r,h=>by
  have h1:(pd t).canLay0=true/\(pd t).depth<=n:=h t List.mem_cons_self
  have ih:=Pn.all fun x hx=>h x (List.mem_cons_of_mem _ hx)
  simp only[pds,PyData.canLayAll0,PyData.depthAll,Bool.and_eq_true]
  exact⟨⟨h1.1,ih.1⟩,by omega⟩
theorem Pn.lst{n:Nat}{ts:List T}(h:∀t∈ts,Pn n t):Pn (n + 1) (.lst ts):=by
 have:=Pn.all h
 refine⟨by simp only[plain,pd,PyData.canLay0];exact this.1,?_⟩
 simp only[dep,pd,PyData.depth]
 omega
theorem Pn.tup{n:Nat}{ts:List T}(h:∀t∈ts,Pn n t):Pn (n + 1) (.tup ts):=by
 have:=Pn.all h
 refine⟨by simp only[plain,pd,PyData.canLay0];exact this.1,?_⟩
 simp only[dep,pd,PyData.depth]
 omega
theorem Pn.int(i:Int):Pn 0 (.int i):=by
 refine⟨by simp[plain,pd,PyData.canLay0],by simp[dep,pd,PyData.depth]⟩
theorem Pn.non:Pn 0 .non:=by
 refine⟨by simp[plain,pd,PyData.canLay0],by simp[dep,pd,PyData.depth]⟩
theorem Pn.ok{n m:Nat}{x y:T}(h:Pn n x)(h':Pn m y)(hn:n<=60):EqOk x y:=⟨h.1,h'.1,by have:=h.2;omega⟩
theorem Pn.self{n:Nat}{x:T}(h:Pn n x):eqT x x=true:=eqT_self x h.1
structure Rt(p q n m:Int):Prop where
 pos:0 < q
 cop:Int.gcd p q=1
 eq:p * m=n * q
theorem Frac.rt{p q a b:Int}(F:Frac p q a b):Rt p q a b:=⟨F.pos,F.cop,F.eq⟩
theorem mul_cl{a b c:Int}(h:a≠0)(e:a * b=a * c):b=c:=Int.eq_of_mul_eq_mul_left h e
theorem Rt.same{p q p' q' n m n' m':Int}(hm:m≠0)(hm':m'≠0)(e:n * m'=n' * m)(A:Rt p q n m)(B:Rt p' q' n' m'):p=p'/\q=q':=by
 refine low_uniq A.pos B.pos A.cop B.cop (mul_cl (Int.mul_ne_zero hm hm') ?_)
 have e1:=A.eq
 have e2:=B.eq
 have h1:m * m' * (p * q')=(p * m) * (m' * q'):=by grind
 have h2:m * m' * (p' * q)=(p' * m') * (m * q):=by grind
 rw[h1,h2,e1,e2]
 have h3:n * q * (m' * q')=(n * m') * (q * q'):=by grind
 rw[h3,e]
 grind
theorem Rt.sum{p q p' q' n n' m P R:Int}(A:Rt p q n m)(B:Rt p' q' n' m)(F:Frac P R (p * q' + p' * q) (q * q')):Rt P R (n + n') m:=by
 refine⟨F.pos,F.cop,mul_cl (a:=q * q') (by have:=Int.mul_pos A.pos B.pos;omega) ?_⟩
 have e1:=A.eq
 have e2:=B.eq
 have e3:=F.eq
 clear A B F
 grind
theorem Rt.neg{p q n m w:Int}(hm:0 < m)(A:Rt p q n m):(p * w < 0) ↔ (n * w < 0):=by
 have hq:=A.pos
 have e:(p * w) * m=(n * w) * q:=by have:=A.eq;grind
 constructor
 ·intro h
  have h1:=Int.mul_neg_of_neg_of_pos h hm
  rw[e]at h1
  rcases Int.lt_or_le (n * w) 0 with z|z
  ·exact z
  ·have:=Int.mul_nonneg z (Int.le_of_lt hq);omega
 ·intro h
  have h1:=Int.mul_neg_of_neg_of_pos h hq
  rw[← e]at h1
  rcases Int.lt_or_le (p * w) 0 with z|z
  ·exact z
  ·have:=Int.mul_nonneg z (Int.le_of_lt hm);omega
def frG(n m:Int):Int:=if m < 0 then -(Int.gcd n m:Int) else (Int.gcd n m:Int)
def frN(n m:Int):Int:=n.fdiv (frG n m)
def frD(n m:Int):Int:=m.fdiv (frG n m)
def fr(n m:Int):T:=.tup [.int (frN n m),.int (frD n m)]
structure Two(k:Nat)(a b c d:Int):Prop where
 hb:b≠0
 hd:d≠0
 la:Lim k a
 lb:Lim k b
 lc:Lim k c
 ld:Lim k d
theorem Two.mono{k k':Nat}{a b c d:Int}(h:Two k a b c d)(hk:k<=k'):Two k' a b c d:=⟨h.hb,h.hd,h.la.mono hk,h.lb.mono hk,h.lc.mono hk,h.ld.mono hk⟩
abbrev tri(a b c:Int):T:=.tup [.int a,.int b,.int c]
abbrev Tr:=Int×Int×Int
abbrev trT(d:Tr):T:=tri d.1 d.2.1 d.2.2
abbrev Lim3(k:Nat)(u v w:Int):Prop:=Lim k u/\Lim k v/\Lim k w
abbrev LimT(k:Nat)(d:Tr):Prop:=Lim3 k d.1 d.2.1 d.2.2
theorem Lim3.mono{k k':Nat}{a b c:Int}(h:Lim3 k a b c)(hk:k<=k'):Lim3 k' a b c:=⟨h.1.mono hk,h.2.1.mono hk,h.2.2.mono hk⟩
abbrev crs(a b:Tr):Tr:=(a.2.1 * b.2.2 - a.2.2 * b.2.1,a.2.2 * b.1 - a.1 * b.2.2,a.1 * b.2.1 - a.2.1 * b.1)
abbrev dotI(a b:Tr):Int:=a.1 * b.1 + a.2.1 * b.2.1 + a.2.2 * b.2.2
abbrev pt(t:Tr)(m:Int):T:=.tup [fr t.1 m,fr t.2.1 m,fr t.2.2 m]
abbrev hpl(h:Tr):T:=.tup [fr h.1 h.2.2,fr h.2.1 h.2.2]
abbrev ptl(c s o:Tr):T:=.tup [trT c,trT s,trT o]
theorem lim_crs{m n k:Nat}{a b:Tr}(ha:LimT m a)(hb:LimT n b)(hk:m + n + 1<=k):LimT k (crs a b):=by
 have z:∀{p q r s:Int},Lim m p->Lim m q->Lim n r->Lim n s->Lim k (p * s - q * r):=fun hp hq hr hs=>((hp.mul hs).sub (hq.mul hr)).mono (by simp;omega)
 exact⟨z ha.2.1 ha.2.2 hb.2.1 hb.2.2,z ha.2.2 ha.1 hb.2.2 hb.1,z ha.1 ha.2.1 hb.1 hb.2.1⟩
theorem eqOk_tri(a b c d e f:Int):EqOk (tri a b c) (tri d e f):=eqOk_tup [a,b,c] [d,e,f]
theorem eqT_tri(a b c d e f:Int):eqT (tri a b c) (tri d e f)=decide (a=d/\b=e/\c=f):=by
 simp[eqT,eqTs]
theorem eqT_tr(a b:Tr):eqT (trT a) (trT b)=decide (a=b):=by
 obtain⟨a0,a1,a2⟩:=a
 obtain⟨b0,b1,b2⟩:=b
 rw[eqT_tri]
 simp
abbrev Pl:=Tr×Tr×Tr
abbrev plT(p:Pl):T:=ptl p.1 p.2.1 p.2.2
abbrev PlLim(k:Nat)(p:Pl):Prop:=LimT k p.1/\LimT k p.2.1/\LimT k p.2.2
theorem PlLim.mono{k k':Nat}{p:Pl}(h:PlLim k p)(hk:k<=k'):PlLim k' p:=⟨h.1.mono hk,h.2.1.mono hk,h.2.2.mono hk⟩
def isWh:T->Bool
 | .int _=>true
 | _=>false
def Z0q:SpT:=fun ts Q=>∃t,ts=[t]/\noExc t/\Q (.bl (isWh t))
theorem Z36:∀ts Q,Z0q ts Q->ts.length=1:=by rintro ts Q ⟨_,e,_⟩;subst e;rfl
def Z1D:WS :=
 (sRet (wAndV (wIsi .int (wVar 0)) (wNotV (wIsi .bool (wVar 0)))))
theorem Z3p:∀ts Q,Z0q ts Q->Z1D {nx:=fun _=>Q .non,rt:=Q} (startT 1 ts):=by
 rintro _ Q ⟨t,rfl,ne,h⟩
 unfold Z1D
 walk_at "tw"
 cases t<;>simp[isK,isWh,noExc]at h ne ⊢ <;> exact h
theorem wh_int{t:T}(h:isWh t=true):∃i,t=.int i:=by cases t<;>first|exact⟨_,rfl⟩|cases h
def numOk:T->Bool
 | .int i=>decide (-1000000000<=i)&&decide (i<=1000000000)
 | _=>false
def triW:T->Bool
 | .tup [a,b,c]=>isWh a&&(isWh b&&isWh c)
 | _=>false
def triOk:T->Bool
 | .tup [a,b,c]=>numOk a&&(numOk b&&numOk c)
 | _=>false
theorem num_wh{t:T}(h:numOk t=true):isWh t=true:=by cases t<;>first|rfl|cases h
theorem triOk_no{t:T}(h:triW t=false):triOk t=false:=by
 cases e:triOk t with
 | false=>rfl
 | true =>
  unfold triOk at e
  split at e
  ·rename_i a b c
   simp only[Bool.and_eq_true]at e
   have:triW (.tup [a,b,c])=true:=by simp only[triW,num_wh e.1,num_wh e.2.1,num_wh e.2.2,Bool.and_true]
   rw[this]at h
   cases h
  ·cases e
theorem triW_yes{t:T}(h:triW t=true):∃a b c,t=tri a b c:=by
 unfold triW at h
 split at h
 ·simp only[Bool.and_eq_true]at h
  obtain⟨a,rfl⟩:=wh_int h.1
  obtain⟨b,rfl⟩:=wh_int h.2.1
  obtain⟨c,rfl⟩:=wh_int h.2.2
  exact⟨a,b,c,rfl⟩
 ·cases h
def TriIn(t:T):Prop:=noExc t/\∀a b c,t=.tup [a,b,c]->noExc a/\noExc b/\noExc c
def Z0M:SpT:=fun ts Q=>∃t,ts=[t]/\TriIn t/\Q (.bl (triW t))
theorem Z2X:∀ts Q,Z0M ts Q->ts.length=1:=by rintro ts Q ⟨_,e,_⟩;subst e;rfl
def Z1O:WS :=
 (sSeq (sIf (tOrT (tNotT (tVal (wIsi .tuple (wVar 0)))) (tCmpT cNeT (wCB rLenT (aCons (wVar 0) aNil)) (wC (.int 3)))) (sRet (wC (.bl false))) sNext)
  (sRet (wCB rAllT (aCons (wComp (iSeq (wVar 0)) (gN 0) tTrue (wCall Z0q (aCons (wVar 0) aNil)) 1 []) aNil))))
theorem Z37:∀ts Q,Z0M ts Q->Z1O {nx:=fun _=>Q .non,rt:=Q} (startT 1 ts):=by
 rintro _ Q ⟨t,rfl,⟨ne,hi⟩,h⟩
 unfold Z1O
 by_cases ht:∃us,t=.tup us
 ·obtain⟨us,rfl⟩:=ht
  match us,hi,h with
  | [],_,h=>walk_at "tw"; simpa [triW] using h
  | [_],_,h=>walk_at "tw"; simpa [triW] using h
  | [_,_],_,h=>walk_at "tw"; simpa [triW] using h
  | x::y::z::z'::us,_,h =>
   walk_at "tw"
   refine⟨fun z=>(by cases z),fun _=>⟨fun _=>h,fun z=>?_⟩⟩
   simp at z
   omega
  | [x,y,z],hi,h =>
   obtain⟨nx,ny,nz⟩:=hi x y z rfl
   walk_at "tw"
   refine⟨fun z=>(by cases z),fun _=>⟨fun z=>by simp at z,fun _=>?_⟩⟩
   refine⟨fun _=>⟨x,rfl,nx,fun _=>⟨y,rfl,ny,fun _=>⟨z,rfl,nz,?_⟩,fun q=>(by cases q)⟩,fun q=>(by cases q)⟩,fun q=>(by cases q)⟩
   simpa [boolsOf,triW] using h
 ·walk_at "tw"
  refine⟨ne,?_⟩
  cases t<;>first|exact(ht ⟨_,rfl⟩).elim|(simpa [isK,triW] using h)
def Z03:SpT:=fun ts Q=>∃t,ts=[t]/\TriIn t/\Q (.bl (triOk t))
theorem Z2i:∀ts Q,Z03 ts Q->ts.length=1:=by rintro ts Q ⟨_,e,_⟩;subst e;rfl
abbrev c_FARTHEST:T:=.int 1000000000
abbrev c_NOUGHT:T:=.tup [.int 0,.int 0,.int 0]
def Z1e:WS :=
 (sRet (wAndV (wCall Z0M (aCons (wVar 0) aNil)) (wCB rAllT (aCons (wComp (iSeq (wVar 0)) (gN 0) tTrue (wChain cLeT cLeT (wNeg (wC c_FARTHEST)) (wVar 0) (wC c_FARTHEST)) 1 []) aNil))))
theorem Z2m:∀ts Q,Z03 ts Q->Z1e {nx:=fun _=>Q .non,rt:=Q} (startT 1 ts):=by
 rintro _ Q ⟨t,rfl,ti,h⟩
 unfold Z1e
 walk_at "tw"
 refine⟨t,rfl,ti,?_⟩
 cases hw:triW t with
 | false =>
  rw[triOk_no hw]at h
  exact⟨fun z=>(by cases z),fun _=>h⟩
 | true =>
  obtain⟨a,b,c,rfl⟩:=triW_yes hw
  refine⟨fun _=>?_,fun z=>(by cases z)⟩
  simp only[triOk,numOk]at h
  simp only[c_FARTHEST]
  walk_at "tw"
  generalize decide (-1000000000<=a)=p1 at h ⊢
  generalize decide (-1000000000<=b)=p2 at h ⊢
  generalize decide (-1000000000<=c)=p3 at h ⊢
  cases p1<;>cases p2<;>cases p3<;>simpa using h
abbrev c_MOST_HOURS:T:=.int 80
abbrev c_LAST_HOUR:T:=.int 9999
def hourOk:T->Bool
 | .int i=>decide (0<=i)&&decide (i<=9999)
 | _=>false
def Z17:SpT:=fun ts Q=>∃t,ts=[t]/\noExc t/\Q (.bl (hourOk t))
theorem Z3q:∀ts Q,Z17 ts Q->ts.length=1:=by rintro ts Q ⟨_,e,_⟩;subst e;rfl
def Z1P:WS :=
 (sRet (wAndV (wCall Z0q (aCons (wVar 0) aNil)) (wChain cLeT cLeT (wC (.int 0)) (wVar 0) (wC c_LAST_HOUR))))
theorem Z3K:∀ts Q,Z17 ts Q->Z1P {nx:=fun _=>Q .non,rt:=Q} (startT 1 ts):=by
 rintro _ Q ⟨t,rfl,ne,h⟩
 unfold Z1P
 walk_at "go"
 refine⟨t,rfl,ne,?_⟩
 cases e:isWh t with
 | false =>
  have z:hourOk t=false:=by cases t<;>first|rfl|cases e
  rw[z]at h
  walk_at "go"
  exact h
 | true =>
  obtain⟨i,rfl⟩:=wh_int e
  simp only[hourOk]at h
  walk_at "go"
  refine⟨fun c=>?_,fun c=>?_⟩
  ·rw[show decide (0<=i)=true from c,Bool.true_and]at h
   exact h
  ·rw[show decide (0<=i)=false from c,Bool.false_and]at h
   exact h
def zeroT:T->Bool
 | .tup [.int a,.int b,.int c]=>decide (a=0/\b=0/\c=0)
 | _=>false
def dirOk(t:T):Bool:=triOk t && !zeroT t
def Z09:SpT:=fun ts Q=>∃t,ts=[t]/\TriIn t/\Q (.bl (dirOk t))
theorem Z22:∀ts Q,Z09 ts Q->ts.length=1:=by rintro ts Q ⟨_,e,_⟩;subst e;rfl
def Z0A:WS :=
 (sRet (wAndV (wCall Z03 (aCons (wVar 0) aNil)) (wCmp cNeT (wVar 0) (wC c_NOUGHT))))
theorem eqT_tri0(a b c:Int):eqT (tri a b c) (tri 0 0 0)=decide (a=0/\b=0/\c=0):=by
 rw[eqTg,eqTj,eqTj,eqTj,eqTe,eqTe,eqTe,eqTi,Bool.and_true]
 by_cases h1:a=0<;>by_cases h2:b=0<;>by_cases h3:c=0<;>simp[h1,h2,h3]
theorem Z24:∀ts Q,Z09 ts Q->Z0A {nx:=fun _=>Q .non,rt:=Q} (startT 1 ts):=by
 rintro _ Q ⟨t,rfl,ti,h⟩
 unfold dirOk at h
 unfold Z0A
 walk_at "go"
 refine⟨t,rfl,ti,?_⟩
 cases e:triOk t with
 | false =>
  rw[e]at h
  walk_at "go"
  exact h
 | true =>
  rw[e]at h
  obtain⟨a,b,c,rfl⟩:=triW_yes (t:=t) (by cases q:triW t with|true=>rfl|false=>rw[triOk_no q]at e;cases e)
  refine⟨fun _=>?_,fun z=>by cases z⟩
  refine⟨eqOk_tup [a,b,c] [0,0,0],?_⟩
  show Q (.bl (!eqT (tri a b c) (tri 0 0 0)))
  rw[eqT_tri0]
  exact h
def RowIn(t:T):Prop:=noExc t/\∀a b,t=.tup [a,b]->noExc a/\TriIn b
def rowOk:T->Bool
 | .tup [a,b]=>hourOk a&&dirOk b
 | _=>false
def Z0i:SpT:=fun ts Q=>∃t,ts=[t]/\RowIn t/\Q (.bl (rowOk t))
theorem Z2w:∀ts Q,Z0i ts Q->ts.length=1:=by rintro ts Q ⟨_,e,_⟩;subst e;rfl
def Z14:WS :=
 (sSeq (sIf (tOrT (tNotT (tVal (wIsi .tuple (wVar 0)))) (tCmpT cNeT (wCB rLenT (aCons (wVar 0) aNil)) (wC (.int 2)))) (sRet (wC (.bl false))) sNext)
  (sRet (wAndV (wCall Z17 (aCons (w2 rIxTT (wVar 0) (wC (.int 0))) aNil)) (wCall Z09 (aCons (w2 rIxTT (wVar 0) (wC (.int 1))) aNil)))))
theorem Z2F:∀ts Q,Z0i ts Q->Z14 {nx:=fun _=>Q .non,rt:=Q} (startT 1 ts):=by
 rintro _ Q ⟨t,rfl,⟨ne,hi⟩,h⟩
 unfold Z14
 by_cases ht:∃us,t=.tup us
 ·obtain⟨us,rfl⟩:=ht
  match us,hi,h with
  | [],_,h=>walk_at "tw"; simpa [rowOk] using h
  | [_],_,h=>walk_at "tw"; simpa [rowOk] using h
  | x::y::z::us,_,h =>
   walk_at "tw"
   refine⟨fun z=>(by cases z),fun _=>⟨fun _=>h,fun z=>?_⟩⟩
   simp at z
   omega
  | [x,y],hi,h =>
   obtain⟨nx,ty⟩:=hi x y rfl
   simp only[rowOk]at h
   walk_at "go"
   refine⟨x,rfl,nx,?_⟩
   cases e:hourOk x with
   | false =>
    rw[e]at h
    walk_at "go"
    exact h
   | true =>
    rw[e]at h
    walk_at "go"
    exact⟨y,rfl,ty,h⟩
 ·walk_at "tw"
  refine⟨ne,?_⟩
  cases t<;>first|exact(ht ⟨_,rfl⟩).elim|(simpa [isK,rowOk] using h)
def hrT:T->Int
 | .tup [.int i,_]=>i
 | _=>0
def badAt:Int->Nat->List T->Option Nat
 | _,_,[]=>none
 | l,n,r::rs=>if rowOk r&&decide (l < hrT r) then badAt (hrT r) (n + 1) rs else some n
theorem bad_no{l:Int}{n:Nat}{r:T}{rs:List T}(h:rowOk r=false∨¬ l < hrT r):badAt l n (r::rs)=some n:=by
 have e:(rowOk r&&decide (l < hrT r))=false:=by
  rcases h with h|h
  ·rw[h,Bool.false_and]
  ·rw[decide_eq_false h,Bool.and_false]
 simp only[badAt,e]
 rfl
theorem bad_yes{l i:Int}{n:Nat}{d:T}{rs:List T}(h:rowOk (.tup [.int i,d])=true)(hl:l < i):badAt l n (.tup [.int i,d]::rs)=badAt i (n + 1) rs:=by
 have e:(rowOk (.tup [.int i,d])&&decide (l < hrT (.tup [.int i,d])))=true:=by rw[h,Bool.true_and];exact decide_eq_true hl
 rw[badAt,e]
 rfl
def sunBad:T->Option T
 | .lst rs=>if 1<=rs.length/\rs.length<=80 then (match badAt (-1) 0 rs with|none=>none|some n=>some (.int ((n:Nat):Int))) else some .non
 | _=>some .non
def SunIn(t:T):Prop:=noExc t/\∀rs,t=.lst rs->∀r∈rs,RowIn r
abbrev noSun(f:T):T:=.exf "NoSun" "at" f
theorem row_yes{r:T}(h:rowOk r=true):∃(i:Int) (d:T),r=.tup [.int i,d]/\0<=i/\i<=9999/\dirOk d=true:=by
 unfold rowOk at h
 split at h
 ·rename_i a b
  rw[Bool.and_eq_true]at h
  unfold hourOk at h
  cases a with
  | int i =>
   have h1:=h.1
   simp only[Bool.and_eq_true,decide_eq_true_eq]at h1
   exact⟨i,b,rfl,h1.1,h1.2,h.2⟩
  | _=>cases h.1
 ·cases h
theorem log_nat{n:Nat}(h:n<=100):(((n:Nat):Int)).natAbs.log2 < 1920:=by
 rw[Int.natAbs_natCast]
 by_cases z:n=0
 ·rw[z];decide
 ·refine Nat.lt_of_le_of_lt (Nat.log2_le_self n) (by omega)
def Z0L:SpX:=fun R ts Q=>∃t,ts=[t]/\SunIn t/\(match sunBad t with|none=>Q .non|some f=>R (noSun f))
theorem Z2G:∀R ts Q,Z0L R ts Q->ts.length=1:=fun R ts Q ⟨_,e,_⟩=>by subst e;rfl
def Z04(R:T->Prop):WS :=
 (sSeq (sIf (tOrT (tNotT (tVal (wCall Z0i (aCons (wVar 3) aNil)))) (tCmpT cLeT (w2 rIxTT (wVar 3) (wC (.int 0))) (wVar 1))) (sRaiseF R "NoSun" "at" (wVar 2)) sNext)
  (sSet 1 (w2 rIxTT (wVar 3) (wC (.int 0)))))
def Z1z(R:T->Prop):WS :=
 (sSeq (sIf (tOrT (tNotT (tVal (wIsi .list (wVar 0)))) (tNotT (tChainT cLeT cLeT (wC (.int 1)) (wCB rLenT (aCons (wVar 0) aNil)) (wC c_MOST_HOURS)))) (sRaiseF R "NoSun" "at" (wC .non)) sNext)
  (sSeq (sSet 1 (wNeg (wC (.int 1))))
  (sFor (iEnum (aCons (wVar 0) aNil)) (gT 2 (gsC (gN 2) (gsC (gN 3) gs0))) (Z04 R))))
theorem look_loop{R Q:T->Prop}{x:Slot}:∀(rs:List T)(n:Nat)(l:Int)(s2 s3:Slot),n + rs.length<=80->(∀r∈rs,RowIn r)->(match badAt l n rs with|none=>Q .non|some f=>R (noSun (.int (f:Int)))) →
  forT (gT 2 (gsC (gN 2) (gsC (gN 3) gs0))) (Z04 R) (enumT n rs) {nx:=fun _=>Q .non,rt:=Q} [x,.val (.int l),s2,s3]
 | [],n,l,s2,s3,_,_,h=>by
  simp only[enumT,forT]
  exact h
 | r::rs,n,l,s2,s3,hl,hi,h=>by
  have ih:=fun l s2 s3=>look_loop (R:=R) (Q:=Q) (x:=x) rs (n + 1) l s2 s3 (by simp at hl;omega) fun r hr=>hi r (List.mem_cons_of_mem _ hr)
  have hr:=hi r List.mem_cons_self
  have lg:(((n:Nat):Int)).natAbs.log2 < 1920:=log_nat (by simp at hl;omega)
  simp only[enumT,forT]
  generalize forT (gT 2 (gsC (gN 2) (gsC (gN 3) gs0))) (Z04 R) (enumT (n + 1) rs) {nx:=fun _=>Q .non,rt:=Q}=F at ih ⊢
  unfold Z04
  walk_at "go"
  refine⟨r,rfl,hr,?_⟩
  cases e:rowOk r with
  | false =>
   rw[bad_no (.inl e)]at h
   walk_at "go"
   exact h
  | true =>
   obtain⟨i,d,rfl,h0,h1,hd⟩:=row_yes e
   walk_at "go"
   refine⟨fun c=>?_,fun c=>?_⟩
   ·have c':¬ l < i:=by have:=of_decide_eq_true c;omega
    rw[bad_no (.inr c')]at h
    walk_at "go"
    exact h
   ·have c':l < i:=by have:=of_decide_eq_false c;omega
    rw[bad_yes e c']at h
    walk_at "go"
    exact ih _ _ _ h
theorem Z2R:∀R ts Q,Z0L R ts Q->Z1z R {nx:=fun _=>Q .non,rt:=Q} (startT 4 ts):=by
 rintro R _ Q ⟨t,rfl,⟨ne,hi⟩,h⟩
 unfold Z1z
 obtain⟨W0,hW0⟩:∃W,W=Z04 R:=⟨_,rfl⟩
 rw[← hW0]
 by_cases ht:∃rs,t=.lst rs
 ·obtain⟨rs,rfl⟩:=ht
  simp only[sunBad]at h
  by_cases hb:1<=rs.length/\rs.length<=80
  ·rw[if_pos hb]at h
   have d1:decide ((1:Int)<=(rs.length:Int))=true:=decide_eq_true (by omega)
   have d2:decide ((rs.length:Int)<=80)=true:=decide_eq_true (by omega)
   walk_at "tw"
   rw[d1,d2]
   refine⟨(fun z=>by cases z),fun _=>⟨fun _=>⟨(fun z=>by cases z),fun _=>?_⟩,fun z=>by cases z⟩⟩
   rw[hW0]
   refine look_loop rs 0 (-1) _ _ (by omega) (hi rs rfl) ?_
   cases e:badAt (-1) 0 rs with
   | none=>rw[e]at h;exact h
   | some n=>rw[e]at h;exact h
  ·rw[if_neg hb]at h
   have h2:FldT .non/\R (noSun .non):=⟨trivial,h⟩
   walk_at "tw"
   refine⟨(fun z=>by cases z),fun _=>⟨fun c=>⟨fun _=>h2,fun c2=>?_⟩,fun _=>⟨fun _=>h2,fun z=>by cases z⟩⟩⟩
   have c1:=of_decide_eq_true c
   have c2':decide ((rs.length:Int)<=80)=true:=by simpa using c2
   have c3:=of_decide_eq_true c2'
   exact absurd ⟨by omega,by omega⟩ hb
 ·have hn:sunBad t=some .non:=by
   cases t<;>first|rfl|exact(ht ⟨_,rfl⟩).elim
  rw[hn]at h
  have h2:FldT .non/\R (noSun .non):=⟨trivial,h⟩
  walk_at "tw"
  refine⟨ne,?_⟩
  cases t<;>first|exact(ht ⟨_,rfl⟩).elim|(simpa [isK] using h2)
abbrev subT(a b:Tr):Tr:=(a.1 - b.1,a.2.1 - b.2.1,a.2.2 - b.2.2)
def trOf:T->Tr
 | .tup [.int a,.int b,.int c]=>(a,b,c)
 | _=>(0,0,0)
def plOf:T->Pl
 | .tup [x,y,z]=>(trOf x,trOf y,trOf z)
 | _=>((0,0,0),(0,0,0),(0,0,0))
theorem triOk_yes{t:T}(h:triOk t=true):∃d:Tr,t=trT d/\LimT 10 d:=by
 have hw:triW t=true:=by
  cases e:triW t with
  | true=>rfl
  | false=>rw[triOk_no e]at h;cases h
 obtain⟨a,b,c,rfl⟩:=triW_yes hw
 simp only[triOk,numOk,Bool.and_eq_true,decide_eq_true_eq]at h
 have la:Lim 10 a:=Lim.of (by omega) (by omega)
 have lb:Lim 10 b:=Lim.of (by omega) (by omega)
 have lc:Lim 10 c:=Lim.of (by omega) (by omega)
 exact⟨(a,b,c),rfl,la,lb,lc⟩
def Z0T:SpT:=fun ts Q=>∃a b:Tr,ts=[trT a,trT b]/\LimT 10 a/\LimT 10 b/\Q (trT (crs a b))
theorem Z38:∀ts Q,Z0T ts Q->ts.length=2:=by rintro ts Q ⟨_,_,e,_⟩;subst e;rfl
def Z1E:WS :=
 (sRet (wTup (aCons (w2 rSubT (w2 rMulT (w2 rIxTT (wVar 0) (wC (.int 1))) (w2 rIxTT (wVar 1) (wC (.int 2)))) (w2 rMulT (w2 rIxTT (wVar 0) (wC (.int 2))) (w2 rIxTT (wVar 1) (wC (.int 1))))) (aCons (w2 rSubT (w2 rMulT (w2 rIxTT (wVar 0) (wC (.int 2))) (w2 rIxTT (wVar 1) (wC (.int 0)))) (w2 rMulT (w2 rIxTT (wVar 0) (wC (.int 0))) (w2 rIxTT (wVar 1) (wC (.int 2))))) (aCons (w2 rSubT (w2 rMulT (w2 rIxTT (wVar 0) (wC (.int 0))) (w2 rIxTT (wVar 1) (wC (.int 1)))) (w2 rMulT (w2 rIxTT (wVar 0) (wC (.int 1))) (w2 rIxTT (wVar 1) (wC (.int 0))))) aNil)))))
theorem Z3r:∀ts Q,Z0T ts Q->Z1E {nx:=fun _=>Q .non,rt:=Q} (startT 2 ts):=by
 rintro _ Q ⟨a,b,rfl,la,lb,h⟩
 obtain⟨a1,a2,a3⟩:=la
 obtain⟨b1,b2,b3⟩:=lb
 unfold Z1E
 walk_at "go"
 exact h
def Z0r:SpT:=fun ts Q=>∃p:Pl,ts=[plT p]/\PlLim 10 p/\Q (trT (crs p.2.1 p.2.2))
theorem Z39:∀ts Q,Z0r ts Q->ts.length=1:=by rintro ts Q ⟨_,e,_⟩;subst e;rfl
def Z1F:WS :=
 (sRet (wCall Z0T (aCons (w2 rIxTT (wVar 0) (wC (.int 1))) (aCons (w2 rIxTT (wVar 0) (wC (.int 2))) aNil))))
theorem Z3s:∀ts Q,Z0r ts Q->Z1F {nx:=fun _=>Q .non,rt:=Q} (startT 1 ts):=by
 rintro _ Q ⟨p,rfl,lp,h⟩
 unfold Z1F
 walk_at "go"
 exact⟨p.2.1,p.2.2,rfl,lp.2.1,lp.2.2,h⟩
def Z0m:SpT:=fun ts Q=>∃a b:Tr,ts=[trT a,trT b]/\Q (trT (subT a b))
theorem Z2H:∀ts Q,Z0m ts Q->ts.length=2:=by rintro ts Q ⟨_,_,e,_⟩;subst e;rfl
def Z1f:WS :=
 (sRet (wTup (aCons (w2 rSubT (w2 rIxTT (wVar 0) (wC (.int 0))) (w2 rIxTT (wVar 1) (wC (.int 0)))) (aCons (w2 rSubT (w2 rIxTT (wVar 0) (wC (.int 1))) (w2 rIxTT (wVar 1) (wC (.int 1)))) (aCons (w2 rSubT (w2 rIxTT (wVar 0) (wC (.int 2))) (w2 rIxTT (wVar 1) (wC (.int 2)))) aNil)))))
theorem Z2S:∀ts Q,Z0m ts Q->Z1f {nx:=fun _=>Q .non,rt:=Q} (startT 2 ts):=by
 rintro _ Q ⟨a,b,rfl,h⟩
 unfold Z1f
 walk_at "go"
 exact h
def Z1g:SpT:=fun ts Q=>∃a b:Tr,ts=[trT a,trT b]/\LimT 30 a/\LimT 30 b/\Q (.int (dotI a b))
theorem Z3L:∀ts Q,Z1g ts Q->ts.length=2:=by rintro ts Q ⟨_,_,e,_⟩;subst e;rfl
def Z2f:WS :=
 (sRet (w2 rAddT (w2 rAddT (w2 rMulT (w2 rIxTT (wVar 0) (wC (.int 0))) (w2 rIxTT (wVar 1) (wC (.int 0)))) (w2 rMulT (w2 rIxTT (wVar 0) (wC (.int 1))) (w2 rIxTT (wVar 1) (wC (.int 1))))) (w2 rMulT (w2 rIxTT (wVar 0) (wC (.int 2))) (w2 rIxTT (wVar 1) (wC (.int 2))))))
theorem Z3X:∀ts Q,Z1g ts Q->Z2f {nx:=fun _=>Q .non,rt:=Q} (startT 2 ts):=by
 rintro _ Q ⟨a,b,rfl,la,lb,h⟩
 obtain⟨a1,a2,a3⟩:=la
 obtain⟨b1,b2,b3⟩:=lb
 unfold Z2f
 walk_at "go"
 exact h
def aheadB(p:Pl)(t:Tr):Bool:=decide (0 < dotI (crs p.2.1 p.2.2) (subT t p.1))
theorem lim_sub{k n:Nat}{a b:Tr}(ha:LimT k a)(hb:LimT k b)(hn:k + 1<=n):LimT n (subT a b):=by
 have z:∀{p q:Int},Lim k p->Lim k q->Lim n (p - q):=fun hp hq=>(hp.sub hq).mono (by simp;omega)
 exact⟨z ha.1 hb.1,z ha.2.1 hb.2.1,z ha.2.2 hb.2.2⟩
def Z0U:SpT:=fun ts Q=>∃(p:Pl) (t:Tr),ts=[plT p,trT t]/\PlLim 10 p/\LimT 10 t/\Q (.bl (aheadB p t))
theorem Z3a:∀ts Q,Z0U ts Q->ts.length=2:=by rintro ts Q ⟨_,_,e,_⟩;subst e;rfl
def Z1G:WS :=
 (sRet (wCmp cGtT (wCall Z1g (aCons (wCall Z0r (aCons (wVar 0) aNil)) (aCons (wCall Z0m (aCons (wVar 1) (aCons (w2 rIxTT (wVar 0) (wC (.int 0))) aNil))) aNil))) (wC (.int 0))))
theorem Z3t:∀ts Q,Z0U ts Q->Z1G {nx:=fun _=>Q .non,rt:=Q} (startT 2 ts):=by
 rintro _ Q ⟨p,t,rfl,lp,lt,h⟩
 unfold Z1G
 walk_at "go"
 refine⟨p,rfl,lp,?_⟩
 walk_at "go"
 refine⟨t,p.1,rfl,?_⟩
 walk_at "go"
 refine⟨_,_,rfl,lim_crs lp.2.1 lp.2.2 (by decide),lim_sub lt lp.1 (by decide),?_⟩
 walk_at "go"
 exact h
def platOk:T->Bool
 | .tup [x,y,z]=>triOk x&&(triOk y&&(triOk z && !decide (crs (trOf y) (trOf z)=(0,0,0))))
 | _=>false
theorem platOk_yes{t:T}(h:platOk t=true):∃p:Pl,t=plT p/\PlLim 10 p:=by
 unfold platOk at h
 split at h
 ·simp only[Bool.and_eq_true]at h
  obtain⟨a,rfl,la⟩:=triOk_yes h.1
  obtain⟨b,rfl,lb⟩:=triOk_yes h.2.1
  obtain⟨c,rfl,lc⟩:=triOk_yes h.2.2.1
  exact⟨(a,b,c),rfl,la,lb,lc⟩
 ·cases h
def PlIn(t:T):Prop:=noExc t/\∀x y z,t=.tup [x,y,z]->TriIn x/\TriIn y/\TriIn z
def Z0s:SpX:=fun R ts Q=>∃t,ts=[t]/\PlIn t/\(platOk t=true->Q .non)/\(platOk t=false->R (.exc "NoPlate"))
theorem Z2n:∀R ts Q,Z0s R ts Q->ts.length=1:=fun R ts Q ⟨_,e,_⟩=>by subst e;rfl
def Z0B(R:T->Prop):WS :=
 (sIf (tNotT (tVal (wCall Z03 (aCons (wVar 1) aNil)))) (sRaise R "NoPlate") sNext)
def Z1h(R:T->Prop):WS :=
 (sSeq (sIf (tOrT (tNotT (tVal (wIsi .tuple (wVar 0)))) (tCmpT cNeT (wCB rLenT (aCons (wVar 0) aNil)) (wC (.int 3)))) (sRaise R "NoPlate") sNext)
  (sSeq (sFor (iSeq (wVar 0)) (gN 1) (Z0B R))
  (sIf (tCmpT cEqT (wCall Z0r (aCons (wVar 0) aNil)) (wC c_NOUGHT)) (sRaise R "NoPlate") sNext)))
theorem Z2x:∀R ts Q,Z0s R ts Q->Z1h R {nx:=fun _=>Q .non,rt:=Q} (startT 2 ts):=by
 rintro R _ Q ⟨t,rfl,⟨ne,hi⟩,hq,hr⟩
 simp only[Z1h,Z0B]
 by_cases ht:∃us,t=.tup us
 ·obtain⟨us,rfl⟩:=ht
  match us,hi,hq,hr with
  | [],_,_,hr=>have:=hr rfl;walk_at "tw"; simpa using this
  | [_],_,_,hr=>have:=hr rfl;walk_at "tw"; simpa using this
  | [_,_],_,_,hr=>have:=hr rfl;walk_at "tw"; simpa using this
  | x::y::z::z'::us,_,_,hr =>
   have:=hr rfl
   walk_at "tw"
   refine⟨fun z=>(by cases z),fun _=>⟨fun _=>this,fun z=>?_⟩⟩
   simp at z
   omega
  | [x,y,z],hi,hq,hr =>
   obtain⟨tx,ty,tz⟩:=hi x y z rfl
   simp only[platOk]at hq hr
   walk_at "tw"
   refine⟨fun z=>(by cases z),fun _=>⟨fun z=>by simp at z,fun _=>?_⟩⟩
   simp only[forT]
   walk_at "tw"
   refine⟨x,rfl,tx,fun hx=>hr ?_,fun hx=>⟨y,rfl,ty,fun hy=>hr ?_,fun hy=>⟨z,rfl,tz,fun hz=>hr ?_,fun hz=>?_⟩⟩⟩
   ·have:triOk x=false:=by simpa using hx
    simp[this]
   ·have:triOk y=false:=by simpa using hy
    simp[this]
   ·have:triOk z=false:=by simpa using hz
    simp[this]
   ·have hx':triOk x=true:=by simpa using hx
    have hy':triOk y=true:=by simpa using hy
    have hz':triOk z=true:=by simpa using hz
    rw[hx',hy',hz']at hq hr
    obtain⟨a,rfl,la⟩:=triOk_yes hx'
    obtain⟨b,rfl,lb⟩:=triOk_yes hy'
    obtain⟨c,rfl,lc⟩:=triOk_yes hz'
    simp only[Bool.true_and,trOf]at hq hr
    refine⟨(a,b,c),rfl,⟨la,lb,lc⟩,?_⟩
    refine⟨eqOk_tri _ _ _ _ _ _,?_⟩
    have e:eqT (trT (crs b c)) (trT (0,0,0))=decide (crs b c=(0,0,0)):=eqT_tr _ _
    refine⟨fun z=>hr ?_,fun z=>hq ?_⟩
    ·have z':decide (crs b c=(0,0,0))=true:=e.symm.trans z
     show (!decide (crs b c=(0,0,0)))=false
     rw[z'];rfl
    ·have z':decide (crs b c=(0,0,0))=false:=e.symm.trans z
     show (!decide (crs b c=(0,0,0)))=true
     rw[z'];rfl
 ·have:=hr (by unfold platOk;split<;>first|exact(ht ⟨_,rfl⟩).elim|rfl)
  walk_at "tw"
  refine⟨ne,?_⟩
  cases t<;>first|exact(ht ⟨_,rfl⟩).elim|(simpa [isK] using this)
def Z0V:SpT:=fun ts Q=>∃t,ts=[t]/\PlIn t/\Q (.bl (platOk t))
theorem Z3b:∀ts Q,Z0V ts Q->ts.length=1:=by rintro ts Q ⟨_,e,_⟩;subst e;rfl
def Z25:WS :=
 (sSeq (sTryF (fun R=>(sExpr (wCall (Z0s R) (aCons (wVar 0) aNil)))) false ["NoPlate"])
  (sRet (wC (.bl true))))
theorem Z3u:∀ts Q,Z0V ts Q->Z25 {nx:=fun _=>Q .non,rt:=Q} (startT 1 ts):=by
 rintro _ Q ⟨t,rfl,hp,h⟩
 unfold Z25
 walk_at "go"
 refine⟨t,rfl,hp,fun e=>?_,fun e=>?_⟩
 ·rw[e]at h
  walk_at "go"
  exact h
 ·rw[e]at h
  exact⟨List.mem_singleton.mpr rfl,h⟩
def Z1i:SpT:=fun ts Q=>∃(p:Pl) (x:T),ts=[plT p,x]/\PlLim 10 p/\TriIn x/\Q (.bl (triOk x&&aheadB p (trOf x)))
theorem Z3M:∀ts Q,Z1i ts Q->ts.length=2:=by rintro ts Q ⟨_,_,e,_⟩;subst e;rfl
def Z2g:WS :=
 (sRet (wAndV (wCall Z03 (aCons (wVar 1) aNil)) (wCall Z0U (aCons (wVar 0) (aCons (wVar 1) aNil)))))
theorem Z3Y:∀ts Q,Z1i ts Q->Z2g {nx:=fun _=>Q .non,rt:=Q} (startT 2 ts):=by
 rintro _ Q ⟨p,x,rfl,lp,tx,h⟩
 unfold Z2g
 walk_at "go"
 refine⟨x,rfl,tx,?_⟩
 cases e:triOk x with
 | false =>
  rw[e]at h
  walk_at "go"
  exact h
 | true =>
  rw[e]at h
  obtain⟨d,rfl,ld⟩:=triOk_yes e
  walk_at "go"
  exact⟨p,d,rfl,lp,ld,h⟩
def stand:T->Bool
 | .tup [_,p]=>platOk p
 | .tup [_,p,x]=>platOk p&&(triOk x&&aheadB (plOf p) (trOf x))
 | _=>false
inductive ThS:T->Prop where
 | two (a p:T) (h:PlIn p):ThS (.tup [a,p])
 | three (a p x:T) (h:PlIn p) (hx:TriIn x):ThS (.tup [a,p,x])
def Z0u:SpT:=fun ts Q=>∃t,ts=[t]/\ThS t/\Q (.bl (stand t))
theorem Z2Y:∀ts Q,Z0u ts Q->ts.length=1:=by rintro ts Q ⟨_,e,_⟩;subst e;rfl
def Z1v:WS :=
 (sSeq (sIf (tNotT (tVal (wCall Z0V (aCons (w2 rIxTT (wVar 0) (wC (.int 1))) aNil)))) (sRet (wC (.bl false))) sNext)
  (sRet (wOrV (wCmp cEqT (wCB rLenT (aCons (wVar 0) aNil)) (wC (.int 2))) (wCall Z1i (aCons (w2 rIxTT (wVar 0) (wC (.int 1))) (aCons (w2 rIxTT (wVar 0) (wC (.int 2))) aNil))))))
theorem Z3c:∀ts Q,Z0u ts Q->Z1v {nx:=fun _=>Q .non,rt:=Q} (startT 1 ts):=by
 rintro _ Q ⟨t,rfl,ht,h⟩
 unfold Z1v
 cases ht with
 | two a p hp =>
  simp only[stand]at h
  walk_at "go"
  refine⟨p,rfl,hp,?_⟩
  cases e:platOk p with
  | false =>
   rw[e]at h
   walk_at "go"
   exact h
  | true =>
   rw[e]at h
   walk_at "go"
   exact h
 | three a p x hp hx =>
  simp only[stand]at h
  walk_at "go"
  refine⟨p,rfl,hp,?_⟩
  cases e:platOk p with
  | false =>
   rw[e]at h
   walk_at "go"
   exact h
  | true =>
   rw[e]at h
   obtain⟨q,rfl,lq⟩:=platOk_yes e
   walk_at "go"
   exact⟨q,x,rfl,lq,hx,h⟩
abbrev chS(c:Nat):Str:=⟨#[c]⟩
def isLet(c:Nat):Bool:=decide (97<=c)&&decide (c<=122)
def nmB(s:Str):Bool:=decide (1<=s.length)&&(decide (s.length<=8)&&s.cps.toList.all isLet)
def nmOf:T->Option Str
 | .str s=>if nmB s then some s else none
 | _=>none
def NmIn(t:T):Prop:=noExc t/\∀s,t=.str s->s.cps.all (· < 128)=true/\s.length<=1000
abbrev wLet:WE:=wChain cLeS cLeS (wC (.str (Str.ofString "a"))) (wVar 0) (wC (.str (Str.ofString "z")))
theorem le_let(c:Nat):(!(decide ((chS c).cps.toList < (Str.ofString "a").cps.toList)))=decide (97<=c)/\(!(decide ((Str.ofString "z").cps.toList < (chS c).cps.toList)))=decide (c<=122):=by
 have e1:(Str.ofString "a").cps.toList=[97]:=by decide +kernel
 have e2:(Str.ofString "z").cps.toList=[122]:=by decide +kernel
 rw[e1,e2]
 have k1:([c] < [97]) ↔ c < 97:=by
  rw[List.cons_lt_cons_iff]
  exact⟨fun k=>k.elim id fun q=>absurd q.2 (by simp),.inl⟩
 have k2:([122] < [c]) ↔ 122 < c:=by
  rw[List.cons_lt_cons_iff]
  exact⟨fun k=>k.elim id fun q=>absurd q.2 (by simp),.inl⟩
 refine⟨?_,?_⟩
 ·show (!(decide ([c] < [97])))=_
  by_cases z:c < 97
  ·rw[decide_eq_true (k1.mpr z),decide_eq_false (by omega)];rfl
  ·rw[decide_eq_false (fun q=>z (k1.mp q)),decide_eq_true (by omega)];rfl
 ·show (!(decide ([122] < [c])))=_
  by_cases z:122 < c
  ·rw[decide_eq_true (k2.mpr z),decide_eq_false (by omega)];rfl
  ·rw[decide_eq_false (fun q=>z (k2.mp q)),decide_eq_true (by omega)];rfl
theorem let_comp{Q:List T->Prop}:∀(cs:List Nat)(acc:List T)(s:Slot),Q (acc++cs.map fun c=>T.bl (isLet c))->compT (gN 0) tTrue wLet (cs.map fun c=>.str (chS c)) acc [s] Q
 | [],acc,s,h=>by
  simp only[List.map_nil,List.append_nil]at h
  exact h
 | c::r,acc,s,h=>by
  have ih:=fun (acc:List T) (s:Slot) h=>let_comp (Q:=Q) r acc s h
  obtain⟨k1,k2⟩:=le_let c
  simp only[List.map,compT]
  generalize compT (gN 0) tTrue wLet (r.map fun c=>.str (chS c))=F at ih ⊢
  walk_at "tw"
  rw[k1,k2]
  have h':Q (acc++[T.bl (isLet c)]++r.map fun c=>T.bl (isLet c)):=by simpa using h
  unfold isLet at h'
  refine⟨fun _=>⟨fun e=>?_,fun e=>?_⟩,fun z=>by cases z⟩
  ·rw[e,Bool.true_and]at h'
   exact ih _ _ h'
  ·rw[e,Bool.false_and]at h'
   exact ih _ _ h'
theorem boolsOf_map:∀cs:List Nat,boolsOf (cs.map fun c=>T.bl (isLet c))=some (cs.map isLet)
 | []=>rfl
 | c::r=>by simp only[List.map,boolsOf,boolsOf_map r,Option.map]
def Z18:SpT:=fun ts Q=>∃t,ts=[t]/\NmIn t/\Q (.bl (nmOf t).isSome)
theorem Z3v:∀ts Q,Z18 ts Q->ts.length=1:=by rintro ts Q ⟨_,e,_⟩;subst e;rfl
abbrev c_LONGEST_NAME:T:=.int 8
def Z2o:WS :=
 (sSeq (sIf (tOrT (tNotT (tVal (wIsi .str (wVar 0)))) (tNotT (tChainT cLeT cLeT (wC (.int 1)) (wCB rLenST (aCons (wVar 0) aNil)) (wC c_LONGEST_NAME)))) (sRet (wC (.bl false))) sNext)
  (sRet (wCB rAllT (aCons (wComp (iStr (wVar 0)) (gN 0) tTrue (wChain cLeS cLeS (wC (.str (Str.ofString "a"))) (wVar 0) (wC (.str (Str.ofString "z")))) 1 []) aNil))))
theorem nm_no{s:Str}(h:¬ (1<=s.length/\s.length<=8)):nmOf (.str s)=none:=by
 have:nmB s=false:=by
  unfold nmB
  by_cases z:1<=s.length
  ·rw[decide_eq_false (show ¬ s.length<=8 by omega),Bool.false_and,Bool.and_false]
  ·rw[decide_eq_false z,Bool.false_and]
 show (if nmB s=true then some s else none)=none
 rw[this]
 rfl
theorem nm_all{s:Str}(h:1<=s.length/\s.length<=8):(nmOf (.str s)).isSome=s.cps.toList.all isLet:=by
 have:nmB s=s.cps.toList.all isLet:=by
  unfold nmB
  rw[decide_eq_true h.1,decide_eq_true h.2,Bool.true_and,Bool.true_and]
 show (if nmB s=true then some s else none).isSome=_
 rw[this]
 cases s.cps.toList.all isLet<;>rfl
theorem nm_not{t:T}(h:∀s,t ≠ .str s):nmOf t=none:=by
 cases t<;>first|rfl|exact absurd rfl (h _)
theorem Z3N:∀ts Q,Z18 ts Q->Z2o {nx:=fun _=>Q .non,rt:=Q} (startT 1 ts):=by
 rintro _ Q ⟨t,rfl,⟨ne,hi⟩,h⟩
 unfold Z2o
 obtain⟨W0,hW0⟩:∃W,W=wLet:=⟨_,rfl⟩
 rw[show wChain cLeS cLeS (wC (.str (Str.ofString "a"))) (wVar 0) (wC (.str (Str.ofString "z")))=wLet from rfl,← hW0]
 by_cases ht:∃s,t=.str s
 ·obtain⟨s,rfl⟩:=ht
  obtain⟨asc,l3⟩:=hi s rfl
  have sz:s.cps.toList.length<=1000:=by simpa [Str.length] using l3
  by_cases hb:1<=s.length/\s.length<=8
  ·have e1:decide ((1:Int)<=(s.length:Int))=true:=decide_eq_true (by omega)
   have e2:decide ((s.length:Int)<=8)=true:=decide_eq_true (by omega)
   rw[nm_all hb]at h
   walk_at "tw"
   rw[e1,e2,hW0]
   refine⟨(fun z=>by cases z),fun _=>⟨l3,fun _=>⟨(fun z=>by cases z),fun _=>⟨asc,by rw[List.length_map];exact sz,?_⟩⟩,(fun z=>by cases z)⟩⟩
   refine let_comp s.cps.toList [] _ ?_
   rw[List.nil_append,boolsOf_map]
   dsimp only
   rw[List.all_map]
   exact h
  ·rw[nm_no hb]at h
   walk_at "tw"
   refine⟨(fun z=>by cases z),fun _=>⟨l3,fun c=>⟨fun _=>h,fun c2=>?_⟩,fun _=>⟨fun _=>h,fun z=>by cases z⟩⟩⟩
   have c1:=of_decide_eq_true c
   have c2':decide ((s.length:Int)<=8)=true:=by simpa using c2
   have c3:=of_decide_eq_true c2'
   exact absurd ⟨by omega,by omega⟩ hb
 ·rw[nm_not fun s e=>ht ⟨s,e⟩]at h
  cases t<;>first|exact(ht ⟨_,rfl⟩).elim|exact ne.elim|(walk_at "go"; exact h)
abbrev c_MOST_OF_A_KIND:T:=.int 20
abbrev noYard(f:T):T:=.exf "NoYard" "name" f
structure ThIn(t:T):Prop where
 ne:noExc t
 two:∀a p,t=.tup [a,p]->NmIn a/\PlIn p
 three:∀a p x,t=.tup [a,p,x]->NmIn a/\PlIn p/\TriIn x
def thNm(n:Int)(i:Nat)(t:T):Option Str:=if i=20 then none else match t with
 | .tup [a,_]=>if n=2 then nmOf a else none
 | .tup [a,_,_]=>if n=3 then nmOf a else none
 | _=>none
theorem thNm_20(n:Int)(t:T):thNm n 20 t=none:=rfl
theorem nmOf_some{t:T}{z:Str}(h:nmOf t=some z):t=.str z/\nmB z=true:=by
 cases t<;>first|cases h|skip
 rename_i s
 have h':(if nmB s=true then some s else none)=some z:=h
 split at h'
 ·rename_i q
  cases h'
  exact⟨rfl,q⟩
 ·cases h'
theorem fld_nm{z:Str}(h:nmB z=true):FldT (.str z):=by
 unfold nmB at h
 simp only[Bool.and_eq_true,decide_eq_true_eq]at h
 have k:=PySem.StrLaws.reprText_len z fun c hc=>by
  have:=List.all_eq_true.mp h.2.2 c hc
  unfold isLet at this
  simp only[Bool.and_eq_true,decide_eq_true_eq]at this
  omega
 show (reprText z).length<=100000
 omega
def kdGo(n:Int):Nat->List Str->List T->Option T×List Str
 | _,Z,[]=>(none,Z)
 | i,Z,t::r=>match thNm n i t with
  | none=>(some .non,Z)
  | some z=>if Z.contains z || !stand t then (some (.str z),Z) else kdGo n (i + 1) (Z++[z]) r
inductive Shp (n:Int) (i:Nat):T->Prop where
 | no {t:T} (ne:noExc t) (h:∀us,t ≠ .tup us):Shp n i t
 | len {us:List T} (h:decide ((us.length:Int)=n)=false) (hn:∀i,thNm n i (.tup us)=none):Shp n i (.tup us)
 | yes {a:T} {r:List T} (h:decide (((a::r).length:Int)=n)=true) (ha:NmIn a) (hs:ThS (.tup (a::r))) (hn:thNm n i (.tup (a::r))=if i=20 then none else nmOf a):Shp n i (.tup (a::r))
theorem shp{n:Int}{i:Nat}{t:T}(hn:n=2∨n=3)(h:ThIn t):Shp n i t:=by
 by_cases ht:∃us,t=.tup us
 ·obtain⟨us,rfl⟩:=ht
  have nn:∀{us:List T},us.length≠2->us.length≠3->∀i,thNm n i (.tup us)=none:=fun {us} h2 h3 i=>by
   unfold thNm
   split
   ·rfl
   ·split
    ·rename_i e;cases e;exact absurd rfl h2
    ·rename_i e;cases e;exact absurd rfl h3
    ·rfl
  match us,h with
  | [],_=>exact .len (decide_eq_false (by simp;omega)) (nn (by simp) (by simp))
  | [_],_=>exact .len (decide_eq_false (by simp;omega)) (nn (by simp) (by simp))
  | x::y::z::z'::us,_=>exact .len (decide_eq_false (by simp;omega)) (nn (by simp) (by simp))
  | [a,p],h =>
   rcases hn with rfl|rfl
   ·exact .yes (decide_eq_true rfl) (h.two a p rfl).1 (.two a p (h.two a p rfl).2) (by unfold thNm;rfl)
   ·refine .len (decide_eq_false (by simp)) fun i=>?_
    unfold thNm
    split<;>rfl
  | [a,p,x],h =>
   rcases hn with rfl|rfl
   ·refine .len (decide_eq_false (by simp)) fun i=>?_
    unfold thNm
    split<;>rfl
   ·exact .yes (decide_eq_true rfl) (h.three a p x rfl).1 (.three a p x (h.three a p x rfl).2.1 (h.three a p x rfl).2.2) (by unfold thNm;rfl)
 ·exact .no h.ne fun us e=>ht ⟨us,e⟩
def KdIn(t:T):Prop:=noExc t/\∀ts,t=.lst ts->ts.length<=100/\∀x∈ts,ThIn x
def kdBad(n:Int)(Z:List Str):T->Option T×List Str
 | .lst ts=>kdGo n 0 Z ts
 | _=>(some .non,Z)
def Z0a:SpX:=fun R ts Q=>∃(t:T) (n:Int) (Z:List Str),ts=[t,.int n,.lst (Z.map T.str)]/\(n=2∨n=3)/\Z.length<=100/\KdIn t ∧
 (match kdBad n Z t with|(none,Z')=>Q (.lst (Z'.map T.str))|(some f,_)=>R (noYard f))
theorem Z23:∀R ts Q,Z0a R ts Q->ts.length=3:=fun R ts Q ⟨_,_,_,e,_⟩=>by subst e;rfl
def Z00(R:T->Prop):WS :=
 (sSeq (sIf (tOrT (tCmpT cEqT (wVar 4) (wC c_MOST_OF_A_KIND)) (tOrT (tNotT (tVal (wIsi .tuple (wVar 5)))) (tCmpT cNeT (wCB rLenT (aCons (wVar 5) aNil)) (wVar 1)))) (sRaiseF R "NoYard" "name" (wC .non)) sNext)
  (sSeq (sIf (tNotT (tVal (wCall Z18 (aCons (w2 rIxTT (wVar 5) (wC (.int 0))) aNil)))) (sRaiseF R "NoYard" "name" (wC .non)) sNext)
  (sSeq (sIf (tFz 3 (tOrT (tCmpT cInT (w2 rIxTT (wVar 5) (wC (.int 0))) (wVar 3)) (tNotT (tVal (wCall Z0u (aCons (wVar 5) aNil)))))) (sRaiseF R "NoYard" "name" (w2 rIxTT (wVar 5) (wC (.int 0)))) sNext)
  (sApp 3 (w2 rIxTT (wVar 5) (wC (.int 0)))))))
def Z12(R:T->Prop):WS :=
 (sSeq (sIf (tNotT (tVal (wIsi .list (wVar 0)))) (sRaiseF R "NoYard" "name" (wC .non)) sNext)
  (sSeq (sOwnW 3 (wCB rListT (aCons (wVar 2) aNil)))
  (sSeq (sFor (iEnum (aCons (wVar 0) aNil)) (gT 2 (gsC (gN 4) (gsC (gN 5) gs0))) (Z00 R))
  (sFrz 3 (sRet (wVar 3))))))
theorem kind_b0{R:T->Prop}{D:DT}{i:Nat}{n:Int}{x:T}{Z:List Str}{s0 s2:Slot}(hn:n=2∨n=3)(hx:ThIn x)(lz:Z.length<=300)
  (h0:thNm n i x=none->R (noYard .non))
  (h1:∀z,thNm n i x=some z->(Z.contains z || !stand x)=true->R (noYard (.str z)))
  (h2:∀z,thNm n i x=some z->(Z.contains z || !stand x)=false->D.nx [s0,.val (.int n),s2,.own ((Z++[z]).map T.str),.val (.int i),.val x]) :
  Z00 R D [s0,.val (.int n),s2,.own (Z.map T.str),.val (.int i),.val x]:=by
 have hlen:(Z.map T.str).length < 1000:=by rw[List.length_map];omega
 unfold Z00
 obtain⟨SP,hSP⟩:∃S,S=Z0u:=⟨_,rfl⟩
 rw[← hSP]
 have st:∀{t:T}{Q:T->Prop},ThS t->Q (.bl (stand t))->SP [t] Q:=fun h q=>by rw[hSP];exact⟨_,rfl,h,q⟩
 clear hSP
 by_cases h20:i=20
 ·subst h20
  have:=h0 (thNm_20 n x)
  walk_at "go"
  exact this
 ·have ni:decide ((i:Int)=20)=false:=decide_eq_false (by omega)
  cases shp (i:=i) hn hx with
  | no ne hno =>
   have q:=h0 (by unfold thNm;rw[if_neg h20];cases x<;>first|rfl|exact absurd rfl (hno _))
   walk_at "go"
   rw[ni]
   cases x<;>first|exact absurd rfl (hno _)|exact ne.elim|(walk_at "go"; exact q)
  | len hl hno =>
   have q:=h0 (hno i)
   walk_at "go"
   rw[ni]
   walk_at "go"
   rw[hl]
   walk_at "go"
   exact q
  | @yes a r hl ha hs hnm =>
   rw[if_neg h20]at hnm
   walk_at "go"
   rw[ni]
   walk_at "go"
   rw[hl]
   walk_at "go"
   rw[atI0]
   walk_at "go"
   refine⟨a,rfl,ha,?_⟩
   cases en:nmOf a with
   | none =>
    have q:=h0 (hnm.trans en)
    walk_at "go"
    exact q
   | some z =>
    obtain⟨rfl,hb⟩:=nmOf_some en
    have fl:=fld_nm hb
    have q1:=h1 z (hnm.trans en)
    have q2:=h2 z (hnm.trans en)
    rw[List.map_append]at q2
    walk_at "go"
    rw[atI0]
    walk_at "go"
    rw[strsOf_map]
    dsimp only
    cases ec:Z.contains z with
    | true =>
     rw[ec]at q1
     try rw[ec]
     walk_at "go"
     rw[atI0]
     exact⟨fl,q1 rfl⟩
    | false =>
     rw[ec]at q1 q2
     try rw[ec]
     walk_at "go"
     refine st hs ?_
     cases es:stand (.tup (.str z::r)) with
     | false =>
      rw[es]at q1
      walk_at "go"
      rw[atI0]
      exact⟨fl,q1 rfl⟩
     | true =>
      rw[es]at q2
      walk_at "go"
      rw[atI0]
      walk_at "go"
      exact q2 rfl
theorem kind_loop{R:T->Prop}{D:DT}{n:Int}{s0 s2:Slot}(hn:n=2∨n=3):∀(ts:List T)(i:Nat)(Z:List Str)(s4 s5:Slot),(∀x∈ts,ThIn x)->Z.length + ts.length<=300 →
  (match kdGo n i Z ts with|(none,Z')=>∀s4 s5,D.nx [s0,.val (.int n),s2,.own (Z'.map T.str),s4,s5]|(some f,_)=>R (noYard f)) →
  forT (gT 2 (gsC (gN 4) (gsC (gN 5) gs0))) (Z00 R) (enumT i ts) D [s0,.val (.int n),s2,.own (Z.map T.str),s4,s5]
 | [],i,Z,s4,s5,_,_,h=>by
  simp only[enumT,forT]
  exact h s4 s5
 | x::r,i,Z,s4,s5,hk,hz,h=>by
  simp only[List.length_cons]at hz
  have ih:=fun (z:Str) s4 s5=>kind_loop (R:=R) (D:=D) (n:=n) (s0:=s0) (s2:=s2) hn r (i + 1) (Z++[z]) s4 s5 (fun t ht=>hk t (List.mem_cons_of_mem _ ht)) (by simp;omega)
  simp only[enumT,forT]
  generalize forT (gT 2 (gsC (gN 4) (gsC (gN 5) gs0))) (Z00 R) (enumT (i + 1) r) D=F at ih ⊢
  obtain⟨W0,hW0⟩:∃W,W=Z00 R:=⟨_,rfl⟩
  rw[← hW0]
  walk_at "go"
  rw[hW0]
  simp only[kdGo]at h
  refine kind_b0 (D:={D with nx:=F,ct:=F,bk:=D.nx}) (i:=i) hn (hk x List.mem_cons_self) (by omega) (fun e=>?_) (fun z e c=>?_) (fun z e c=>?_)
  ·rw[e]at h
   exact h
  ·rw[e]at h
   simp only[c,if_true]at h
   exact h
  ·rw[e]at h
   simp only[c]at h
   exact ih z _ _ h
theorem Z26:∀R ts Q,Z0a R ts Q->Z12 R {nx:=fun _=>Q .non,rt:=Q} (startT 6 ts):=by
 rintro R _ Q ⟨t,n,Z,rfl,hn,lz,⟨ne,hi⟩,q⟩
 unfold Z12
 obtain⟨W0,hW0⟩:∃W,W=Z00 R:=⟨_,rfl⟩
 rw[← hW0]
 by_cases ht:∃ts,t=.lst ts
 ·obtain⟨ts,rfl⟩:=ht
  obtain⟨l1,hx⟩:=hi ts rfl
  have q':(match kdGo n 0 Z ts with|(none,Z')=>Q (.lst (Z'.map T.str))|(some f,_)=>R (noYard f)):=q
  walk_at "go"
  rw[hW0]
  refine kind_loop hn ts 0 Z _ _ hx (by omega) ?_
  cases e:kdGo n 0 Z ts with
  | mk f Z' =>
   rw[e]at q'
   cases f with
   | none =>
    intro s4 s5
    walk_at "go"
    exact q'
   | some f=>exact q'
 ·have e:kdBad n Z t=(some .non,Z):=by cases t<;>first|rfl|exact absurd ⟨_,rfl⟩ ht
  rw[e]at q
  cases t<;>first|exact(ht ⟨_,rfl⟩).elim|exact ne.elim|(walk_at "go"; exact q)
structure YdIn(t:T):Prop where
 ne:noExc t
 yard:∀s w d,t=.tup [s,w,d]->SunIn s/\KdIn w/\KdIn d
def ydBad:T->Option (Bool×T)
 | .tup [s,w,d]=>match sunBad s with
  | some f=>some (true,f)
  | none=>match kdBad 2 [] w with
   | (some f,_)=>some (false,f)
   | (none,Z)=>match kdBad 3 Z d with
    | (some f,_)=>some (false,f)
    | (none,_)=>none
 | _=>some (false,.non)
def ydExc:Bool×T->T
 | (true,f)=>noSun f
 | (false,f)=>noYard f
theorem kdGo_few{n:Int}:∀{ts:List T}{i:Nat}{Z Z':List Str},i<=20->kdGo n i Z ts=(none,Z')->Z'.length + i<=Z.length + 20
 | [],i,Z,Z',hi,h=>by
  have h':((none:Option T),Z)=(none,Z'):=h
  cases h'
  omega
 | x :: r,i,Z,Z',hi,h=>by
  by_cases e:i=20
  ·subst e
   simp only[kdGo,thNm_20]at h
   cases h
  ·simp only[kdGo]at h
   split at h
   ·cases h
   ·split at h
    ·cases h
    ·have:=kdGo_few (i:=i + 1) (by omega) h
     simp at this ⊢
     omega
theorem kdBad_few{n:Int}{Z Z':List Str}{t:T}(h:kdBad n Z t=(none,Z')):Z'.length<=Z.length + 20:=by
 unfold kdBad at h
 split at h
 ·have:=kdGo_few (i:=0) (by decide) h
  omega
 ·cases h
def Z0E:SpX:=fun R ts Q=>∃t,ts=[t]/\YdIn t/\(match ydBad t with|none=>Q .non|some e=>R (ydExc e))
theorem Z2y:∀R ts Q,Z0E R ts Q->ts.length=1:=fun R ts Q ⟨_,e,_⟩=>by subst e;rfl
def Z1s(R:T->Prop):WS :=
 (sSeq (sIf (tOrT (tNotT (tVal (wIsi .tuple (wVar 0)))) (tCmpT cNeT (wCB rLenT (aCons (wVar 0) aNil)) (wC (.int 3)))) (sRaiseF R "NoYard" "name" (wC .non)) sNext)
  (sSeq (sExpr (wCall (Z0L R) (aCons (w2 rIxTT (wVar 0) (wC (.int 0))) aNil)))
  (sSeq (sSet 1 (wCall (Z0a R) (aCons (w2 rIxTT (wVar 0) (wC (.int 1))) (aCons (wC (.int 2)) (aCons (wLst aNil) aNil)))))
  (sExpr (wCall (Z0a R) (aCons (w2 rIxTT (wVar 0) (wC (.int 2))) (aCons (wC (.int 3)) (aCons (wVar 1) aNil))))))))
theorem Z2I:∀R ts Q,Z0E R ts Q->Z1s R {nx:=fun _=>Q .non,rt:=Q} (startT 2 ts):=by
 rintro R _ Q ⟨t,rfl,hy,q⟩
 unfold Z1s
 by_cases ht:∃us,t=.tup us
 ·obtain⟨us,rfl⟩:=ht
  match us,hy,q with
  | [],_,q=>walk_at "go"; exact q
  | [_],_,q=>walk_at "go"; exact q
  | [_,_],_,q=>walk_at "go"; exact q
  | x::y::z::z'::us,_,q =>
   have hl:decide (((x::y::z::z'::us).length:Int)=3)=false:=decide_eq_false (by simp;omega)
   walk_at "go"
   exact q
  | [s,w,d],hy,q =>
   obtain⟨hs,hw,hd⟩:=hy.yard s w d rfl
   simp only[ydBad]at q
   walk_at "go"
   refine⟨s,rfl,hs,?_⟩
   cases es:sunBad s with
   | some f=>rw[es]at q;exact q
   | none =>
    rw[es]at q
    walk_at "go"
    refine⟨w,2,[],rfl,.inl rfl,by decide,hw,?_⟩
    cases ew:kdBad 2 [] w with
    | mk f Z =>
     have lz:=fun e:f=none=>kdBad_few (n:=2) (Z:=[]) (t:=w) (Z':=Z) (by rw[ew,e])
     rw[ew]at q
     cases f with
     | some f=>exact q
     | none =>
      walk_at "go"
      refine⟨d,3,Z,rfl,.inr rfl,by have:=lz rfl;simp at this;omega,hd,?_⟩
      cases ed:kdBad 3 Z d with
      | mk f Z' =>
       simp only[ed]at q
       cases f with
       | some f=>exact q
       | none=>exact q
 ·have e:ydBad t=some (false,.non):=by unfold ydBad;split<;>first|exact absurd ⟨_,rfl⟩ ht|rfl
  rw[e]at q
  have ne:=hy.ne
  cases t<;>first|exact(ht ⟨_,rfl⟩).elim|exact ne.elim|(walk_at "go"; exact q)
structure Sg(n:Nat)(z:Str):Prop where
 len:z.length<=n
 ok:PyData.strOk z=true
theorem strOk_app(a b:Str):PyData.strOk (a++b)=(PyData.strOk a&&PyData.strOk b):=by
 unfold PyData.strOk
 rw[Str.cps_append]
 exact Array.all_append
theorem Sg.app{m n k:Nat}{a b:Str}(ha:Sg m a)(hb:Sg n b)(h:m + n<=k):Sg k (a++b) :=
 ⟨by rw[Str.length_append];have:=ha.len;have:=hb.len;omega,by rw[strOk_app,ha.ok,hb.ok];rfl⟩
theorem Sg.mono{m n:Nat}{a:Str}(ha:Sg m a)(h:m<=n):Sg n a:=⟨Nat.le_trans ha.len h,ha.ok⟩
theorem join_eq(sep:Str)(zs:List Str):Txt.join sep zs=Str.join sep zs:=StrLaws.glued_eq_join sep zs
theorem Sg.join'{n m:Nat}{sep:Str}(hs:Sg m sep):∀{zs:List Str},(∀z∈zs,Sg n z)->Sg (zs.length * (n + m)) (Str.join sep zs)
 | [],_=>⟨by show (Str.empty).length<=_;exact Nat.zero_le _,by show PyData.strOk Str.empty=true;decide +kernel⟩
 | [z],h=>(h z List.mem_cons_self).mono (by simp)
 | z::y::r,h=>by
  have ih:=Sg.join' hs (zs:=y::r) fun x hx=>h x (List.mem_cons_of_mem _ hx)
  show Sg _ (z++sep++Str.join sep (y::r))
  have h1:=(h z List.mem_cons_self).app hs (Nat.le_refl _)
  refine h1.app ih ?_
  simp only[List.length_cons,Nat.add_mul,Nat.one_mul]
  omega
theorem Sg.join{n m k:Nat}{sep:Str}{zs:List Str}(hs:Sg m sep)(h:∀z∈zs,Sg n z)(hk:zs.length * (n + m)<=k):Sg k (Txt.join sep zs):=by
 rw[join_eq]
 exact(Sg.join' hs h).mono hk
theorem Sg.slice{n:Nat}{z:Str}(h:Sg n z)(lo hi:Option Int):Sg n (Txt.slice z lo hi):=by
 refine⟨Nat.le_trans (Txt.slice_le z lo hi) h.len,?_⟩
 unfold Txt.slice
 split
 ·exact h.ok
 ·have ok:=h.ok
  unfold PyData.strOk at ok ⊢
  rw[Array.all_eq_true']at ok ⊢
  intro x hx
  rw[List.mem_toArray,List.mem_filterMap]at hx
  obtain⟨i,_,hi⟩:=hx
  exact ok x (Array.mem_of_getElem? hi)
abbrev fig(i:Int):Str:=Str.ofString (toString i)
def dgs(n:Nat):Str:=⟨((Nat.toDigits 10 n).map Char.toNat).toArray⟩
theorem ofS_nat(n:Nat):Str.ofString (toString n)=dgs n:=by
 rw[Str.ofString_eq_toList]
 unfold dgs
 rw[show (toString n).toList=Nat.toDigits 10 n from Nat.toList_repr]
theorem dgs_len{n k:Nat}(h:n < 10 ^ k)(hk:0 < k):(dgs n).length<=k:=by
 unfold dgs Str.length
 rw[List.size_toArray,List.length_map]
 exact(Nat.length_toDigits_le_iff (by decide) hk).mpr h
theorem dgs_ok(n:Nat):PyData.strOk (dgs n)=true:=by
 unfold PyData.strOk dgs
 rw[Array.all_eq_true']
 intro x hx
 rw[List.mem_toArray,List.mem_map]at hx
 obtain⟨c,hc,rfl⟩:=hx
 have:=Nat.isDigit_of_mem_toDigits (by decide) (by decide) hc
 have h2:c.toNat<=57:=by
  unfold Char.isDigit at this
  simp only[ge_iff_le,Bool.and_eq_true,decide_eq_true_eq]at this
  exact this.2
 simp only[decide_eq_true_eq]
 omega
theorem fig_int(i:Int):fig i=Str.ofString (if i < 0 then "-" else "")++dgs i.natAbs:=by
 cases i with
 | ofNat n =>
  rw[if_neg (show ¬ Int.ofNat n < 0 from Int.not_lt.mpr (Int.natCast_nonneg n))]
  show Str.ofString (toString n)=_
  rw[ofS_nat]
  refine Str.ext' ?_
  rw[Str.cps_append]
  simp[Str.ofString_eq_toList]
 | negSucc n =>
  rw[if_pos (by omega)]
  show Str.ofString ("-" ++ toString (n + 1))=_
  refine Str.ext' ?_
  rw[Str.cps_append,Str.ofString_eq_toList,Str.ofString_eq_toList]
  have:(Int.negSucc n).natAbs=n + 1:=rfl
  rw[this,← ofS_nat,Str.ofString_eq_toList]
  simp
theorem fig_sg{i:Int}(h:i.natAbs < 10 ^ 12):Sg 13 (fig i):=by
 rw[fig_int]
 have h1:Sg 12 (dgs i.natAbs):=⟨dgs_len h (by decide),dgs_ok _⟩
 by_cases z:i < 0
 ·rw[if_pos z]
  exact Sg.app (m:=1) ⟨by decide +kernel,by decide +kernel⟩ h1 (by decide)
 ·rw[if_neg z]
  exact Sg.app (m:=0) ⟨by decide +kernel,by decide +kernel⟩ h1 (by decide)
def jnL(c:Nat):List (List Nat)->List Nat
 | []=>[]
 | [z]=>z
 | z::y::r=>z++c::jnL c (y::r)
theorem join_list(c:Nat):∀zs:List Str,(Str.join ⟨#[c]⟩ zs).cps.toList=jnL c (zs.map fun z=>z.cps.toList)
 | []=>rfl
 | [z]=>rfl
 | z::y::r=>by
  show ((z++⟨#[c]⟩)++Str.join ⟨#[c]⟩ (y::r)).cps.toList=_
  rw[Str.cps_append,Str.cps_append,Array.toList_append,Array.toList_append,join_list c (y::r)]
  simp only[List.map_cons,jnL,List.append_assoc,List.cons_append,List.nil_append]
theorem cut_at{c:Nat}:∀{a b s t:List Nat},c∉a->c∉b->a++c::s=b++c::t->a=b/\s=t
 | [],[],s,t,_,_,h=>⟨rfl,by injection h⟩
 | [],y::b,s,t,_,hb,h=>by
  injection h with h1 h2
  exact absurd (by rw[h1];exact List.mem_cons_self) hb
 | x::a,[],s,t,ha,_,h=>by
  injection h with h1 h2
  exact absurd (by rw[← h1];exact List.mem_cons_self) ha
 | x::a,y::b,s,t,ha,hb,h=>by
  injection h with h1 h2
  have:=cut_at (fun z=>ha (List.mem_cons_of_mem _ z)) (fun z=>hb (List.mem_cons_of_mem _ z)) h2
  exact⟨by rw[h1,this.1],this.2⟩
theorem not_cut{c:Nat}{a b s:List Nat}(ha:c∉a)(h:a=b++c::s):False:=ha (by rw[h];simp)
theorem jn_inj{c:Nat}:∀{zs ys:List (List Nat)},zs≠[]->ys≠[]->(∀z∈zs,c∉z)->(∀y∈ys,c∉y)->jnL c zs=jnL c ys->zs=ys
 | [],_,h,_,_,_,_=>absurd rfl h
 | _,[],_,h,_,_,_=>absurd rfl h
 | [z],[y],_,_,_,_,h=>by rw[show z=y from h]
 | [z],y::y'::ys,_,_,hz,_,h=>(not_cut (hz z List.mem_cons_self) (show z=y++c::jnL c (y'::ys) from h)).elim
 | z::z'::zs,[y],_,_,_,hy,h=>(not_cut (hy y List.mem_cons_self) (show y=z++c::jnL c (z'::zs) from h.symm)).elim
 | z::z'::zs,y::y'::ys,_,_,hz,hy,h=>by
  have h':z++c::jnL c (z'::zs)=y++c::jnL c (y'::ys):=h
  obtain⟨e1,e2⟩:=cut_at (hz z List.mem_cons_self) (hy y List.mem_cons_self) h'
  rw[e1,jn_inj (by simp) (by simp) (fun x m=>hz x (List.mem_cons_of_mem _ m)) (fun x m=>hy x (List.mem_cons_of_mem _ m)) e2]
theorem split_some(x y:Str):Txt.split x y≠[]:=by
 unfold Txt.split
 split
 ·simp
 ·split
  ·simp
  ·intro e
   have:=congrArg List.length e
   rw[PySem.length_partsBetween]at this
   simp at this
theorem str_list_inj:∀{xs ys:List Str},(xs.map fun z=>z.cps.toList)=(ys.map fun z=>z.cps.toList)->xs=ys
 | [],[],_=>rfl
 | [],_::_,h=>by cases h
 | _::_,[],h=>by cases h
 | x::xs,y::ys,h=>by
  simp only[List.map_cons,List.cons.injEq]at h
  rw[Str.ext' (Array.toList_inj.mp h.1),str_list_inj h.2]
theorem split_join{c:Nat}{zs:List Str}(ne:zs≠[])(h:∀z∈zs,c∉z.cps.toList):Txt.split (Txt.join ⟨#[c]⟩ zs) ⟨#[c]⟩=zs:=by
 have e:=StrLaws.join_split (Txt.join ⟨#[c]⟩ zs) ⟨#[c]⟩
 have f:=StrLaws.split_free (Txt.join ⟨#[c]⟩ zs) c
 have g:=split_some (Txt.join ⟨#[c]⟩ zs) ⟨#[c]⟩
 generalize Txt.split (Txt.join ⟨#[c]⟩ zs) ⟨#[c]⟩=ps at e f g ⊢
 rw[join_eq]at e
 have e2:=congrArg (fun z:Str=>z.cps.toList) e
 simp only[join_list]at e2
 refine str_list_inj (jn_inj (c:=c) (by simpa using g) (by simpa using ne) (fun z m=>?_) (fun z m=>?_) e2)
 ·obtain⟨p,mp,rfl⟩:=List.mem_map.mp m
  exact f p mp
 ·obtain⟨p,mp,rfl⟩:=List.mem_map.mp m
  exact h p mp
theorem dgs_chars(n:Nat):∀c∈(dgs n).cps.toList,48<=c/\c<=57:=by
 intro x hx
 unfold dgs at hx
 simp only[List.mem_map]at hx
 obtain⟨c,hc,rfl⟩:=hx
 have:=Nat.isDigit_of_mem_toDigits (by decide) (by decide) hc
 unfold Char.isDigit at this
 simp only[ge_iff_le,Bool.and_eq_true,decide_eq_true_eq]at this
 exact⟨this.1,this.2⟩
theorem dgs_ne(n:Nat):(dgs n).cps.toList≠[]:=by
 unfold dgs
 simp only[ne_eq,List.map_eq_nil_iff]
 exact Nat.toDigits_ne_nil
theorem dgs_pos(n:Nat):1<=(dgs n).length:=by
 have:=dgs_ne n
 unfold Str.length
 cases h:(dgs n).cps.toList with
 | nil=>exact absurd h this
 | cons _ _ =>
  have:=congrArg List.length h
  simp at this
  omega
theorem fig_pos{i:Int}(h:¬ i < 0):fig i=dgs i.natAbs:=by
 rw[fig_int,if_neg h]
 have:Str.ofString "" = Str.empty:=by decide +kernel
 rw[this,Str.empty_append]
theorem fig_neg{i:Int}(h:i < 0):(fig i).cps.toList=45::(dgs i.natAbs).cps.toList:=by
 rw[fig_int,if_pos h,Str.cps_append,Array.toList_append]
 have:(Str.ofString "-").cps.toList=[45]:=by decide +kernel
 rw[this]
 rfl
theorem fig_chars(i:Int):∀c∈(fig i).cps.toList,c=45∨(48<=c/\c<=57):=by
 intro c hc
 by_cases h:i < 0
 ·rw[fig_neg h]at hc
  rcases List.mem_cons.mp hc with rfl|hc
  ·exact .inl rfl
  ·exact .inr (dgs_chars _ c hc)
 ·rw[fig_pos h]at hc
  exact .inr (dgs_chars _ c hc)
abbrev mkS(l:List Nat):Str:=⟨l.toArray⟩
def splL(c:Nat):List Nat->List (List Nat)
 | []=>[[]]
 | x::r=>if x=c then []::splL c r else match splL c r with
  | []=>[[x]]
  | h::t=>(x::h)::t
theorem splL_ne(c:Nat):∀l,splL c l≠[]
 | []=>by simp[splL]
 | x::r=>by
  simp only[splL]
  split
  ·simp
  ·split<;>simp
theorem splL_no(c:Nat):∀l,∀p∈splL c l,c∉p
 | [],p,h=>by simp[splL]at h;subst h;simp
 | x :: r,p,h=>by
  have ih:=splL_no c r
  simp only[splL]at h
  split at h
  ·rcases List.mem_cons.mp h with rfl|h
   ·simp
   ·exact ih p h
  ·rename_i nx
   split at h
   ·simp at h;subst h;simp;exact Ne.symm nx
   ·rename_i a t e
    rcases List.mem_cons.mp h with rfl|h
    ·intro m
     rcases List.mem_cons.mp m with m|m
     ·exact nx m.symm
     ·exact ih a (by rw[e];exact List.mem_cons_self) m
    ·exact ih p (by rw[e];exact List.mem_cons_of_mem _ h)
theorem splL_sub(c:Nat):∀l,∀p∈splL c l,∀y∈p,y∈l
 | [],p,h,y,hy=>by simp[splL]at h;subst h;exact hy
 | x :: r,p,h,y,hy=>by
  have ih:=splL_sub c r
  simp only[splL]at h
  split at h
  ·rcases List.mem_cons.mp h with rfl|h
   ·cases hy
   ·exact List.mem_cons_of_mem _ (ih p h y hy)
  ·split at h
   ·simp at h;subst h;simp at hy;rw[hy];exact List.mem_cons_self
   ·rename_i a t e
    rcases List.mem_cons.mp h with rfl|h
    ·rcases List.mem_cons.mp hy with m|m
     ·rw[m];exact List.mem_cons_self
     ·exact List.mem_cons_of_mem _ (ih a (by rw[e];exact List.mem_cons_self) y m)
    ·exact List.mem_cons_of_mem _ (ih p (by rw[e];exact List.mem_cons_of_mem _ h) y hy)
theorem splL_jn(c:Nat):∀l,jnL c (splL c l)=l
 | []=>rfl
 | x::r=>by
  have ih:=splL_jn c r
  have ne:=splL_ne c r
  simp only[splL]
  split
  ·rename_i e
   subst e
   cases h:splL x r with
   | nil=>exact absurd h ne
   | cons a t=>rw[h]at ih;show ([]:List Nat)++x::jnL x (a::t)=_;rw[ih];rfl
  ·cases h:splL c r with
   | nil=>exact absurd h ne
   | cons a t =>
    rw[h]at ih
    cases t with
    | nil=>have ih':a=r:=ih;rw[ih'];rfl
    | cons b u=>have ih':a++c::jnL c (b::u)=r:=ih;show x::a++c::jnL c (b::u)=_;rw[← ih'];rfl
theorem splL_len(c:Nat):∀l,(splL c l).length<=l.length + 1
 | []=>by simp[splL]
 | x::r=>by
  have ih:=splL_len c r
  simp only[splL]
  split
  ·simp;exact ih
  ·split
   ·simp
   ·rename_i a t e;rw[e]at ih;simp at ih ⊢;omega
theorem splL_each(c:Nat):∀l,∀p∈splL c l,p.length<=l.length
 | [],p,h=>by simp[splL]at h;subst h;simp
 | x::r,p,h=>by
  have ih:=splL_each c r
  simp only[splL]at h
  split at h
  ·rcases List.mem_cons.mp h with rfl|h
   ·simp
   ·have:=ih p h;simp;omega
  ·split at h
   ·simp at h;subst h;simp
   ·rename_i a t e
    rcases List.mem_cons.mp h with rfl|h
    ·have:=ih a (by rw[e];exact List.mem_cons_self);simp;omega
    ·have:=ih p (by rw[e];exact List.mem_cons_of_mem _ h);simp;omega
theorem split_any(c:Nat)(z:Str):Txt.split z ⟨#[c]⟩=(splL c z.cps.toList).map mkS:=by
 have h:=split_join (c:=c) (zs:=(splL c z.cps.toList).map mkS) (by simpa using splL_ne c _) fun y hy=>by
  obtain⟨p,hp,rfl⟩:=List.mem_map.mp hy
  simpa using splL_no c _ p hp
 have e:Txt.join ⟨#[c]⟩ ((splL c z.cps.toList).map mkS)=z:=by
  rw[join_eq]
  apply Str.ext'
  apply Array.toList_inj.mp
  rw[join_list,List.map_map]
  have:(splL c z.cps.toList).map ((fun z:Str=>z.cps.toList) ∘ mkS)=splL c z.cps.toList:=by
   rw[List.map_congr_left (g:=id) (fun p _=>by simp[Function.comp,mkS]),List.map_id]
  rw[this,splL_jn]
 rw[e]at h
 exact h
def figL:List Nat->List Nat
 | []=>[]
 | c::r=>if c=45 then r else c::r
def negL:List Nat->Bool
 | []=>false
 | c::_=>decide (c=45)
def isD(c:Nat):Bool:=decide (48<=c)&&decide (c<=57)
def valI(l:List Nat):Int:=if negL l then -((NumText.digitsVal (figL l):Nat):Int) else ((NumText.digitsVal (figL l):Nat):Int)
def dgL(n:Nat):List Nat:=(Nat.toDigits 10 n).map Char.toNat
def figI(i:Int):List Nat:=if i < 0 then 45::dgL i.natAbs else dgL i.natAbs
def numL(l:List Nat):Option Int:=if decide (1<=(figL l).length)&&(decide ((figL l).length<=40)&&(figL l).all isD) then (if figI (valI l)=l then some (valI l) else none) else none
def numT:Option Int->T
 | some i=>.int i
 | none=>.non
theorem figI_eq(i:Int):(fig i).cps.toList=figI i:=by
 unfold figI
 by_cases z:i < 0
 ·rw[if_pos z,fig_neg z];rfl
 ·rw[if_neg z,fig_pos z];rfl
theorem starts_any(l:List Nat):Txt.startswith (mkS l) (Str.ofString "-")=negL l:=by
 have e0:Str.ofString "-" = ⟨#[45]⟩:=by decide +kernel
 rw[e0]
 unfold Txt.startswith Builtin.Str.subAt
 have l1:(⟨#[45]⟩:Str).length=1:=rfl
 have ex:((mkS l).cps.extract 0 (0 + (⟨#[45]⟩:Str).length)).toList=l.take 1:=by
  rw[Array.toList_extract,l1]
  simp[List.extract_eq_take_drop]
 cases l with
 | nil=>decide +kernel
 | cons c r =>
  have el:1<=(mkS (c::r)).length:=by simp[Str.length]
  by_cases z:c=45
  ·subst z
   have e3:(mkS (45::r)).cps.extract 0 (0 + (⟨#[45]⟩:Str).length)=#[45]:=Array.toList_inj.mp (by rw[ex];rfl)
   rw[e3,decide_eq_true (by rw[l1];omega)]
   rfl
  ·rw[show negL (c::r)=false from decide_eq_false z,Bool.and_eq_false_iff]
   refine .inr ?_
   rw[beq_eq_false_iff_ne]
   intro q
   have q2:=congrArg Array.toList q
   rw[ex]at q2
   simp at q2
   exact z q2
theorem tail_any{l:List Nat}(z:negL l=true):Txt.slice (mkS l) (some 1) none=mkS (figL l):=by
 cases l with
 | nil=>cases z
 | cons c r =>
  have e:c=45:=of_decide_eq_true z
  subst e
  have el:(mkS (45::r)).length=r.length + 1:=by simp[Str.length]
  rw[slice_from_eq (b:=((mkS (45::r)).length:Int)) (by decide) (by rw[el];omega) rfl]
  apply Str.ext'
  apply Array.toList_inj.mp
  rw[el]
  simp[figL]
abbrev c_MOST_FIGURES:T:=.int 40
structure Rdb(n:Nat)(l:List Nat):Prop where
 len:l.length<=n
 asc:∀c∈l,c < 128
theorem Rdb.ok{n:Nat}{l:List Nat}(h:Rdb n l):PyData.strOk (mkS l)=true:=by
 unfold PyData.strOk
 rw[Array.all_eq_true']
 intro c hc
 have:=h.asc c (by simpa using hc)
 simp
 omega
def Z05:SpT:=fun ts Q=>∃l:List Nat,ts=[.str (mkS l)]/\Rdb 1000 l/\Q (numT (numL l))
theorem Z2Z:∀ts Q,Z05 ts Q->ts.length=1:=by rintro ts Q ⟨_,e,_⟩;subst e;rfl
def Z1Q:WS :=
 (sSeq (sSet 1 (wIfE (tVal (wStarts (wVar 0) (aCons (wC (.str (Str.ofString "-"))) aNil))) (wSlS (wVar 0) (wo (wC (.int 1))) wo0) (wVar 0)))
  (sSeq (sIf (tOrT (tNotT (tChainT cLeT cLeT (wC (.int 1)) (wCB rLenST (aCons (wVar 1) aNil)) (wC c_MOST_FIGURES))) (tNotT (tVal (wCB rAllT (aCons (wComp (iStr (wVar 1)) (gN 0) tTrue (wChain cLeS cLeS (wC (.str (Str.ofString "0"))) (wVar 0) (wC (.str (Str.ofString "9")))) 1 []) aNil))))) (sRet (wC .non)) sNext)
  (sSeq (sSet 2 (wCB rIntST (aCons (wVar 0) aNil)))
  (sRet (wIfE (tCmpT cEqT (wCB rStrTB (aCons (wVar 2) aNil)) (wVar 0)) (wVar 2) (wC .non))))))
abbrev wDig:WE:=wChain cLeS cLeS (wC (.str (Str.ofString "0"))) (wVar 0) (wC (.str (Str.ofString "9")))
theorem le_dig(c:Nat):(!(decide ((chS c).cps.toList < (Str.ofString "0").cps.toList)))=decide (48<=c)/\(!(decide ((Str.ofString "9").cps.toList < (chS c).cps.toList)))=decide (c<=57):=by
 have e1:(Str.ofString "0").cps.toList=[48]:=by decide +kernel
 have e2:(Str.ofString "9").cps.toList=[57]:=by decide +kernel
 rw[e1,e2]
 have k1:([c] < [48]) ↔ c < 48:=by
  rw[List.cons_lt_cons_iff]
  exact⟨fun k=>k.elim id fun q=>absurd q.2 (by simp),.inl⟩
 have k2:([57] < [c]) ↔ 57 < c:=by
  rw[List.cons_lt_cons_iff]
  exact⟨fun k=>k.elim id fun q=>absurd q.2 (by simp),.inl⟩
 refine⟨?_,?_⟩
 ·show (!(decide ([c] < [48])))=_
  by_cases z:c < 48
  ·rw[decide_eq_true (k1.mpr z),decide_eq_false (by omega)];rfl
  ·rw[decide_eq_false (fun q=>z (k1.mp q)),decide_eq_true (by omega)];rfl
 ·show (!(decide ([57] < [c])))=_
  by_cases z:57 < c
  ·rw[decide_eq_true (k2.mpr z),decide_eq_false (by omega)];rfl
  ·rw[decide_eq_false (fun q=>z (k2.mp q)),decide_eq_true (by omega)];rfl
theorem dig_comp{Q:List T->Prop}:∀(cs:List Nat)(acc:List T)(s:Slot),Q (acc++cs.map fun c=>T.bl (isD c))->compT (gN 0) tTrue wDig (cs.map fun c=>.str (chS c)) acc [s] Q
 | [],acc,s,h=>by
  simp only[List.map_nil,List.append_nil]at h
  exact h
 | c::r,acc,s,h=>by
  have ih:=fun (acc:List T) (s:Slot) h=>dig_comp (Q:=Q) r acc s h
  obtain⟨k1,k2⟩:=le_dig c
  simp only[List.map,compT]
  generalize compT (gN 0) tTrue wDig (r.map fun c=>.str (chS c))=F at ih ⊢
  walk_at "tw"
  rw[k1,k2]
  have h':Q (acc++[T.bl (isD c)]++r.map fun c=>T.bl (isD c)):=by simpa using h
  unfold isD at h'
  refine⟨fun _=>⟨fun e=>?_,fun e=>?_⟩,fun z=>by cases z⟩
  ·rw[e,Bool.true_and]at h'
   exact ih _ _ h'
  ·rw[e,Bool.false_and]at h'
   exact ih _ _ h'
theorem bools_dig:∀cs:List Nat,boolsOf (cs.map fun c=>T.bl (isD c))=some (cs.map isD)
 | []=>rfl
 | c::r=>by simp only[List.map,boolsOf,bools_dig r,Option.map]
theorem fig_sub(l:List Nat):∀c∈figL l,c∈l:=fun c hc=>by
 cases l with
 | nil=>cases hc
 | cons d r =>
  simp only[figL]at hc
  split at hc
  ·exact List.mem_cons_of_mem _ hc
  ·exact hc
theorem fig_len(l:List Nat):(figL l).length<=l.length/\l.length<=(figL l).length + 1:=by
 cases l with
 | nil=>exact⟨Nat.le_refl _,by simp⟩
 | cons d r =>
  simp only[figL]
  split<;>simp
theorem dval_lt:∀(l:List Nat)(a:Nat),(∀c∈l,isD c=true)->l.foldl (fun acc c=>acc * 10 + (c - 48)) a < (a + 1) * 10 ^ l.length
 | [],a,_=>by simp
 | c::r,a,h=>by
  have ih:=dval_lt r (a * 10 + (c - 48)) fun d hd=>h d (List.mem_cons_of_mem _ hd)
  have hc:=h c List.mem_cons_self
  unfold isD at hc
  simp only[Bool.and_eq_true,decide_eq_true_eq]at hc
  simp only[List.foldl_cons,List.length_cons]
  refine Nat.lt_of_lt_of_le ih ?_
  rw[Nat.pow_succ,Nat.mul_comm (10 ^ r.length) 10,← Nat.mul_assoc]
  exact Nat.mul_le_mul_right _ (by omega)
theorem int_any{l:List Nat}(h1:1<=(figL l).length)(h2:(figL l).length<=40)(h3:(figL l).all isD=true):intText? (mkS l)=some (valI l)/\(valI l).natAbs < 2 ^ 200:=by
 have hd:∀c∈figL l,48<=c/\c<=57:=fun c hc=>by
  have:=List.all_eq_true.mp h3 c hc
  unfold isD at this
  simpa using this
 have hne:figL l≠[]:=fun z=>by rw[z]at h1;simp at h1
 have hlen:(mkS l).length<=4300:=by have:=(fig_len l).2;simp[Str.length];omega
 have hb:NumText.digitsVal (figL l) < 2 ^ 200:=by
  have:=dval_lt (figL l) 0 (fun c hc=>List.all_eq_true.mp h3 c hc)
  refine Nat.lt_of_lt_of_le this ?_
  rw[Nat.zero_add,Nat.one_mul]
  exact Nat.le_trans (Nat.pow_le_pow_right (by decide) h2) (by decide)
 unfold valI
 cases e:negL l with
 | true =>
  rw[if_pos rfl]
  refine⟨?_,by rw[Int.natAbs_neg];exact hb⟩
  have el:l=45::figL l:=by
   cases l with
   | nil=>cases e
   | cons c r =>
    have:c=45:=of_decide_eq_true e
    subst this
    rfl
  refine PySem.intText_neg (cs:=figL l) ?_ hd hne hlen
  show (mkS l).cps.toList=_
  simp only[mkS]
  exact el
 | false =>
  rw[if_neg (by decide)]
  refine⟨?_,hb⟩
  have el:figL l=l:=by
   cases l with
   | nil=>rfl
   | cons c r =>
    have:¬ c=45:=of_decide_eq_false e
    simp only[figL,if_neg this]
  rw[el]at hd hne ⊢
  exact PySem.intText_digits (x:=mkS l) (fun c hc=>hd c (by simpa [mkS] using hc)) (by simpa [mkS] using hne) hlen
theorem eqT_str(a b:Str):eqT (.str a) (.str b)=decide (a=b):=by
 simp only[eqT]
 rw[Bool.eq_iff_iff,beq_iff_eq,decide_eq_true_eq]
theorem eqOk_str(a b:Str)(ha:PyData.strOk a=true)(hb:PyData.strOk b=true):EqOk (.str a) (.str b):=by
 refine⟨by simpa [plain,pd,PyData.canLay0] using ha,by simpa [plain,pd,PyData.canLay0] using hb,by simp[dep,pd,PyData.depth]⟩
theorem fig_ok(i:Int):PyData.strOk (fig i)=true:=by
 unfold PyData.strOk
 rw[Array.all_eq_true']
 intro c hc
 have:=fig_chars i c (by simpa using hc)
 simp
 omega
theorem str_eq(i:Int)(l:List Nat):eqT (.str (Str.ofString (toString i))) (.str (mkS l))=decide (figI i=l):=by
 rw[eqT_str]
 have e:=figI_eq i
 by_cases z:figI i=l
 ·rw[decide_eq_true z,decide_eq_true]
  apply Str.ext'
  apply Array.toList_inj.mp
  rw[e,z]
 ·rw[decide_eq_false z,decide_eq_false]
  intro q
  apply z
  rw[← e,show fig i=mkS l from q]
abbrev numRest:WS:=(sSeq (sIf (tOrT (tNotT (tChainT cLeT cLeT (wC (.int 1)) (wCB rLenST (aCons (wVar 1) aNil)) (wC c_MOST_FIGURES))) (tNotT (tVal (wCB rAllT (aCons (wComp (iStr (wVar 1)) (gN 0) tTrue wDig 1 []) aNil))))) (sRet (wC .non)) sNext)
  (sSeq (sSet 2 (wCB rIntST (aCons (wVar 0) aNil)))
  (sRet (wIfE (tCmpT cEqT (wCB rStrTB (aCons (wVar 2) aNil)) (wVar 0)) (wVar 2) (wC .non)))))
theorem num_rest{l:List Nat}{Q:T->Prop}(hl:Rdb 1000 l)(h:Q (numT (numL l))):numRest {nx:=fun _=>Q .non,rt:=Q} [.val (.str (mkS l)),.val (.str (mkS (figL l))),.no]:=by
 have l3:(figL l).length<=1000:=Nat.le_trans (fig_len l).1 hl.len
 have ef:(mkS (figL l)).length=(figL l).length:=by simp[Str.length]
 have asc:(mkS (figL l)).cps.all (· < 128)=true:=by
  rw[← Array.all_toList,List.all_eq_true]
  intro c k
  exact decide_eq_true (hl.asc c (fig_sub l c (by simpa using k)))
 have rd:∀R:List T->Prop,R ((figL l).map fun c=>T.bl (isD c))->compT (gN 0) tTrue wDig ((figL l).map fun c=>.str (chS c)) [] [Slot.no] R:=fun R hR=>dig_comp _ [] _ (by simpa using hR)
 unfold numL at h
 unfold numRest
 obtain⟨W0,hW0⟩:∃W,W=wDig:=⟨_,rfl⟩
 rw[← hW0]at rd ⊢
 walk_at "tw"
 rw[ef]
 refine⟨l3,fun e1=>⟨fun e2=>⟨fun _=>?_,(fun z=>by cases z)⟩,fun e2=>⟨asc,by rw[List.length_map];exact l3,rd _ ?_⟩⟩,fun e1=>?_⟩
 ·have:¬ (figL l).length<=40:=by
   have:¬ ((figL l).length:Int)<=40:=by simpa using e2
   omega
  rw[decide_eq_false this,Bool.false_and,Bool.and_false,if_neg (by decide)]at h
  exact h
 ·have a1:1<=(figL l).length:=by have:=of_decide_eq_true e1;omega
  have a2:(figL l).length<=40:=by
   have:((figL l).length:Int)<=40:=by simpa using e2
   omega
  rw[bools_dig]
  rw[decide_eq_true a1,decide_eq_true a2,Bool.true_and,Bool.true_and]at h
  simp only[List.all_map,Function.comp_def,id]
  refine⟨fun z=>?_,fun z=>?_⟩
  ·have z':(figL l).all isD=false:=by simpa using z
   rw[z',if_neg (by decide)]at h
   exact h
  ·have z':(figL l).all isD=true:=by simpa using z
   rw[z',if_pos rfl]at h
   obtain⟨ti,tb⟩:=int_any a1 a2 z'
   have l640:(mkS l).length<=640:=by have:=(fig_len l).2;simp[Str.length];omega
   refine⟨l640,?_⟩
   rw[ti]
   have eo:=eqOk_str (fig (valI l)) (mkS l) (fig_ok _) hl.ok
   refine⟨tb,eo,fun q=>?_,fun q=>?_⟩
   ·rw[str_eq]at q
    rw[if_pos (of_decide_eq_true q)]at h
    exact h
   ·rw[str_eq]at q
    rw[if_neg (of_decide_eq_false q)]at h
    exact h
 ·have:¬ 1<=(figL l).length:=by have:=of_decide_eq_false e1;omega
  rw[decide_eq_false this,Bool.false_and,if_neg (by decide)]at h
  exact⟨fun _=>⟨fun _=>h,(fun z=>by cases z)⟩,fun z=>by cases z⟩
theorem Z3d:∀ts Q,Z05 ts Q->Z1Q {nx:=fun _=>Q .non,rt:=Q} (startT 3 ts):=by
 rintro _ Q ⟨l,rfl,hl,h⟩
 have rest:=num_rest hl h
 have l1:(mkS l).length<=1000:=by have:=hl.len;simpa [Str.length] using this
 have st:=starts_any l
 unfold Z1Q
 obtain⟨W0,hW0⟩:∃W:WS,W=numRest:=⟨_,rfl⟩
 rw[← hW0]at rest
 show (sSeq (sSet 1 (wIfE (tVal (wStarts (wVar 0) (aCons (wC (.str (Str.ofString "-"))) aNil))) (wSlS (wVar 0) (wo (wC (.int 1))) wo0) (wVar 0))) numRest) _ _
 rw[← hW0]
 walk_at "tw"
 rw[st]
 refine⟨fun z=>?_,fun z=>?_⟩
 ·refine⟨l1,?_⟩
  rw[tail_any z]
  exact rest
 ·have el:figL l=l:=by
   cases l with
   | nil=>rfl
   | cons c r =>
    have:¬ c=45:=of_decide_eq_false z
    simp only[figL,if_neg this]
  rw[el]at rest
  exact rest
abbrev T3:=T×T×T
abbrev t3T(a:T3):T:=.tup [a.1,a.2.1,a.2.2]
abbrev i3(a:T3)(r:List T):List T:=a.1::a.2.1::a.2.2::r
abbrev zSun:Str:=Str.ofString "sun"
abbrev zWal:Str:=Str.ofString "wall"
abbrev zDil:Str:=Str.ofString "dial"
def cntK:Nat->Nat
 | 0=>3
 | 1=>9
 | _=>12
def wrdK:Nat->Str
 | 0=>zSun
 | 1=>zWal
 | _=>zDil
def entT(k:Nat)(f:T)(L:List T):T:=match k,L with
 | 0,[a,b,c]=>.tup [f,.tup [a,b,c]]
 | 1,[a,b,c,a',b',c',a'',b'',c'']=>.tup [f,.tup [.tup [a,b,c],.tup [a',b',c'],.tup [a'',b'',c'']]]
 | 2,[a,b,c,a',b',c',a'',b'',c'',x,y,z]=>.tup [f,.tup [.tup [a,b,c],.tup [a',b',c'],.tup [a'',b'',c'']],.tup [x,y,z]]
 | _,_=>.non
def Z0f:SpT:=fun ts Q=>∃(k:Nat) (f:T) (L:List T),ts=[.str (wrdK k),f,.lst L]/\k < 3/\L.length=cntK k/\Q (entT k f L)
theorem Z3e:∀ts Q,Z0f ts Q->ts.length=3:=by
 rintro ts Q ⟨k,f,L,e,_⟩
 subst e
 rfl
def Z0l:WE :=
 (wCB rTupleT (aCons (wSl (wVar 1) (wo (wVar 0)) (wo (w2 rAddT (wVar 0) (wC (.int 3))))) aNil))
def Z1H:WS :=
 (sSeq (sSet 3 (wComp (iRange3 (aCons (wC (.int 0)) (aCons (wCB rLenT (aCons (wVar 2) aNil)) (aCons (wC (.int 3)) aNil)))) (gN 0) tTrue Z0l 1 [2]))
  (sSeq (sIf (tCmpT cEqT (wVar 0) (wC (.str (Str.ofString "sun")))) (sRet (wTup (aCons (wVar 1) (aCons (w2 rIxTT (wVar 3) (wC (.int 0))) aNil)))) sNext)
  (sSeq (sIf (tCmpT cEqT (wVar 0) (wC (.str (Str.ofString "wall")))) (sRet (wTup (aCons (wVar 1) (aCons (wCB rTupleT (aCons (wVar 3) aNil)) aNil)))) sNext)
  (sRet (wTup (aCons (wVar 1) (aCons (wCB rTupleT (aCons (wSl (wVar 3) wo0 (wo (wC (.int 3)))) aNil)) (aCons (w2 rIxTT (wVar 3) (wC (.int 3))) aNil))))))))
theorem k3_ok(z:Str)(h:z=zSun∨z=zWal∨z=zDil):PyData.strOk z=true:=by
 rcases h with rfl|rfl|rfl<;>decide +kernel
theorem k3_eq{a b:Str}(ha:a=zSun∨a=zWal∨a=zDil)(hb:b=zSun∨b=zWal∨b=zDil):EqOk (.str a) (.str b):=eqOk_str a b (k3_ok a ha) (k3_ok b hb)
theorem eq_ss:eqT (.str zSun) (.str zSun)=true:=by rw[eqT_str];decide +kernel
theorem eq_ws:eqT (.str zWal) (.str zSun)=false:=by rw[eqT_str];decide +kernel
theorem eq_ww:eqT (.str zWal) (.str zWal)=true:=by rw[eqT_str];decide +kernel
theorem eq_ds:eqT (.str zDil) (.str zSun)=false:=by rw[eqT_str];decide +kernel
theorem eq_dw:eqT (.str zDil) (.str zWal)=false:=by rw[eqT_str];decide +kernel
theorem ent_comp{L:List T}{Q:List T->Prop}:∀(trs:List T3)(k:Nat)(acc:List T)(s:Slot),(∀(j:Nat)(a  : T3),trs[j]?=some a->cutT L (some ((3 * (k + j):Nat):Int)) (some (((3 * (k + j):Nat):Int) + 3))=i3 a [])->Q (acc++trs.map t3T) →
  compT (gN 0) tTrue Z0l ((List.range' k trs.length).map fun j=>.int ((3 * j:Nat):Int)) acc [s,.val (.lst L)] Q
 | [],k,acc,s,_,h=>by
  simp only[List.map_nil,List.append_nil]at h
  exact h
 | a::r,k,acc,s,hs,h=>by
  have ih:=fun (s:Slot)=>ent_comp (L:=L) (Q:=Q) r (k + 1) (acc++[t3T a]) s (fun j b e=>by have:=hs (j + 1) b (by simpa using e);rw[show k + 1 + j=k + (j + 1) by omega];exact this) (by simpa using h)
  have h0:=hs 0 a rfl
  rw[Nat.add_zero]at h0
  simp only[List.length_cons,List.range'_succ,List.map_cons,compT]
  generalize compT (gN 0) tTrue Z0l ((List.range' (k + 1) r.length).map fun j=>.int ((3 * j:Nat):Int))=F at ih ⊢
  unfold Z0l
  walk_at "tw"
  rw[h0]
  exact⟨fun _=>ih _,fun z=>by cases z⟩
theorem rng1:range3T 0 3 (cnt3 0 ((1 * 3:Nat):Int) 3)=(List.range' 0 1).map fun j=>T.int ((3 * j:Nat):Int):=by rw[show cnt3 0 ((1 * 3:Nat):Int) 3=1 by decide];rfl
theorem rng3:range3T 0 3 (cnt3 0 ((3 * 3:Nat):Int) 3)=(List.range' 0 3).map fun j=>T.int ((3 * j:Nat):Int):=by rw[show cnt3 0 ((3 * 3:Nat):Int) 3=3 by decide];rfl
theorem rng4:range3T 0 3 (cnt3 0 ((4 * 3:Nat):Int) 3)=(List.range' 0 4).map fun j=>T.int ((3 * j:Nat):Int):=by rw[show cnt3 0 ((4 * 3:Nat):Int) 3=4 by decide];rfl
theorem ent_set{L:List T}{trs:List T3}{Q:T->Prop}{z:Slot}{f:Slot}(n:Nat)(hl:L.length=n * 3)(h4:n<=4)(hn:trs.length=n)(hr:range3T 0 3 (cnt3 0 ((n * 3:Nat):Int) 3)=(List.range' 0 n).map fun j=>T.int ((3 * j:Nat):Int))
  (hs:∀(j:Nat)(a  : T3),trs[j]?=some a->cutT L (some ((3 * (0 + j):Nat):Int)) (some (((3 * (0 + j):Nat):Int) + 3))=i3 a []) (h:Q (.lst (trs.map t3T))) :
  (wComp (iRange3 (aCons (wC (.int 0)) (aCons (wCB rLenT (aCons (wVar 2) aNil)) (aCons (wC (.int 3)) aNil)))) (gN 0) tTrue Z0l 1 [2]) [z,f,.val (.lst L),.no] Q:=by
 have key:=fun (s:Slot)=>ent_comp (L:=L) (Q:=fun rs=>Q (.lst rs)) trs 0 [] s hs (by simpa using h)
 rw[hn,← hr,← hl]at key
 refine⟨⟨by decide,by decide,by show -2 ^ 30<=(L.length:Int);omega,by show (L.length:Int) < 2 ^ 30;omega,by decide,by decide⟩,?_,key _⟩
 rw[hl,hr,List.length_map,List.length_range']
 omega
theorem cut_i(a b c d:T3)(r:List T):cutT (i3 a r) (some ((3 * (0 + 0):Nat):Int)) (some (((3 * (0 + 0):Nat):Int) + 3))=i3 a []/\cutT (i3 a (i3 b r)) (some ((3 * (0 + 1):Nat):Int)) (some (((3 * (0 + 1):Nat):Int) + 3))=i3 b [] ∧
  cutT (i3 a (i3 b (i3 c r))) (some ((3 * (0 + 2):Nat):Int)) (some (((3 * (0 + 2):Nat):Int) + 3))=i3 c []/\cutT (i3 a (i3 b (i3 c (i3 d r)))) (some ((3 * (0 + 3):Nat):Int)) (some (((3 * (0 + 3):Nat):Int) + 3))=i3 d []:=by
 have e:∀(L:List T)(k:Nat),k + 3<=L.length->cutT L (some ((k:Nat):Int)) (some ((k:Int) + 3))=(L.drop k).take 3:=fun L k hk=>by
  unfold cutT
  rw[show (k:Int) + 3=((k + 3:Nat):Int) by omega,HT.sIx_nat,HT.sIx_nat,show min k L.length=k by omega,show min (k + 3) L.length - k=3 by omega]
 refine⟨?_,?_,?_,?_⟩
 ·rw[e _ _ (by simp)];rfl
 ·rw[e _ _ (by simp)];rfl
 ·rw[e _ _ (by simp)];rfl
 ·rw[e _ _ (by simp)];rfl
abbrev entRest:WS:=(sSeq (sIf (tCmpT cEqT (wVar 0) (wC (.str (Str.ofString "sun")))) (sRet (wTup (aCons (wVar 1) (aCons (w2 rIxTT (wVar 3) (wC (.int 0))) aNil)))) sNext)
  (sSeq (sIf (tCmpT cEqT (wVar 0) (wC (.str (Str.ofString "wall")))) (sRet (wTup (aCons (wVar 1) (aCons (wCB rTupleT (aCons (wVar 3) aNil)) aNil)))) sNext)
  (sRet (wTup (aCons (wVar 1) (aCons (wCB rTupleT (aCons (wSl (wVar 3) wo0 (wo (wC (.int 3)))) aNil)) (aCons (w2 rIxTT (wVar 3) (wC (.int 3))) aNil)))))))
theorem ent_all{z:Str}{f:T}{L:List T}{trs:List T3}{Q:T->Prop}(n:Nat)(hl:L.length=n * 3)(h4:n<=4)(hn:trs.length=n)(hr:range3T 0 3 (cnt3 0 ((n * 3:Nat):Int) 3)=(List.range' 0 n).map fun j=>T.int ((3 * j:Nat):Int))
  (hs:∀(j:Nat)(a  : T3),trs[j]?=some a->cutT L (some ((3 * (0 + j):Nat):Int)) (some (((3 * (0 + j):Nat):Int) + 3))=i3 a [])
  (h:entRest {nx:=fun _=>Q .non,rt:=Q} [.val (.str z),.val f,.val (.lst L),.val (.lst (trs.map t3T))]):Z1H {nx:=fun _=>Q .non,rt:=Q} [.val (.str z),.val f,.val (.lst L),.no]:=by
 have key:=ent_set (L:=L) (trs:=trs) (z:=.val (.str z)) (f:=.val f) (Q:=fun t=>entRest {nx:=fun _=>Q .non,rt:=Q} [.val (.str z),.val f,.val (.lst L),.val t]) n hl h4 hn hr hs h
 unfold Z1H
 exact key
theorem Z3w:∀ts Q,Z0f ts Q->Z1H {nx:=fun _=>Q .non,rt:=Q} (startT 4 ts):=by
 rintro _ Q ⟨k,f,L,rfl,hk,hl,h⟩
 match k,hk,hl,h with
 | 0,_,hl,h =>
  match L,hl,h with
  | [a,b,c],_,h =>
   refine ent_all (trs:=[(a,b,c)]) (L:=i3 (a,b,c) []) 1 rfl (by decide) rfl rng1 (fun j x e=>?_) ?_
   ·match j,e with
    | 0,e=>cases e;exact(cut_i (a,b,c) (a,b,c) (a,b,c) (a,b,c) []).1
   have eo:=k3_eq (.inl rfl) (.inl rfl)
   unfold wrdK
   walk_at "tw"
   refine⟨eo,?_⟩
   rw[eq_ss]
   exact⟨fun _=>h,fun z=>by cases z⟩
 | 1,_,hl,h =>
  match L,hl,h with
  | [a,b,c,a',b',c',a'',b'',c''],_,h =>
   obtain⟨x,hx⟩:∃x:T3,x=(a,b,c):=⟨_,rfl⟩
   obtain⟨y,hy⟩:∃x:T3,x=(a',b',c'):=⟨_,rfl⟩
   obtain⟨z,hz⟩:∃x:T3,x=(a'',b'',c''):=⟨_,rfl⟩
   have h2:Q (.tup [f,.tup [t3T x,t3T y,t3T z]]):=by rw[hx,hy,hz];exact h
   have el:[a,b,c,a',b',c',a'',b'',c'']=i3 x (i3 y (i3 z [])):=by rw[hx,hy,hz]
   rw[el]
   refine ent_all (trs:=[x,y,z]) (L:=i3 x (i3 y (i3 z []))) 3 rfl (by decide) rfl rng3 (fun j u e=>?_) ?_
   ·match j,e with
    | 0,e=>cases e;exact(cut_i x x x x _).1
    | 1,e=>cases e;exact(cut_i x y y y _).2.1
    | 2,e=>cases e;exact(cut_i x y z z _).2.2.1
   unfold wrdK
   walk_at "tw"
   refine⟨k3_eq (.inr (.inl rfl)) (.inl rfl),?_⟩
   rw[eq_ws]
   refine⟨(fun z=>by cases z),fun _=>⟨k3_eq (.inr (.inl rfl)) (.inr (.inl rfl)),?_⟩⟩
   rw[eq_ww]
   exact⟨fun _=>h2,fun z=>by cases z⟩
 | 2,_,hl,h =>
  match L,hl,h with
  | [a,b,c,a',b',c',a'',b'',c'',a3,b3,c3],_,h =>
   obtain⟨x,hx⟩:∃x:T3,x=(a,b,c):=⟨_,rfl⟩
   obtain⟨y,hy⟩:∃x:T3,x=(a',b',c'):=⟨_,rfl⟩
   obtain⟨z,hz⟩:∃x:T3,x=(a'',b'',c''):=⟨_,rfl⟩
   obtain⟨w,hw⟩:∃x:T3,x=(a3,b3,c3):=⟨_,rfl⟩
   have h2:Q (.tup [f,.tup [t3T x,t3T y,t3T z],t3T w]):=by rw[hx,hy,hz,hw];exact h
   have el:[a,b,c,a',b',c',a'',b'',c'',a3,b3,c3]=i3 x (i3 y (i3 z (i3 w []))):=by rw[hx,hy,hz,hw]
   rw[el]
   refine ent_all (trs:=[x,y,z,w]) (L:=i3 x (i3 y (i3 z (i3 w [])))) 4 rfl (by decide) rfl rng4 (fun j u e=>?_) ?_
   ·match j,e with
    | 0,e=>cases e;exact(cut_i x x x x _).1
    | 1,e=>cases e;exact(cut_i x y y y _).2.1
    | 2,e=>cases e;exact(cut_i x y z z _).2.2.1
    | 3,e=>cases e;exact(cut_i x y z w _).2.2.2
   unfold wrdK
   walk_at "tw"
   refine⟨k3_eq (.inr (.inr rfl)) (.inl rfl),?_⟩
   rw[eq_ds]
   refine⟨(fun z=>by cases z),fun _=>⟨k3_eq (.inr (.inr rfl)) (.inr (.inl rfl)),?_⟩⟩
   rw[eq_dw]
   exact⟨(fun z=>by cases z),fun _=>h2⟩
abbrev z_KINDS:List Str:=[zSun,zWal,zDil]
abbrev t_KINDS:List T:=[.str zSun,.str zWal,.str zDil]
abbrev d_NUMBERS_IN:List (Str×Int):=[(zSun,3),(zWal,9),(zDil,12)]
def lSun:List Nat:=[115,117,110]
def lWal:List Nat:=[119,97,108,108]
def lDil:List Nat:=[100,105,97,108]
def rowW:List (List Nat)->Option (Nat×T)
 | k::z::ns =>
  if k=lSun then (if ns.length=3 then some (0,entT 0 (numT (numL z)) (ns.map fun w=>numT (numL w))) else none)
  else if k=lWal then (if ns.length=9 then some (1,entT 1 (.str (mkS z)) (ns.map fun w=>numT (numL w))) else none)
  else if k=lDil then (if ns.length=12 then some (2,entT 2 (.str (mkS z)) (ns.map fun w=>numT (numL w))) else none)
  else none
 | _=>none
def rowO(l:List Nat):Option (Nat×T):=rowW (splL 32 l)
def rowT:Option (Nat×T)->T
 | some (k,e)=>.tup [.int (k:Nat),e]
 | none=>.non
theorem mk_sun:zSun=mkS lSun:=by decide +kernel
theorem mk_wal:zWal=mkS lWal:=by decide +kernel
theorem mk_dil:zDil=mkS lDil:=by decide +kernel
theorem mkS_inj{a b:List Nat}(h:mkS a=mkS b):a=b:=by
 have:=congrArg (fun z:Str=>z.cps.toList) h
 simpa [mkS] using this
def Z07:SpT:=fun ts Q=>∃l:List Nat,ts=[.str (mkS l)]/\Rdb 1000 l/\Q (rowT (rowO l))
theorem Z3f:∀ts Q,Z07 ts Q->ts.length=1:=by rintro ts Q ⟨_,e,_⟩;subst e;rfl
def Z0F:WS :=
 (sSeq (sSet 1 (wSplit (wVar 0) (aCons (wC (.str (Str.ofString " "))) aNil)))
  (sSeq (sIf (tOrT (tCmpT cNotInTT (w2 rIxTT (wVar 1) (wC (.int 0))) (wC (.tup t_KINDS))) (tCmpT cNeT (wCB rLenT (aCons (wVar 1) aNil)) (w2 rAddT (wTab d_NUMBERS_IN (w2 rIxTT (wVar 1) (wC (.int 0)))) (wC (.int 2))))) (sRet (wC .non)) sNext)
  (sSeq (sSet 2 (wIfE (tCmpT cEqT (w2 rIxTT (wVar 1) (wC (.int 0))) (wC (.str (Str.ofString "sun")))) (wCall Z05 (aCons (w2 rIxTT (wVar 1) (wC (.int 1))) aNil)) (w2 rIxTT (wVar 1) (wC (.int 1)))))
  (sSeq (sSet 3 (wComp (iSeq (wSl (wVar 1) (wo (wC (.int 2))) wo0)) (gN 0) tTrue (wCall Z05 (aCons (wVar 0) aNil)) 1 []))
  (sRet (wTup (aCons (wIdxT t_KINDS (aCons (w2 rIxTT (wVar 1) (wC (.int 0))) aNil)) (aCons (wCall Z0f (aCons (w2 rIxTT (wVar 1) (wC (.int 0))) (aCons (wVar 2) (aCons (wVar 3) aNil)))) aNil))))))))
theorem num_comp:∀(r:List (List Nat))(acc:List T)(x:Slot)(Q:List T->Prop),(∀w∈r,Rdb 1000 w)->Q (acc++r.map fun w=>numT (numL w)) →
  compT (gN 0) tTrue (wCall Z05 (aCons (wVar 0) aNil)) (r.map fun w=>T.str (mkS w)) acc [x] Q
 | [],acc,x,Q,_,h=>by
  simp only[List.map_nil,compT]
  simpa using h
 | i::r,acc,x,Q,hl,h=>by
  have i1:=num_comp r (acc++[numT (numL i)]) (.val (.str (mkS i))) Q (fun y hy=>hl y (List.mem_cons_of_mem _ hy)) (by simpa using h)
  simp only[List.map_cons,compT]
  generalize compT (gN 0) tTrue (wCall Z05 (aCons (wVar 0) aNil)) (r.map fun w=>T.str (mkS w))=F at i1 ⊢
  exact⟨fun _=>⟨i,rfl,hl i List.mem_cons_self,i1⟩,fun z=>by cases z⟩
theorem cut_2(a b:T)(r:List T):cutT (a::b::r) (some 2) none=r:=by
 unfold cutT
 rw[show (2:Int)=((2:Nat):Int) from rfl,HT.sIx_nat]
 have e:min 2 (a::b::r).length=2:=by simp
 rw[e]
 show (r.take (HT.sIx (a::b::r).length (a::b::r).length none - 2))=r
 rw[HT.sIx_none]
 simp
theorem wrd3{m:Nat}(h:m < 3):wrdK m=zSun∨wrdK m=zWal∨wrdK m=zDil:=by
 match m,h with
 | 0,_=>exact .inl rfl
 | 1,_=>exact .inr (.inl rfl)
 | 2,_=>exact .inr (.inr rfl)
theorem tab_wrd{m:Nat}(h:m < 3):tabAt (wrdK m) d_NUMBERS_IN=some (cntK m:Int):=by
 match m,h with
 | 0,_=>decide +kernel
 | 1,_=>decide +kernel
 | 2,_=>decide +kernel
theorem idx_wrd{m:Nat}(h:m < 3):z_KINDS.idxOf (wrdK m)=m:=by
 match m,h with
 | 0,_=>decide +kernel
 | 1,_=>decide +kernel
 | 2,_=>decide +kernel
theorem in_wrd{m:Nat}(h:m < 3):z_KINDS.contains (wrdK m)=true:=by
 match m,h with
 | 0,_=>decide +kernel
 | 1,_=>decide +kernel
 | 2,_=>decide +kernel
def fstT(m:Nat)(z:List Nat):T:=if m=0 then numT (numL z) else .str (mkS z)
theorem row_go{m:Nat}{z:List Nat}{ns:List (List Nat)}{l:List Nat}{Q:T->Prop}(hm:m < 3)(e:(splL 32 l).map mkS=wrdK m::mkS z::ns.map mkS)(hL:l.length<=1000)(hn:∀w∈z::ns,Rdb 1000 w)(hl:ns.length=cntK m)
  (h:Q (.tup [.int (m:Nat),entT m (fstT m z) (ns.map fun w=>numT (numL w))])):Z0F {nx:=fun _=>Q .non,rt:=Q} [.val (.str (mkS l)),.no,.no,.no]:=by
 have sl:(mkS l).length<=1000000:=by simp[Str.length];omega
 have s1:((Str.ofString " ").length==0)=false:=by decide +kernel
 have sp:Str.ofString " " = ⟨#[32]⟩:=by decide +kernel
 have es:Txt.split (mkS l) (Str.ofString " ")=wrdK m::mkS z::ns.map mkS:=by rw[sp,split_any,← e]
 have ew:(wrdK m::mkS z::ns.map mkS).map T.str=.str (wrdK m) :: .str (mkS z)::ns.map fun w=>.str (mkS w):=by simp[List.map_map,Function.comp_def]
 have hin:=in_wrd hm
 have hmem:wrdK m∈z_KINDS:=by simpa using hin
 have l12:ns.length<=12:=by rw[hl];unfold cntK;split<;>omega
 unfold Z0F
 refine⟨s1,sl,?_⟩
 rw[es,ew]
 obtain⟨SE,hSE⟩:∃S,S=Z0f:=⟨_,rfl⟩
 obtain⟨SN,hSN⟩:∃S,S=Z05:=⟨_,rfl⟩
 rw[← hSE,← hSN]
 have c2:cutT (T.str (wrdK m)::T.str (mkS z)::List.map (fun w=>T.str (mkS w)) ns) (some 2) none=ns.map fun w=>T.str (mkS w):=cut_2 _ _ _
 have fin:(ns.map fun w=>T.str (mkS w)).length<=1000/\compT (gN 0) tTrue (wCall SN (aCons (wVar 0) aNil)) (ns.map fun w=>T.str (mkS w)) [] [Slot.no] fun rs=>wrdK m∈z_KINDS/\SE [T.str (wrdK m),fstT m z,T.lst rs] fun x=>Q (T.tup [T.int (z_KINDS.idxOf (wrdK m):Nat),x]):=by
  refine⟨by rw[List.length_map];omega,?_⟩
  rw[hSN]
  refine num_comp ns [] _ _ (fun w hw=>hn w (List.mem_cons_of_mem _ hw)) ?_
  rw[List.nil_append,idx_wrd hm,hSE]
  exact⟨hmem,m,_,_,rfl,hm,by rw[List.length_map];exact hl,h⟩
 have dt:decide (((List.map (fun w=>T.str (mkS w)) ns).length + 1 + 1:Nat)=(cntK m:Int) + 2)=true:=decide_eq_true (by rw[List.length_map];omega)
 have ht:=tab_wrd hm
 have w3:=wrd3 hm
 have f0:fstT m z=if m=0 then numT (numL z) else .str (mkS z):=rfl
 have ne:m≠0->wrdK m≠zSun:=fun q=>by
  match m,hm,q with
  | 1,_,_=>decide +kernel
  | 2,_,_=>decide +kernel
 have e0:m=0->wrdK m=zSun:=fun q=>by rw[q];rfl
 generalize wrdK m=k at *
 walk_at "tw"
 rw[show List.contains [Str.ofString "sun", Str.ofString "wall", Str.ofString "dial"] k=true from hin]
 refine⟨(fun q=>by cases q),fun _=>?_⟩
 rw[show (if k=Str.ofString "sun" then some 3 else if k=Str.ofString "wall" then some 9 else if k=Str.ofString "dial" then some 12 else none)=some (cntK m:Int) from ht]
 dsimp only
 rw[dt]
 refine⟨(fun q=>by cases q),fun _=>⟨k3_eq w3 (.inl rfl),fun q=>?_,fun q=>?_⟩⟩
 ·rw[eqT_str]at q
  have q0:=of_decide_eq_true q
  have m0:m=0:=by
   by_cases a:m=0
   ·exact a
   ·exact absurd q0 (ne a)
  rw[hSN]at fin ⊢
  refine⟨z,rfl,hn z List.mem_cons_self,?_⟩
  rw[c2]
  rw[f0,if_pos m0]at fin
  exact fin
 ·rw[eqT_str]at q
  have m0:¬ m=0:=fun a=>absurd (e0 a) (of_decide_eq_false q)
  rw[c2]
  rw[f0,if_neg m0]at fin
  exact fin
theorem row_len{m:Nat}{ws:List Str}{l:List Nat}{Q:T->Prop}(hm:m < 3)(e:(splL 32 l).map mkS=wrdK m::ws)(hL:l.length<=1000)(hl:ws.length + 1≠cntK m + 2)
  (h:Q .non):Z0F {nx:=fun _=>Q .non,rt:=Q} [.val (.str (mkS l)),.no,.no,.no]:=by
 have sl:(mkS l).length<=1000000:=by simp[Str.length];omega
 have s1:((Str.ofString " ").length==0)=false:=by decide +kernel
 have sp:Str.ofString " " = ⟨#[32]⟩:=by decide +kernel
 have es:Txt.split (mkS l) (Str.ofString " ")=wrdK m::ws:=by rw[sp,split_any,← e]
 have hin:=in_wrd hm
 unfold Z0F
 refine⟨s1,sl,?_⟩
 rw[es]
 obtain⟨SE,hSE⟩:∃S,S=Z0f:=⟨_,rfl⟩
 obtain⟨SN,hSN⟩:∃S,S=Z05:=⟨_,rfl⟩
 rw[← hSE,← hSN]
 have dt:decide (((List.map T.str ws).length + 1:Nat)=(cntK m:Int) + 2)=false:=decide_eq_false (by rw[List.length_map];omega)
 have ht:=tab_wrd hm
 generalize wrdK m=k at *
 obtain⟨WR,hWR⟩:∃W:WS,W=(sSeq (sSet 2 (wIfE (tCmpT cEqT (w2 rIxTT (wVar 1) (wC (.int 0))) (wC (.str (Str.ofString "sun")))) (wCall SN (aCons (w2 rIxTT (wVar 1) (wC (.int 1))) aNil)) (w2 rIxTT (wVar 1) (wC (.int 1)))))
  (sSeq (sSet 3 (wComp (iSeq (wSl (wVar 1) (wo (wC (.int 2))) wo0)) (gN 0) tTrue (wCall SN (aCons (wVar 0) aNil)) 1 []))
  (sRet (wTup (aCons (wIdxT t_KINDS (aCons (w2 rIxTT (wVar 1) (wC (.int 0))) aNil)) (aCons (wCall SE (aCons (w2 rIxTT (wVar 1) (wC (.int 0))) (aCons (wVar 2) (aCons (wVar 3) aNil)))) aNil)))))):=⟨_,rfl⟩
 rw[← hWR]
 simp only[List.map_cons]
 walk_at "tw"
 rw[show List.contains [Str.ofString "sun", Str.ofString "wall", Str.ofString "dial"] k=true from hin]
 refine⟨(fun q=>by cases q),fun _=>?_⟩
 rw[show (if k=Str.ofString "sun" then some 3 else if k=Str.ofString "wall" then some 9 else if k=Str.ofString "dial" then some 12 else none)=some (cntK m:Int) from ht]
 dsimp only
 rw[dt]
 exact⟨fun _=>h,fun q=>by cases q⟩
theorem row_kind{ws:List Str}{z:Str}{l:List Nat}{Q:T->Prop}(e:(splL 32 l).map mkS=z::ws)(hin:z_KINDS.contains z=false)(hL:l.length<=1000)
  (h:Q .non):Z0F {nx:=fun _=>Q .non,rt:=Q} [.val (.str (mkS l)),.no,.no,.no]:=by
 have sl:(mkS l).length<=1000000:=by simp[Str.length];omega
 have s1:((Str.ofString " ").length==0)=false:=by decide +kernel
 have sp:Str.ofString " " = ⟨#[32]⟩:=by decide +kernel
 have es:Txt.split (mkS l) (Str.ofString " ")=z::ws:=by rw[sp,split_any,← e]
 unfold Z0F
 refine⟨s1,sl,?_⟩
 rw[es]
 obtain⟨SE,hSE⟩:∃S,S=Z0f:=⟨_,rfl⟩
 obtain⟨SN,hSN⟩:∃S,S=Z05:=⟨_,rfl⟩
 rw[← hSE,← hSN]
 obtain⟨WR,hWR⟩:∃W:WS,W=(sSeq (sSet 2 (wIfE (tCmpT cEqT (w2 rIxTT (wVar 1) (wC (.int 0))) (wC (.str (Str.ofString "sun")))) (wCall SN (aCons (w2 rIxTT (wVar 1) (wC (.int 1))) aNil)) (w2 rIxTT (wVar 1) (wC (.int 1)))))
  (sSeq (sSet 3 (wComp (iSeq (wSl (wVar 1) (wo (wC (.int 2))) wo0)) (gN 0) tTrue (wCall SN (aCons (wVar 0) aNil)) 1 []))
  (sRet (wTup (aCons (wIdxT t_KINDS (aCons (w2 rIxTT (wVar 1) (wC (.int 0))) aNil)) (aCons (wCall SE (aCons (w2 rIxTT (wVar 1) (wC (.int 0))) (aCons (wVar 2) (aCons (wVar 3) aNil)))) aNil)))))):=⟨_,rfl⟩
 rw[← hWR]
 simp only[List.map_cons]
 walk_at "tw"
 rw[show List.contains [Str.ofString "sun", Str.ofString "wall", Str.ofString "dial"] z=false from hin]
 exact⟨fun _=>⟨fun _=>h,(fun q=>by cases q)⟩,fun q=>by cases q⟩
theorem rdb_split{n:Nat}{l:List Nat}(h:Rdb n l)(c:Nat):∀w∈splL c l,Rdb n w:=fun w hw=>⟨Nat.le_trans (splL_each c l w hw) h.len,fun x hx=>h.asc x (splL_sub c l w hw x hx)⟩
theorem rowW_is{m:Nat}{k z:List Nat}{ns:List (List Nat)}(hm:m < 3)(hk:mkS k=wrdK m)(hl:ns.length=cntK m):rowW (k::z::ns)=some (m,entT m (fstT m z) (ns.map fun w=>numT (numL w))):=by
 match m,hm,hk,hl with
 | 0,_,hk,hl =>
  have e:k=lSun:=mkS_inj (hk.trans mk_sun)
  have hl:ns.length=3:=hl
  subst e
  simp only[rowW,hl,if_pos]
  rfl
 | 1,_,hk,hl =>
  have e:k=lWal:=mkS_inj (hk.trans mk_wal)
  have hl:ns.length=9:=hl
  subst e
  simp only[rowW,if_neg (show ¬ lWal=lSun by decide),hl,if_pos]
  rfl
 | 2,_,hk,hl =>
  have e:k=lDil:=mkS_inj (hk.trans mk_dil)
  have hl:ns.length=12:=hl
  subst e
  simp only[rowW,if_neg (show ¬ lDil=lSun by decide),if_neg (show ¬ lDil=lWal by decide),hl,if_pos]
  rfl
theorem rowW_len{m:Nat}{k:List Nat}{ws:List (List Nat)}(hm:m < 3)(hk:mkS k=wrdK m)(hl:ws.length + 1≠cntK m + 2):rowW (k::ws)=none:=by
 cases ws with
 | nil=>rfl
 | cons z ns =>
  match m,hm,hk,hl with
  | 0,_,hk,hl =>
   have e:k=lSun:=mkS_inj (hk.trans mk_sun)
   subst e
   simp only[rowW,if_pos,if_neg (show ¬ ns.length=3 from fun q=>hl (by rw[List.length_cons,q];rfl))]
  | 1,_,hk,hl =>
   have e:k=lWal:=mkS_inj (hk.trans mk_wal)
   subst e
   simp only[rowW,if_neg (show ¬ lWal=lSun by decide),if_pos,if_neg (show ¬ ns.length=9 from fun q=>hl (by rw[List.length_cons,q];rfl))]
  | 2,_,hk,hl =>
   have e:k=lDil:=mkS_inj (hk.trans mk_dil)
   subst e
   simp only[rowW,if_neg (show ¬ lDil=lSun by decide),if_neg (show ¬ lDil=lWal by decide),if_pos,if_neg (show ¬ ns.length=12 from fun q=>hl (by rw[List.length_cons,q];rfl))]
theorem rowW_kind{k:List Nat}{ws:List (List Nat)}(hk:z_KINDS.contains (mkS k)=false):rowW (k::ws)=none:=by
 have h:∀z∈z_KINDS,mkS k≠z:=fun z hz q=>by
  rw[q]at hk
  have:z_KINDS.contains z=true:=by simpa using hz
  rw[this]at hk
  cases hk
 have n1:¬ k=lSun:=fun q=>h zSun (by simp) (by rw[q,mk_sun])
 have n2:¬ k=lWal:=fun q=>h zWal (by simp) (by rw[q,mk_wal])
 have n3:¬ k=lDil:=fun q=>h zDil (by simp) (by rw[q,mk_dil])
 cases ws with
 | nil=>rfl
 | cons z ns=>simp only[rowW,if_neg n1,if_neg n2,if_neg n3]
theorem kind_of{z:Str}(h:z_KINDS.contains z=true):∃m,m < 3/\z=wrdK m:=by
 have:z∈z_KINDS:=by simpa using h
 simp only[List.mem_cons,List.not_mem_nil,or_false]at this
 rcases this with rfl|rfl|rfl
 ·exact⟨0,by decide,rfl⟩
 ·exact⟨1,by decide,rfl⟩
 ·exact⟨2,by decide,rfl⟩
theorem Z3x:∀ts Q,Z07 ts Q->Z0F {nx:=fun _=>Q .non,rt:=Q} (startT 4 ts):=by
 rintro _ Q ⟨l,rfl,hl,h⟩
 have rb:=rdb_split hl 32
 unfold rowO at h
 cases e:splL 32 l with
 | nil=>exact absurd e (splL_ne 32 l)
 | cons k ws =>
  rw[e]at h rb
  have em:(splL 32 l).map mkS=mkS k::ws.map mkS:=by rw[e];rfl
  cases hin:z_KINDS.contains (mkS k) with
  | false =>
   rw[rowW_kind hin]at h
   exact row_kind em hin hl.len h
  | true =>
   obtain⟨m,hm,ek⟩:=kind_of hin
   by_cases hn:ws.length + 1=cntK m + 2
   ·cases ws with
    | nil=>exfalso;simp at hn
    | cons z ns =>
     have hn':ns.length=cntK m:=by simp at hn;omega
     rw[rowW_is hm ek hn']at h
     rw[ek]at em
     exact row_go hm em hl.len (fun w hw=>rb w (List.mem_cons_of_mem _ hw)) hn' h
   ·rw[rowW_len hm ek hn]at h
    rw[ek]at em
    exact row_len hm em hl.len (by rw[List.length_map];exact hn) h
def Z0t:SpT:=fun ts Q=>∃t,ts=[t]/\YdIn t/\Q (.bl (ydBad t).isNone)
theorem Z3y:∀ts Q,Z0t ts Q->ts.length=1:=by rintro ts Q ⟨_,e,_⟩;subst e;rfl
def Z2p:WS :=
 (sSeq (sTryF (fun R=>(sExpr (wCall (Z0E R) (aCons (wVar 0) aNil)))) false ["NoSun", "NoYard"])
  (sRet (wC (.bl true))))
theorem Z3O:∀ts Q,Z0t ts Q->Z2p {nx:=fun _=>Q .non,rt:=Q} (startT 1 ts):=by
 rintro _ Q ⟨t,rfl,hy,h⟩
 unfold Z2p
 walk_at "go"
 refine⟨t,rfl,hy,?_⟩
 cases e:ydBad t with
 | none =>
  rw[e]at h
  walk_at "go"
  exact h
 | some x =>
  rw[e]at h
  obtain⟨b,f⟩:=x
  cases b with
  | true=>exact⟨by simp,h⟩
  | false=>exact⟨by simp,h⟩
def ydOk(ls:List (List T)):Bool:=(ydBad (.tup (ls.map T.lst))).isNone
def stepL(ls:List (List T))(row:List Nat):Option (List (List T)):=match rowO row with
 | none=>none
 | some (k,e)=>if (ls.drop (k + 1)).any (fun l=>!l.isEmpty) then none else if ydOk (ls.set k (ls.getD k []++[e])) then some (ls.set k (ls.getD k []++[e])) else none
def loopL:Nat->List (List Nat)->List (List T)->Nat ⊕ List (List T)
 | _,[],ls=>.inr ls
 | n,r::rs,ls=>match stepL ls r with
  | none=>.inl n
  | some ls'=>loopL (n + 1) rs ls'
abbrev noRow(n:Nat):T:=.exf "NoRow" "row" (.int (n:Nat))
def TxIn(l:List Nat):Prop:=l.length<=100000/\∀row∈splL 10 l,Rdb 1000 row
def Z06:SpX:=fun R ts Q=>(∃l:List Nat,ts=[.str (mkS l)]/\TxIn l/\(match loopL 0 (splL 10 l) [[],[],[]] with | .inr ls=>Q (.tup (ls.map T.lst)) | .inl n=>R (noRow n))) ∨
 ∃t,ts=[t]/\noExc t/\isK .str t=false/\R (noRow 0)
theorem Z30:∀R ts Q,Z06 R ts Q->ts.length=1:=by
 rintro R ts Q (⟨_,e,_⟩|⟨_,e,_⟩)<;>(subst e;rfl)
def Z1w(R:T->Prop):WS :=
 (sSeq (sIf (tNotT (tVal (wIsi .str (wVar 0)))) (sRaiseF R "NoRow" "row" (wC (.int 0))) sNext)
  (sRd 1 2 3 4 (iEnum (aCons (wSplit (wVar 0) (aCons (wC (.str (Str.ofString "
"))) aNil)) aNil)) (wCall Z07 (aCons (wVar 3) aNil)) (tOrT (tCmpT cIsN (wVar 4) (wC .non)) (tVal (wCB rAnyTT (aCons (wSl (wVar 1) (wo (w2 rAddT (w2 rIxTT (wVar 4) (wC (.int 0))) (wC (.int 1)))) wo0) aNil)))) (sRaiseF R "NoRow" "row" (wVar 2)) (w2 rIxTT (wVar 4) (wC (.int 0))) (w2 rIxTT (wVar 4) (wC (.int 1))) (tNotT (tVal (wCall Z0t (aCons (wVar 1) aNil)))) (sRaiseF R "NoRow" "row" (wVar 2))))
theorem num_noExc(l:List Nat):noExc (numT (numL l)):=by cases numL l<;>trivial
theorem num_noL(l:List Nat):noL (numT (numL l))=true:=by cases numL l<;>rfl
abbrev nT(w:List Nat):T:=numT (numL w)
theorem tri_in(a b c:List Nat):TriIn (.tup [nT a,nT b,nT c]):=⟨trivial,fun x y z e=>by cases e;exact⟨num_noExc _,num_noExc _,num_noExc _⟩⟩
abbrev plW(a b c a' b' c' a'' b'' c'':List Nat):T:=.tup [.tup [nT a,nT b,nT c],.tup [nT a',nT b',nT c'],.tup [nT a'',nT b'',nT c'']]
theorem pl_in(a b c a' b' c' a'' b'' c'':List Nat):PlIn (plW a b c a' b' c' a'' b'' c''):=⟨trivial,fun x y z e=>by cases e;exact⟨tri_in _ _ _,tri_in _ _ _,tri_in _ _ _⟩⟩
theorem nm_in{z:List Nat}(h:Rdb 1000 z):NmIn (.str (mkS z)):=⟨trivial,fun s e=>by
 cases e
 refine⟨?_,by have:=h.len;simpa [Str.length] using this⟩
 rw[← Array.all_toList,List.all_eq_true]
 intro c k
 exact decide_eq_true (h.asc c (by simpa using k))⟩
structure EnIn(k:Nat)(e:T):Prop where
 lt:k < 3
 nl:noL e=true
 sun:k=0->RowIn e
 oth:k≠0->ThIn e
theorem row_in {l:List Nat} {k:Nat} {e:T} (hl:Rdb 1000 l) (h:rowO l=some (k,e)):EnIn k e:=by
 have rb:=rdb_split hl 32
 unfold rowO rowW at h
 split at h
 ·rename_i w z ns ew
  have hz:Rdb 1000 z:=rb z (by rw[ew];simp)
  clear rb ew
  split at h
  ·split at h
   ·rename_i hn
    match ns,hn,h with
    | [a,b,c],_,h =>
     simp only[Option.some.injEq,Prod.mk.injEq]at h
     obtain⟨rfl,rfl⟩:=h
     refine⟨by decide,?_,fun _=>?_,fun q=>absurd rfl q⟩
     ·show noL (.tup [nT z,.tup [nT a,nT b,nT c]])=true
      simp only[noL,noLs,num_noL,Bool.and_true]
     ·exact⟨trivial,fun x y e=>by cases e;exact⟨num_noExc _,tri_in _ _ _⟩⟩
   ·cases h
  ·split at h
   ·split at h
    ·rename_i hn
     match ns,hn,h with
     | [a,b,c,a',b',c',a'',b'',c''],_,h =>
      simp only[Option.some.injEq,Prod.mk.injEq]at h
      obtain⟨rfl,rfl⟩:=h
      refine⟨by decide,?_,fun q=>(by cases q),fun _=>⟨trivial,fun x y e=>?_,fun x y u e=>(by cases e)⟩⟩
      ·show noL (.tup [.str (mkS z),plW a b c a' b' c' a'' b'' c''])=true
       simp only[noL,noLs,num_noL,Bool.and_true]
      ·cases e
       exact⟨nm_in hz,pl_in _ _ _ _ _ _ _ _ _⟩
    ·cases h
   ·split at h
    ·split at h
     ·rename_i hn
      match ns,hn,h with
      | [a,b,c,a',b',c',a'',b'',c'',x,y,u],_,h =>
       simp only[Option.some.injEq,Prod.mk.injEq]at h
       obtain⟨rfl,rfl⟩:=h
       refine⟨by decide,?_,fun q=>(by cases q),fun _=>⟨trivial,fun x y e=>(by cases e),fun x y u e=>?_⟩⟩
       ·show noL (.tup [.str (mkS z),plW a b c a' b' c' a'' b'' c'',.tup [nT x,nT y,nT u]])=true
        simp only[noL,noLs,num_noL,Bool.and_true]
       ·cases e
        exact⟨nm_in hz,pl_in _ _ _ _ _ _ _ _ _,tri_in _ _ _⟩
     ·cases h
    ·cases h
 ·cases h
inductive LsIn:List (List T)->Prop where
 | mk {s w d:List T} (hs:∀r∈s,RowIn r) (hw:∀x∈w,ThIn x) (hd:∀x∈d,ThIn x) (ls:s.length<=99) (lw:w.length<=99) (ld:d.length<=99):LsIn [s,w,d]
theorem LsIn.yd{s w d:List T}(hs:∀r∈s,RowIn r)(hw:∀x∈w,ThIn x)(hd:∀x∈d,ThIn x)(lw:w.length<=100)(ld:d.length<=100):YdIn (.tup ([s,w,d].map T.lst)) :=
 ⟨trivial,fun a b c e=>by
  cases e
  exact⟨⟨trivial,fun rs e=>by cases e;exact hs⟩,⟨trivial,fun ts e=>by cases e;exact⟨lw,hw⟩⟩,trivial,fun ts e=>by cases e;exact⟨ld,hd⟩⟩⟩
theorem kdGo_all{n:Int}:∀{ts:List T}{i:Nat}{Z Z':List Str},kdGo n i Z ts=(none,Z')->Z'.length=Z.length + ts.length
 | [],i,Z,Z',h=>by
  have h':((none:Option T),Z)=(none,Z'):=h
  cases h'
  rfl
 | x::r,i,Z,Z',h=>by
  simp only[kdGo]at h
  split at h
  ·cases h
  ·split at h
   ·cases h
   ·have:=kdGo_all h
    simp at this ⊢
    omega
theorem ydOk_len{s w d:List T}(h:ydOk [s,w,d]=true):1<=s.length/\s.length<=80/\w.length<=20/\d.length<=20:=by
 unfold ydOk at h
 simp only[List.map_cons,List.map_nil,ydBad,sunBad,kdBad]at h
 by_cases a:1<=s.length/\s.length<=80
 ·rw [if_pos a]at h
  refine⟨a.1,a.2,?_⟩
  cases e:badAt (-1) 0 s with
  | some n=>rw[e]at h;cases h
  | none =>
   rw[e]at h
   simp only at h
   cases e1:kdGo 2 0 [] w with
   | mk f Z =>
    rw[e1]at h
    cases f with
    | some f=>cases h
    | none =>
     simp only at h
     have a1:=kdGo_all e1
     have a2:=kdGo_few (i:=0) (by decide) e1
     refine⟨by simp at a1 a2;omega,?_⟩
     cases e2:kdGo 3 0 Z d with
     | mk f Z' =>
      rw[e2]at h
      cases f with
      | some f=>cases h
      | none =>
       have b1:=kdGo_all e2
       have b2:=kdGo_few (i:=0) (by decide) e2
       omega
 ·rw[if_neg a]at h
  cases h
theorem LsIn.app{ls:List (List T)}{k:Nat}{e:T}(h:LsIn ls)(he:EnIn k e):YdIn (.tup ((ls.set k (ls.getD k []++[e])).map T.lst))/\(ydOk (ls.set k (ls.getD k []++[e]))=true->LsIn (ls.set k (ls.getD k []++[e])))/\∃us,ls[k]?=some us/\ls.getD k []=us/\us.length < 1000:=by
 cases h with
 | @mk s w d hs hw hd l1 l2 l3 =>
  have ap:∀{P:T->Prop}{l:List T},(∀x∈l,P x)->P e->∀x∈l++[e],P x:=fun h1 h2 x hx=>by
   rcases List.mem_append.mp hx with hx|hx
   ·exact h1 x hx
   ·rw[List.mem_singleton.mp hx];exact h2
  match k,he with
  | 0,he =>
   have q:=ap hs (he.sun rfl)
   refine⟨LsIn.yd q hw hd (by omega) (by omega),fun z=>?_,s,rfl,rfl,by omega⟩
   obtain⟨_,b,c,d'⟩:=ydOk_len (s:=s++[e]) (w:=w) (d:=d) z
   exact LsIn.mk (s:=s++[e]) q hw hd (by omega) (by omega) (by omega)
  | 1,he =>
   have q:=ap hw (he.oth (by decide))
   refine⟨LsIn.yd hs q hd (by simp;omega) (by omega),fun z=>?_,w,rfl,rfl,by omega⟩
   obtain⟨_,b,c,d'⟩:=ydOk_len (s:=s) (w:=w++[e]) (d:=d) z
   exact LsIn.mk (w:=w++[e]) hs q hd (by omega) (by omega) (by omega)
  | 2,he =>
   have q:=ap hd (he.oth (by decide))
   refine⟨LsIn.yd hs hw q (by omega) (by simp;omega),fun z=>?_,d,rfl,rfl,by omega⟩
   obtain⟨_,b,c,d'⟩:=ydOk_len (s:=s) (w:=w) (d:=d++[e]) z
   exact LsIn.mk (d:=d++[e]) hs hw q (by omega) (by omega) (by omega)
  | k + 3,he=>have:=he.lt;omega
theorem LsIn.len{ls:List (List T)}(h:LsIn ls):ls.length=3:=by cases h;rfl
theorem lstsOf_map:∀ls:List (List T),lstsOf (ls.map T.lst)=some ls
 | []=>rfl
 | l::r=>by simp only[List.map_cons,lstsOf,lstsOf_map r,Option.map]
abbrev rdU1:WT:=(tOrT (tCmpT cIsN (wVar 4) (wC .non)) (tVal (wCB rAnyTT (aCons (wSl (wVar 1) (wo (w2 rAddT (w2 rIxTT (wVar 4) (wC (.int 0))) (wC (.int 1)))) wo0) aNil))))
abbrev rdU2:WT:=(tNotT (tVal (wCall Z0t (aCons (wVar 1) aNil))))
abbrev rdNo(R:T->Prop):WS:=sRaiseF R "NoRow" "row" (wVar 2)
abbrev rdLoop(R:T->Prop):=rdT 1 2 3 4 (wCall Z07 (aCons (wVar 3) aNil)) rdU1 (rdNo R) (w2 rIxTT (wVar 4) (wC (.int 0))) (w2 rIxTT (wVar 4) (wC (.int 1))) rdU2 (rdNo R)
theorem cut_any{ls:List (List T)}{m:Nat}(hm:m < ls.length):¬ (HT.sIx (ls.map T.lst).length 0 (some ((m:Int) + 1))=0/\HT.sIx (ls.map T.lst).length (ls.map T.lst).length none=(ls.map T.lst).length)/\lstsOf (cutT (ls.map T.lst) (some ((m:Int) + 1)) none)=some (ls.drop (m + 1)):=by
 have e1:(m:Int) + 1=((m + 1:Nat):Int):=by omega
 rw[e1,HT.sIx_nat]
 have e2:min (m + 1) (ls.map T.lst).length=m + 1:=by rw[List.length_map];omega
 refine⟨fun z=>?_,?_⟩
 ·rw[e2]at z
  omega
 ·unfold cutT
  rw[HT.sIx_nat,e2,HT.sIx_none,List.take_of_length_le (by rw[List.length_drop];exact Nat.le_refl _),← List.map_drop]
  exact lstsOf_map _
theorem log_row{n:Nat}(h:n<=100000):(((n:Nat):Int)).natAbs.log2 < 1920:=by
 rw[Int.natAbs_natCast]
 by_cases z:n=0
 ·rw[z];decide
 ·have:n.log2 < 17:=(Nat.log2_lt z).mpr (by omega)
  omega
theorem rd_step{R:T->Prop}{ls:List (List T)}{row:List Nat}{n:Nat}{ts:List T}{s0 s2 s3 s4:Slot}{Q:List T->Prop}(hI:LsIn ls)(hr:Rdb 1000 row)(hn:n<=100000)(hno:stepL ls row=none->R (noRow n))
  (hyes:∀ls' s4,stepL ls row=some ls'->LsIn ls'->rdLoop R ts ls' Q [s0,.no,.val (.int (n:Nat)),.val (.str (mkS row)),s4]):rdLoop R (.tup [.int (n:Nat),.str (mkS row)]::ts) ls Q [s0,.no,s2,s3,s4]:=by
 have fr:(stepL ls row=none->FldT (.int (n:Nat))/\R (noRow n)):=fun q=>⟨log_row hn,hno q⟩
 have hrr:∀Q:T->Prop,Q (rowT (rowO row))->Z07 [.str (mkS row)] Q:=fun Q q=>⟨row,rfl,hr,q⟩
 have hyy:∀(t:T)(Q:T->Prop),YdIn t->Q (.bl (ydBad t).isNone)->Z0t [t] Q:=fun t Q hy q=>⟨t,rfl,hy,q⟩
 obtain⟨SR,hSR⟩:∃S,S=Z07:=⟨_,rfl⟩
 obtain⟨SY,hSY⟩:∃S,S=Z0t:=⟨_,rfl⟩
 unfold rdLoop rdU1 rdU2 rdNo at hyes ⊢
 rw[← hSR]at hrr
 rw[← hSY]at hyy
 rw[← hSR,← hSY]at hyes ⊢
 clear hSR hSY
 generalize hF:rdT 1 2 3 4 (wCall SR (aCons (wVar 3) aNil)) (tOrT (tCmpT cIsN (wVar 4) (wC .non)) (tVal (wCB rAnyTT (aCons (wSl (wVar 1) (wo (w2 rAddT (w2 rIxTT (wVar 4) (wC (.int 0))) (wC (.int 1)))) wo0) aNil)))) (sRaiseF R "NoRow" "row" (wVar 2)) (w2 rIxTT (wVar 4) (wC (.int 0))) (w2 rIxTT (wVar 4) (wC (.int 1))) (tNotT (tVal (wCall SY (aCons (wVar 1) aNil)))) (sRaiseF R "NoRow" "row" (wVar 2))=F at hyes ⊢
 subst hF
 simp only[rdT]
 generalize hF:rdT 1 2 3 4 (wCall SR (aCons (wVar 3) aNil)) (tOrT (tCmpT cIsN (wVar 4) (wC .non)) (tVal (wCB rAnyTT (aCons (wSl (wVar 1) (wo (w2 rAddT (w2 rIxTT (wVar 4) (wC (.int 0))) (wC (.int 1)))) wo0) aNil)))) (sRaiseF R "NoRow" "row" (wVar 2)) (w2 rIxTT (wVar 4) (wC (.int 0))) (w2 rIxTT (wVar 4) (wC (.int 1))) (tNotT (tVal (wCall SY (aCons (wVar 1) aNil)))) (sRaiseF R "NoRow" "row" (wVar 2))=F at hyes ⊢
 walk_at "tw"
 refine hrr _ ?_
 cases er:rowO row with
 | none =>
  have sn:stepL ls row=none:=by unfold stepL;rw[er]
  simp only[rowT]
  try walk_at "tw"
  exact⟨fun _=>⟨fun _=>fr sn,(fun z=>by cases z)⟩,fun z=>by cases z⟩
 | some x =>
  obtain⟨k,e⟩:=x
  have en:=row_in hr er
  obtain⟨yi,lo,us,eu,eg,lu⟩:=hI.app en
  obtain⟨c1,c2⟩:=cut_any (ls:=ls) (m:=k) (by rw[hI.len];exact en.lt)
  have st:stepL ls row=if (ls.drop (k + 1)).any (fun l=>!l.isEmpty) then none else if ydOk (ls.set k (ls.getD k []++[e])) then some (ls.set k (ls.getD k []++[e])) else none:=by unfold stepL;rw[er]
  simp only[rowT]
  walk_at "tw"
  refine⟨(fun z=>by cases z),fun _=>⟨c1,?_⟩⟩
  rw[c2]
  dsimp only
  refine⟨fun z=>?_,fun z=>⟨k,us,rfl,eu,lu,en.nl,?_⟩⟩
  ·rw[if_pos z]at st
   exact fr st
  ·rw[if_neg (by rw[z];decide)]at st
   rw[eg]at st yi lo
   refine hyy _ _ yi ?_
   have ey:(ydBad (.tup ((ls.set k (us++[e])).map T.lst))).isNone=ydOk (ls.set k (us++[e])):=rfl
   rw[ey]
   refine⟨fun q=>?_,fun q=>?_⟩
   ·have q':ydOk (ls.set k (us++[e]))=false:=by simpa using q
    rw[q',if_neg (by decide)]at st
    exact fr st
   ·have q':ydOk (ls.set k (us++[e]))=true:=by simpa using q
    rw[q',if_pos rfl]at st
    exact hyes _ _ st (lo q')
theorem enumT_cons(i:Nat)(t:T)(r:List T):enumT i (t::r)=.tup [.int i,t]::enumT (i + 1) r:=rfl
theorem rd_loop{R:T->Prop}{s0:Slot}{Q:List T->Prop}:∀(rows:List (List Nat))(n:Nat)(ls:List (List T))(s2 s3 s4:Slot),LsIn ls->(∀r∈rows,Rdb 1000 r)->n + rows.length<=100001->(match loopL n rows ls with | .inr ls=>Q (ls.map T.lst) | .inl n=>R (noRow n)) →
  rdLoop R (enumT n (rows.map fun r=>.str (mkS r))) ls Q [s0,.no,s2,s3,s4]
 | [],n,ls,s2,s3,s4,_,_,_,h=>by
  simp only[List.map_nil,enumT,rdLoop,rdT]
  exact h
 | r::rows,n,ls,s2,s3,s4,hI,hr,hn,h=>by
  have ih:=fun (ls:List (List T)) (s2 s3 s4:Slot) hI h=>rd_loop (R:=R) (s0:=s0) (Q:=Q) rows (n + 1) ls s2 s3 s4 hI (fun x hx=>hr x (List.mem_cons_of_mem _ hx)) (by simp at hn;omega) h
  rw[List.map_cons,enumT_cons]
  simp only[loopL]at h
  refine rd_step hI (hr r List.mem_cons_self) (by simp at hn;omega) (fun q=>?_) fun ls' s4 q hI'=>?_
  ·rw[q]at h
   exact h
  ·rw[q]at h
   exact ih ls' _ _ _ hI' h
theorem Z3g:∀R ts Q,Z06 R ts Q->Z1w R {nx:=fun _=>Q .non,rt:=Q} (startT 5 ts):=by
 rintro R _ Q (⟨l,rfl,hl,h⟩|⟨t,rfl,ne,hk,h⟩)
 ·have sp:Str.ofString "\n" = ⟨#[10]⟩:=by decide +kernel
  have s1:((Str.ofString "\n").length==0)=false:=by decide +kernel
  have sl:(mkS l).length<=1000000:=by have:=hl.1;simp[Str.length];omega
  have es:(Txt.split (mkS l) (Str.ofString "\n")).map T.str=(splL 10 l).map fun r=>T.str (mkS r):=by rw[sp,split_any,List.map_map];rfl
  have fin:=rd_loop (R:=R) (s0:=.val (.str (mkS l))) (Q:=fun us=>Q (.tup us)) (splL 10 l) 0 [[],[],[]] .no .no .no (.mk (by simp) (by simp) (by simp) (by decide) (by decide) (by decide)) hl.2 (by have:=splL_len 10 l;have:=hl.1;omega) h
  rw[← es]at fin
  unfold Z1w
  obtain⟨W0,hW0⟩:∃W:WS,W=sRd 1 2 3 4 (iEnum (aCons (wSplit (wVar 0) (aCons (wC (.str (Str.ofString "\n"))) aNil)) aNil)) (wCall Z07 (aCons (wVar 3) aNil)) rdU1 (rdNo R) (w2 rIxTT (wVar 4) (wC (.int 0))) (w2 rIxTT (wVar 4) (wC (.int 1))) rdU2 (rdNo R):=⟨_,rfl⟩
  have main:W0 {nx:=fun _=>Q .non,rt:=Q} [.val (.str (mkS l)),.no,.no,.no,.no]:=by
   rw[hW0]
   refine⟨⟨by show 1 < 5;decide,by show 2 < 5;decide,by show 3 < 5;decide,by show 4 < 5;decide,fun j=>?_⟩,?_⟩
   ·match j with
    | 0=>rfl
    | 1=>rfl
    | 2=>rfl
    | 3=>rfl
    | 4=>rfl
    | j + 5=>rfl
   ·exact⟨s1,sl,fin⟩
  show (sSeq (sIf (tNotT (tVal (wIsi .str (wVar 0)))) (sRaiseF R "NoRow" "row" (wC (.int 0))) sNext) (sRd 1 2 3 4 (iEnum (aCons (wSplit (wVar 0) (aCons (wC (.str (Str.ofString "\n"))) aNil)) aNil)) (wCall Z07 (aCons (wVar 3) aNil)) rdU1 (rdNo R) (w2 rIxTT (wVar 4) (wC (.int 0))) (w2 rIxTT (wVar 4) (wC (.int 1))) rdU2 (rdNo R))) _ _
  rw[← hW0]
  clear hW0 fin
  walk_at "go"
  exact main
 ·have fr:FldT (.int 0)/\R (.exf "NoRow" "row" (.int 0)):=⟨by show (0:Int).natAbs.log2 < 1920;decide,h⟩
  unfold Z1w
  obtain⟨W0,hW0⟩:∃W:WS,W=sRd 1 2 3 4 (iEnum (aCons (wSplit (wVar 0) (aCons (wC (.str (Str.ofString "\n"))) aNil)) aNil)) (wCall Z07 (aCons (wVar 3) aNil)) rdU1 (rdNo R) (w2 rIxTT (wVar 4) (wC (.int 0))) (w2 rIxTT (wVar 4) (wC (.int 1))) rdU2 (rdNo R):=⟨_,rfl⟩
  show (sSeq (sIf (tNotT (tVal (wIsi .str (wVar 0)))) (sRaiseF R "NoRow" "row" (wC (.int 0))) sNext) (sRd 1 2 3 4 (iEnum (aCons (wSplit (wVar 0) (aCons (wC (.str (Str.ofString "\n"))) aNil)) aNil)) (wCall Z07 (aCons (wVar 3) aNil)) rdU1 (rdNo R) (w2 rIxTT (wVar 4) (wC (.int 0))) (w2 rIxTT (wVar 4) (wC (.int 1))) rdU2 (rdNo R))) _ _
  rw[← hW0]
  clear hW0
  walk_at "tw"
  refine⟨ne,?_⟩
  show ((!isK .str t)=true->_)/\((!isK .str t)=false->_)
  rw[hk]
  exact⟨fun _=>fr,fun z=>by cases z⟩
def selfOk(k:Nat)(e:T):Bool:=match k with
 | 0=>rowOk e
 | 1=>(thNm 2 0 e).isSome&&stand e
 | _=>(thNm 3 0 e).isSome&&stand e
def noneB(row:List Nat):Bool:=match rowO row with
 | none=>true
 | some (k,e)=>!selfOk k e
theorem badAt_app{e:T}:∀{us:List T}{l:Int}{n:Nat},badAt l n (us++[e])=none->rowOk e=true
 | [],l,n,h=>by
  cases q:rowOk e with
  | true=>rfl
  | false=>rw[show []++[e]=[e] from rfl,bad_no (.inl q)]at h;cases h
 | r::us,l,n,h=>by
  rw[List.cons_append]at h
  unfold badAt at h
  split at h
  ·exact badAt_app h
  ·cases h
theorem thNm_any{n:Int}{i:Nat}{e:T}{z:Str}(h:thNm n i e=some z):thNm n 0 e=some z:=by
 unfold thNm at h ⊢
 rw[if_neg (by decide)]
 split at h
 ·cases h
 ·exact h
theorem kdGo_app{n:Int}{e:T}:∀{us:List T}{i:Nat}{Z Z':List Str},kdGo n i Z (us++[e])=(none,Z')->(thNm n 0 e).isSome=true/\stand e=true
 | [],i,Z,Z',h=>by
  rw[show []++[e]=[e] from rfl]at h
  simp only[kdGo]at h
  split at h
  ·cases h
  ·rename_i z ez
   split at h
   ·cases h
   ·rename_i q
    refine⟨by rw[thNm_any ez];rfl,?_⟩
    simp only[Bool.or_eq_true,not_or,Bool.not_eq_true']at q
    cases s:stand e with
    | true=>rfl
    | false=>exact absurd s q.2
 | x::us,i,Z,Z',h=>by
  rw[List.cons_append]at h
  simp only[kdGo]at h
  split at h
  ·cases h
  ·split at h
   ·cases h
   ·exact kdGo_app h
theorem ydOk_parts{s w d:List T}(h:ydOk [s,w,d]=true):badAt (-1) 0 s=none/\∃Z Z',kdGo 2 0 [] w=(none,Z)/\kdGo 3 0 Z d=(none,Z'):=by
 have hl:=ydOk_len h
 unfold ydOk at h
 simp only[List.map_cons,List.map_nil,ydBad,sunBad,kdBad]at h
 rw[if_pos ⟨hl.1,hl.2.1⟩]at h
 cases e:badAt (-1) 0 s with
 | some n=>rw[e]at h;cases h
 | none =>
  rw[e]at h
  simp only at h
  cases e1:kdGo 2 0 [] w with
  | mk f Z =>
   rw[e1]at h
   cases f with
   | some f=>cases h
   | none =>
    simp only at h
    cases e2:kdGo 3 0 Z d with
    | mk f Z' =>
     rw[e2]at h
     cases f with
     | some f=>cases h
     | none=>exact⟨rfl,Z,Z',rfl,e2⟩
abbrev lit(z:Str):List Nat:=z.cps.toList
theorem spl_jn{c:Nat}{zs:List (List Nat)}(ne:zs≠[])(h:∀z∈zs,c∉z):splL c (jnL c zs)=zs:=jn_inj (splL_ne c _) ne (splL_no c _) h (splL_jn c _)
theorem sum_le{n:Nat}:∀{rows:List (List Nat)},(∀r∈rows,r.length<=n)->(rows.map List.length).sum<=rows.length * n
 | [],_=>by simp
 | r::rs,h=>by
  have ih:=sum_le fun x hx=>h x (List.mem_cons_of_mem _ hx)
  have h0:=h r List.mem_cons_self
  simp only[List.map_cons,List.sum_cons,List.length_cons,Nat.add_mul,Nat.one_mul]
  omega
theorem jn_len(c:Nat):∀zs:List (List Nat),zs≠[]->(jnL c zs).length + 1=(zs.map List.length).sum + zs.length
 | [],h=>absurd rfl h
 | [z],_=>by simp[jnL]
 | z::y::r,_=>by
  have ih:=jn_len c (y::r) (by simp)
  show (z++c::jnL c (y::r)).length + 1=_
  simp only[List.length_append,List.length_cons,List.map_cons,List.sum_cons]at ih ⊢
  omega
theorem join_mk(c:Nat)(zs:List (List Nat)):Txt.join ⟨#[c]⟩ (zs.map mkS)=mkS (jnL c zs):=by
 rw[join_eq]
 apply Str.ext'
 apply Array.toList_inj.mp
 rw[join_list,List.map_map]
 have:zs.map ((fun z:Str=>z.cps.toList) ∘ mkS)=zs:=by
  rw[List.map_congr_left (g:=id) (fun p _=>by simp[Function.comp,mkS]),List.map_id]
 rw[this]
theorem strs_mk(zs:List (List Nat)):strsOf (zs.map fun w=>T.str (mkS w))=some (zs.map mkS):=by
 induction zs with
 | nil=>rfl
 | cons z r ih=>simp only[List.map_cons,strsOf,ih,Option.map]
theorem sum_mk(zs:List (List Nat)):((zs.map mkS).map (·.length)).sum=(zs.map List.length).sum:=by
 induction zs with
 | nil=>rfl
 | cons z r ih=>simp only[List.map_cons,List.sum_cons,ih];simp[Str.length]
theorem mk_app(a b:Str):a++b=mkS (lit a++lit b):=by
 apply Str.ext'
 apply Array.toList_inj.mp
 rw[Str.cps_append,Array.toList_append]
theorem lit_app(a b:Str):lit (a++b)=lit a++lit b:=by rw[mk_app]
inductive ER where
 | sun (h:Int) (d:T)
 | wal (n:Str) (p:T) (b:Bool)
 | dil (n:Str) (p x:T) (b:Bool)
 | non
abbrev zNon:Str:=Str.ofString "none"
def erT:ER->List Nat->T
 | .sun h _,l=>.tup [.str zSun,.int h,.str (mkS l)]
 | .wal n _ b,l=>.tup [.str zWal,.tup [.str n,.bl b],.str (mkS l)]
 | .dil n _ _ b,l=>.tup [.str zDil,.tup [.str n,.bl b],.str (mkS l)]
 | .non,l=>.tup [.str zNon,.non,.str (mkS l)]
def erIs:ER->List Nat->Prop
 | .sun h d,l=>rowO l=some (0,.tup [.int h,d])/\rowOk (.tup [.int h,d])=true
 | .wal n p b,l=>rowO l=some (1,.tup [.str n,p])/\nmB n=true/\platOk p=!b
 | .dil n p x b,l=>rowO l=some (2,.tup [.str n,p,x])/\nmB n=true/\stand (.tup [.str n,p,x])=!b
 | .non,l=>noneB l=true
structure ErOk(r:ER)(l:List Nat):Prop where
 len:l.length<=200
 asc:∀c∈l,c < 128/\c≠10
 is:erIs r l
theorem ErOk.rdb{r:ER}{l:List Nat}(h:ErOk r l):Rdb 1000 l:=⟨by have:=h.len;omega,fun c hc=>(h.asc c hc).1⟩
structure YS where
 s:List (Int×T)
 w:List (Str×T)
 d:List (Str×T×T)
abbrev sE(x:Int×T):T:=.tup [.int x.1,x.2]
abbrev wE(x:Str×T):T:=.tup [.str x.1,x.2]
abbrev dE(x:Str×T×T):T:=.tup [.str x.1,x.2.1,x.2.2]
def YS.ls(y:YS):List (List T):=[y.s.map sE,y.w.map wE,y.d.map dE]
def lastH:List (Int×T)->Int->Int
 | [],l=>l
 | x::r,_=>lastH r x.1
def YS.last(y:YS):Int:=lastH y.s (-1)
def YS.names(y:YS):List Str:=y.w.map (·.1)++y.d.map (·.1)
def stepA(y:YS):ER->Option YS
 | .sun h d=>if !y.names.isEmpty||(decide (h<=y.last)||decide (80 < y.s.length + 1)) then none else some ⟨y.s++[(h,d)],y.w,y.d⟩
 | .wal n p b=>if decide (y.s.length=0)||(y.names.contains n||(b||decide (20 < y.w.length + 1))) then none else if 0 < y.d.length then none else some ⟨y.s,y.w++[(n,p)],y.d⟩
 | .dil n p x b=>if decide (y.s.length=0)||(y.names.contains n||(b||decide (20 < y.d.length + 1))) then none else some ⟨y.s,y.w,y.d++[(n,p,x)]⟩
 | .non=>none
def goA:Nat->List ER->YS->Nat ⊕ YS
 | _,[],y=>.inr y
 | n,r::rs,y=>match stepA y r with
  | none=>.inl n
  | some y'=>goA (n + 1) rs y'
structure YS.Ok(y:YS):Prop where
 sb:badAt (-1) 0 (y.s.map sE)=none
 sl:y.s.length<=80
 wk:kdGo 2 0 [] (y.w.map wE)=(none,y.w.map (·.1))
 dk:kdGo 3 0 (y.w.map (·.1)) (y.d.map dE)=(none,y.names)
 wl:y.w.length<=20
 dl:y.d.length<=20
 no:y.s=[]->y.w=[]/\y.d=[]
theorem bad_snoc{h:Int}{d:T}:∀(s:List (Int×T))(l:Int)(n:Nat),badAt l n (s.map sE)=none->badAt l n (s.map sE++[.tup [.int h,d]])=if rowOk (.tup [.int h,d])&&decide (lastH s l < h) then none else some (n + s.length)
 | [],l,n,_=>by
  simp only[List.map_nil,List.nil_append,badAt,lastH,hrT,List.length_nil,Nat.add_zero]
  rfl
 | x::s,l,n,e=>by
  simp only[List.map_cons,List.cons_append]at e ⊢
  unfold badAt at e ⊢
  split at e
  ·rename_i q
   rw[if_pos q]
   have ih:=bad_snoc (h:=h) (d:=d) s x.1 (n + 1) e
   show badAt x.1 (n + 1) _=_
   rw[ih,List.length_cons,Nat.add_right_comm,Nat.add_assoc]
   rfl
  ·cases e
theorem kd_snoc{k:Int}{e:T}:∀(ts:List T)(i:Nat)(Z Z':List Str),kdGo k i Z ts=(none,Z')->kdGo k i Z (ts++[e])=kdGo k (i + ts.length) Z' [e]
 | [],i,Z,Z',h=>by
  have h':((none:Option T),Z)=(none,Z'):=h
  cases h'
  rfl
 | x::r,i,Z,Z',h=>by
  rw[List.cons_append]
  simp only[kdGo]at h
  rw[kdGo]
  split at h
  ·cases h
  ·rename_i z ez
   split at h
   ·cases h
   ·rename_i q
    rw[if_neg q,kd_snoc r (i + 1) _ _ h,List.length_cons,Nat.add_right_comm,Nat.add_assoc]
theorem isS{s:Str}(h:nmB s=true):nmOf (.str s)=some s:=by
 show (if nmB s=true then some s else none)=some s
 rw[if_pos h]
theorem YS.names_len(y:YS):y.names.length=y.w.length + y.d.length:=by simp[YS.names]
theorem ydOk_of{s w d:List T}{Z Z':List Str}(h1:1<=s.length)(h2:s.length<=80)(h3:badAt (-1) 0 s=none)(h4:kdGo 2 0 [] w=(none,Z))(h5:kdGo 3 0 Z d=(none,Z')):ydOk [s,w,d]=true:=by
 unfold ydOk
 simp only[List.map_cons,List.map_nil,ydBad,sunBad,kdBad]
 rw[if_pos ⟨h1,h2⟩,h3]
 simp only
 rw[h4]
 simp only
 rw[h5]
 rfl
theorem ydOk_not{ls:List (List T)}(h:¬ ydOk ls=true):ydOk ls=false:=by simpa using h
theorem anyE{α:Type}{f:α->T}(l:List α):(!(l.map f).isEmpty)=decide (0 < l.length):=by
 cases l with
 | nil=>rfl
 | cons x r=>simp
theorem step_eq{y:YS}{r:ER}{l:List Nat}(hy:y.Ok)(hl:ErOk r l):(match stepA y r with|none=>stepL y.ls l=none|some y'=>stepL y.ls l=some y'.ls/\y'.Ok):=by
 have wn:=y.names_len
 cases r with
 | non =>
  have hI:LsIn y.ls∨True:=.inr trivial
  show stepL y.ls l=none
  have hn:noneB l=true:=hl.is
  unfold stepL
  unfold noneB at hn
  cases er:rowO l with
  | none=>rfl
  | some x =>
   obtain⟨k,e⟩:=x
   rw[er]at hn
   simp only at hn ⊢
   have en:=row_in hl.rdb er
   have ne:selfOk k e=false:=by simpa using hn
   split
   ·rfl
   ·split
    ·rename_i q
     exfalso
     match k,en,ne,q with
     | 0,_,ne,q =>
      have:=badAt_app (ydOk_parts (s:=y.s.map sE++[e]) (w:=y.w.map wE) (d:=y.d.map dE) q).1
      rw[show selfOk 0 e=rowOk e from rfl,this]at ne
      cases ne
     | 1,_,ne,q =>
      obtain⟨_,Z,Z',h1,_⟩:=ydOk_parts (s:=y.s.map sE) (w:=y.w.map wE++[e]) (d:=y.d.map dE) q
      have:=kdGo_app h1
      rw[show selfOk 1 e=((thNm 2 0 e).isSome&&stand e) from rfl,this.1,this.2]at ne
      cases ne
     | 2,_,ne,q =>
      obtain⟨_,Z,Z',_,h2⟩:=ydOk_parts (s:=y.s.map sE) (w:=y.w.map wE) (d:=y.d.map dE++[e]) q
      have:=kdGo_app h2
      rw[show selfOk 2 e=((thNm 3 0 e).isSome&&stand e) from rfl,this.1,this.2]at ne
      cases ne
     | k + 3,en,_,_=>have:=en.lt;omega
    ·rfl
 | sun h d =>
  obtain⟨er,ro⟩:=hl.is
  have st:stepL y.ls l=if (!(y.w.map wE).isEmpty || !(y.d.map dE).isEmpty) then none else if ydOk [y.s.map sE++[.tup [.int h,d]],y.w.map wE,y.d.map dE] then some [y.s.map sE++[.tup [.int h,d]],y.w.map wE,y.d.map dE] else none:=by
   unfold stepL
   rw[er]
   simp[YS.ls]
  have bs:=bad_snoc (h:=h) (d:=d) y.s (-1) 0 hy.sb
  rw[anyE,anyE]at st
  simp only[stepA]
  by_cases c1:y.names=[]
  ·have wz:y.w.length=0/\y.d.length=0:=by rw[c1]at wn;simp at wn;omega
   have w0:y.w=[]:=List.length_eq_zero_iff.mp wz.1
   have d0:y.d=[]:=List.length_eq_zero_iff.mp wz.2
   rw[wz.1,wz.2,if_neg (by decide)]at st
   rw[c1]
   by_cases c2:h<=y.last
   ·rw[if_pos (by simp[c2])]
    rw[st,ydOk_not,if_neg (by decide)]
    intro q
    have q1:=(ydOk_parts q).1
    rw[bs,if_neg (by simp[YS.last]at c2 ⊢;intro _;omega)]at q1
    cases q1
   ·by_cases c3:80 < y.s.length + 1
    ·rw[if_pos (by simp[c3])]
     rw[st,ydOk_not,if_neg (by decide)]
     intro q
     have:=ydOk_len q
     simp at this
     omega
    ·rw[if_neg (by simp[c2];omega)]
     have bn:badAt (-1) 0 (y.s.map sE++[.tup [.int h,d]])=none:=by rw[bs,if_pos (by rw[ro,Bool.true_and];exact decide_eq_true (by unfold YS.last at c2;omega))]
     have ok:ydOk [y.s.map sE++[.tup [.int h,d]],y.w.map wE,y.d.map dE]=true:=ydOk_of (by simp) (by simp;omega) bn hy.wk hy.dk
     rw[ok,if_pos rfl]at st
     refine⟨by rw[st];simp[YS.ls],⟨by simpa using bn,by simp;omega,hy.wk,hy.dk,hy.wl,hy.dl,fun z=>absurd z (by simp)⟩⟩
  ·rw[if_pos (by simp[c1])]
   have:0 < y.w.length∨0 < y.d.length:=by
    have:y.names.length≠0:=fun z=>c1 (List.length_eq_zero_iff.mp z)
    omega
   rw[st,if_pos (by rcases this with q|q<;>simp[q])]
 | wal n p b =>
  obtain⟨er,nm,pb⟩:=hl.is
  have st:stepL y.ls l=if !(y.d.map dE).isEmpty then none else if ydOk [y.s.map sE,y.w.map wE++[.tup [.str n,p]],y.d.map dE] then some [y.s.map sE,y.w.map wE++[.tup [.str n,p]],y.d.map dE] else none:=by
   unfold stepL
   rw[er]
   simp[YS.ls]
  have ks:=kd_snoc (e:=.tup [.str n,p]) _ _ _ _ hy.wk
  rw[Nat.zero_add,List.length_map]at ks
  rw[anyE]at st
  simp only[stepA]
  by_cases c4:0 < y.d.length
  ·rw[if_pos (decide_eq_true c4)]at st
   rw[if_pos c4]
   split
   ·rename_i q
    split at q
    ·exact st
    ·exact st
   ·rename_i q
    split at q<;>cases q
  ·have d0:y.d=[]:=List.length_eq_zero_iff.mp (by omega)
   have nn:y.names=y.w.map (·.1):=by unfold YS.names;rw[d0];simp
   rw[if_neg (by simp;omega)]at st
   rw[if_neg c4]
   have kd:kdGo 2 y.w.length (y.w.map (·.1)) [.tup [.str n,p]]=if y.w.length=20 then (some .non,y.w.map (·.1)) else if (y.w.map (·.1)).contains n||b then (some (.str n),y.w.map (·.1)) else (none,y.w.map (·.1)++[n]):=by
    simp only[kdGo,thNm]
    by_cases c:y.w.length=20
    ·rw[if_pos c,if_pos c]
    ·rw[if_neg c,if_neg c,if_pos trivial,isS nm]
     simp only[stand,pb,Bool.not_not]
   by_cases c1:y.s.length=0
   ·rw[if_pos (by simp[c1])]
    rw[st,ydOk_not,if_neg (by decide)]
    intro q
    have:=ydOk_len q
    simp[c1]at this
   ·rw[decide_eq_false c1,Bool.false_or,nn]
    by_cases c2:((y.w.map (·.1)).contains n||b)=true
    ·rw[if_pos (by rw[← Bool.or_assoc,c2,Bool.true_or])]
     rw[st,ydOk_not,if_neg (by decide)]
     intro q
     obtain⟨_,Z,Z',h1,_⟩:=ydOk_parts q
     rw[ks,kd]at h1
     split at h1
     ·cases h1
     ·cases h1
    ·by_cases c3:20 < y.w.length + 1
     ·rw[if_pos (by simp[c3])]
      rw[st,ydOk_not,if_neg (by decide)]
      intro q
      have:=ydOk_len q
      simp at this
      omega
     ·have c2':((y.w.map (·.1)).contains n||b)=false:=by simpa using c2
      rw[if_neg (by rw[← Bool.or_assoc,c2',Bool.false_or];simp;omega)]
      have kn:kdGo 2 0 [] (y.w.map wE++[.tup [.str n,p]])=(none,y.w.map (·.1)++[n]):=by rw[ks,kd,if_neg (by omega),if_neg c2]
      have ok:ydOk [y.s.map sE,y.w.map wE++[.tup [.str n,p]],y.d.map dE]=true:=ydOk_of (by simp;omega) (by have:=hy.sl;simpa using this) hy.sb kn (by rw[d0];rfl)
      rw[ok,if_pos rfl]at st
      refine⟨by rw[st];simp[YS.ls],⟨hy.sb,hy.sl,by simpa using kn,?_,by simp;omega,hy.dl,fun z=>absurd (by rw[z];rfl) c1⟩⟩
      show kdGo 3 0 ((y.w++[(n,p)]).map (·.1)) (y.d.map dE)=_
      rw[d0]
      simp[kdGo,YS.names]
 | dil n p x b =>
  obtain⟨er,nm,pb⟩:=hl.is
  have st:stepL y.ls l=if ydOk [y.s.map sE,y.w.map wE,y.d.map dE++[.tup [.str n,p,x]]] then some [y.s.map sE,y.w.map wE,y.d.map dE++[.tup [.str n,p,x]]] else none:=by
   unfold stepL
   rw[er]
   simp[YS.ls]
  have ks:=kd_snoc (e:=.tup [.str n,p,x]) _ _ _ _ hy.dk
  rw[Nat.zero_add,List.length_map]at ks
  simp only[stepA]
  have kd:kdGo 3 y.d.length y.names [.tup [.str n,p,x]]=if y.d.length=20 then (some .non,y.names) else if y.names.contains n||b then (some (.str n),y.names) else (none,y.names++[n]):=by
   simp only[kdGo,thNm]
   by_cases c:y.d.length=20
   ·rw[if_pos c,if_pos c]
   ·rw[if_neg c,if_neg c,if_pos trivial,isS nm]
    simp only[pb,Bool.not_not]
  by_cases c1:y.s.length=0
  ·rw[if_pos (by simp[c1])]
   rw[st,ydOk_not,if_neg (by decide)]
   intro q
   have:=ydOk_len q
   simp[c1]at this
  ·rw[decide_eq_false c1,Bool.false_or]
   by_cases c2:(y.names.contains n||b)=true
   ·rw[if_pos (by rw[← Bool.or_assoc,c2,Bool.true_or])]
    rw[st,ydOk_not,if_neg (by decide)]
    intro q
    obtain⟨_,Z,Z',h1,h2⟩:=ydOk_parts q
    rw[hy.wk]at h1
    cases h1
    rw[ks,kd]at h2
    split at h2
    ·cases h2
    ·cases h2
   ·by_cases c3:20 < y.d.length + 1
    ·rw[if_pos (by simp[c3])]
     rw[st,ydOk_not,if_neg (by decide)]
     intro q
     have:=ydOk_len q
     simp at this
     omega
    ·have c2':(y.names.contains n||b)=false:=by simpa using c2
     rw[if_neg (by rw[← Bool.or_assoc,c2',Bool.false_or];simp;omega)]
     have kn:kdGo 3 0 (y.w.map (·.1)) (y.d.map dE++[.tup [.str n,p,x]])=(none,y.names++[n]):=by rw[ks,kd,if_neg (by omega),if_neg c2]
     have ok:ydOk [y.s.map sE,y.w.map wE,y.d.map dE++[.tup [.str n,p,x]]]=true:=ydOk_of (by simp;omega) (by have:=hy.sl;simpa using this) hy.sb hy.wk kn
     rw[ok,if_pos rfl]at st
     refine⟨by rw[st];simp[YS.ls],⟨hy.sb,hy.sl,hy.wk,?_,hy.wl,by simp;omega,fun z=>absurd (by rw[z];rfl) c1⟩⟩
     show kdGo 3 0 (y.w.map (·.1)) ((y.d++[(n,p,x)]).map dE)=_
     rw[List.map_append]
     show kdGo 3 0 (y.w.map (·.1)) (y.d.map dE++[.tup [.str n,p,x]])=_
     rw[kn]
     simp[YS.names]
theorem go_eq:∀{rs:List (ER×List Nat)}{n:Nat}{y:YS},y.Ok->(∀r∈rs,ErOk r.1 r.2)->loopL n (rs.map (·.2)) y.ls=(match goA n (rs.map (·.1)) y with | .inl m=>.inl m | .inr y'=>.inr y'.ls)
 | [],n,y,_,_=>rfl
 | r::rs,n,y,hy,hr=>by
  have s:=step_eq hy (hr r List.mem_cons_self)
  simp only[List.map_cons,loopL,goA]
  cases e:stepA y r.1 with
  | none =>
   rw[e]at s
   simp only at s
   rw[s]
  | some y' =>
   rw[e]at s
   simp only at s
   rw[s.1]
   exact go_eq s.2 fun x hx=>hr x (List.mem_cons_of_mem _ hx)
abbrev y0:YS:=⟨[],[],[]⟩
theorem y0_ok:y0.Ok:=⟨rfl,by decide,rfl,rfl,by decide,by decide,fun _=>⟨rfl,rfl⟩⟩
abbrev erL(rs:List (ER×List Nat)):T:=.lst (rs.map fun r=>erT r.1 r.2)
def badT:Nat ⊕ YS->T
 | .inl n=>.int (n:Nat)
 | .inr _=>.non
def Z0g:SpT:=fun ts Q=>∃rs:List (ER×List Nat),ts=[erL rs]/\rs.length<=900/\(∀r∈rs,ErOk r.1 r.2)/\Q (badT (goA 0 (rs.map (·.1)) y0))
theorem Z31:∀ts Q,Z0g ts Q->ts.length=1:=by rintro ts Q ⟨_,e,_⟩;subst e;rfl
def Z01:WS :=
 (sSeq (sAsg (gT 3 (gsC (gN 5) (gsC (gN 6) (gsC (gN 7) gs0)))) (w2 rIxTT (wVar 0) (wVar 4)))
  (sSeq (sIf (tCmpT cEqT (wVar 5) (wC (.str (Str.ofString "none")))) (sRet (wVar 4)) sNext)
  (sSeq (sDSet 3 (wVar 5) (w2 rAddT (wDGt 3 (wVar 5)) (wC (.int 1))))
  (sIf (tCmpT cEqT (wVar 5) (wC (.str (Str.ofString "sun")))) (sSeq (sIf (tFz 2 (tOrT (tCmpT cNeT (wVar 2) (wLst aNil)) (tOrT (tCmpT cLeT (wVar 6) (wVar 1)) (tCmpT cGtT (wDGt 3 (wC (.str (Str.ofString "sun")))) (wC (.int 80)))))) (sRet (wVar 4)) sNext)
  (sSet 1 (wVar 6))) (sSeq (sIf (tFz 2 (tOrT (tCmpT cEqT (wDGt 3 (wC (.str (Str.ofString "sun")))) (wC (.int 0))) (tOrT (tCmpT cInT (w2 rIxTT (wVar 6) (wC (.int 0))) (wVar 2)) (tOrT (tVal (w2 rIxTT (wVar 6) (wC (.int 1)))) (tCmpT cGtT (wDGt 3 (wVar 5)) (wC (.int 20))))))) (sRet (wVar 4)) sNext)
  (sSeq (sIf (tAndT (tCmpT cEqT (wVar 5) (wC (.str (Str.ofString "wall")))) (tCmpT cGtT (wDGt 3 (wC (.str (Str.ofString "dial")))) (wC (.int 0)))) (sRet (wVar 4)) sNext)
  (sApp 2 (w2 rIxTT (wVar 6) (wC (.int 0))))))))))
def Z1R:WS :=
 (sSeq (sSet 1 (wNeg (wC (.int 1))))
  (sSeq (sOwn 2 aNil)
  (sSeq (sDNew3 3 (Str.ofString "sun") (Str.ofString "wall") (Str.ofString "dial") (wC (.int 0)) (wC (.int 0)) (wC (.int 0)))
  (sSeq (sFor (iRange1 (aCons (wCB rLenT (aCons (wVar 0) aNil)) aNil)) (gN 4) Z01)
  (sRet (wC .non))))))
abbrev cnT(a b c:Nat):List (Key×T):=[(.inr zSun,.int (a:Nat)),(.inr zWal,.int (b:Nat)),(.inr zDil,.int (c:Nat))]
theorem ksw:zSun≠zWal/\zSun≠zDil/\zWal≠zDil/\zWal≠zSun/\zDil≠zSun/\zDil≠zWal:=by decide +kernel
theorem kno:zSun≠zNon/\zWal≠zNon/\zDil≠zNon:=by decide +kernel
theorem cn_sun(a b c:Nat):valT (cnT a b c) (.inr zSun)=some (.int (a:Nat)):=by simp[valT,List.find?_cons]
theorem cn_wal(a b c:Nat):valT (cnT a b c) (.inr zWal)=some (.int (b:Nat)):=by simp[valT,List.find?_cons,ksw.1]
theorem cn_dil(a b c:Nat):valT (cnT a b c) (.inr zDil)=some (.int (c:Nat)):=by simp[valT,List.find?_cons,ksw.2.1,ksw.2.2.1]
theorem pt_sun(a b c:Nat):putT (cnT a b c) (.inr zSun) (.int ((a:Int) + 1))=cnT (a + 1) b c:=by simp[putT,ksw.2.2.2.1,ksw.2.2.2.2.1]
theorem pt_wal(a b c:Nat):putT (cnT a b c) (.inr zWal) (.int ((b:Int) + 1))=cnT a (b + 1) c:=by simp[putT,ksw.1,ksw.2.2.2.2.2]
theorem pt_dil(a b c:Nat):putT (cnT a b c) (.inr zDil) (.int ((c:Int) + 1))=cnT a b (c + 1):=by simp[putT,ksw.2.1,ksw.2.2.1]
theorem zok(z:Str)(h:z=zSun∨z=zWal∨z=zDil∨z=zNon):PyData.strOk z=true:=by
 rcases h with rfl|rfl|rfl|rfl<;>decide +kernel
theorem eqS{a b:Str}(h:a≠b):eqT (.str a) (.str b)=false:=by rw[eqT_str,decide_eq_false h]
theorem eqSS(a:Str):eqT (.str a) (.str a)=true:=by rw[eqT_str,decide_eq_true rfl]
theorem nm_ok{z:Str}(h:nmB z=true):PyData.strOk z=true:=by
 unfold nmB at h
 simp only[Bool.and_eq_true,decide_eq_true_eq]at h
 unfold PyData.strOk
 rw[Array.all_eq_true']
 intro c hc
 have:=List.all_eq_true.mp h.2.2 c (by simpa using hc)
 unfold isLet at this
 simp only[Bool.and_eq_true,decide_eq_true_eq]at this
 simp
 omega
theorem Pn.str{a:Str}(h:PyData.strOk a=true):Pn 0 (.str a):=⟨h,Nat.le_refl 0⟩
theorem ne_nil{ns:List Str}(h:∀z∈ns,PyData.strOk z=true):EqOk (.lst (ns.map T.str)) (.lst [])/\(!eqT (.lst (ns.map T.str)) (.lst []))=!ns.isEmpty:=by
 have p:Pn 1 (.lst (ns.map T.str)):=Pn.lst fun t ht=>by
  obtain⟨z,hz,rfl⟩:=List.mem_map.mp ht
  exact Pn.str (h z hz)
 have q:Pn 1 (.lst []):=Pn.lst fun t ht=>by cases ht
 refine⟨p.ok q (by decide),?_⟩
 cases ns with
 | nil=>rfl
 | cons z r=>rfl
theorem strs_s(ns:List Str):strsOf (ns.map T.str)=some ns:=by
 induction ns with
 | nil=>rfl
 | cons z r ih=>simp only[List.map_cons,strsOf,ih,Option.map]
theorem last_snoc(s:List (Int×T))(x:Int×T):∀l,lastH (s++[x]) l=x.1:=by
 induction s with
 | nil=>intro l;rfl
 | cons y r ih=>intro l;exact ih y.1
abbrev fbS(rows:T)(y:YS)(p:Addr)(k:Nat)(s5 s6 s7:Slot):List Slot:=[.val rows,.val (.int y.last),.own (y.names.map T.str),.owd p (cnT y.s.length y.w.length y.d.length),.val (.int (k:Nat)),s5,s6,s7]
theorem fb_sun{ts:List T}{y:YS}{D:DT}{p:Addr}{k:Nat}{h:Int}{d:T}{l:List Nat}{s5 s6 s7:Slot}(ha:atI ts (k:Int)=some (erT (.sun h d) l))(hn:∀z∈y.names,PyData.strOk z=true)
  (h0:stepA y (.sun h d)=none->D.rt (.int (k:Nat))) (h1:∀y' s5 s6 s7,stepA y (.sun h d)=some y'->D.nx (fbS (.lst ts) y' p k s5 s6 s7)) :
  Z01 D (fbS (.lst ts) y p k s5 s6 s7):=by
 obtain⟨e1,e2⟩:=ne_nil hn
 have eo1:=eqOk_str zSun zNon (zok _ (.inl rfl)) (zok _ (.inr (.inr (.inr rfl))))
 have eo2:=eqOk_str zSun zSun (zok _ (.inl rfl)) (zok _ (.inl rfl))
 simp only[stepA]at h0 h1
 unfold Z01
 walk_at "tw"
 rw[ha]
 simp only[erT]
 walk_at "tw"
 refine⟨eo1,(fun q=>by rw[eqS kno.1]at q;cases q),fun _=>⟨by decide,?_⟩⟩
 rw[cn_sun]
 dsimp only
 rw[pt_sun]
 refine⟨eo2,fun _=>?_,(fun q=>by rw[eqSS]at q;cases q)⟩
 rw[e2]
 refine⟨e1,fun q=>⟨fun _=>h0 (by rw[q,Bool.true_or,if_pos rfl]),(fun z=>by cases z)⟩,fun q=>⟨fun c=>⟨fun _=>h0 (by rw[c,Bool.true_or,Bool.or_true,if_pos rfl]),(fun z=>by cases z)⟩,fun c=>?_⟩⟩
 rw[show Str.ofString "sun" = zSun from rfl,cn_sun]
 dsimp only
 refine⟨fun g=>h0 ?_,fun g=>?_⟩
 ·have g1:=of_decide_eq_true g
  rw[decide_eq_true (show 80 < y.s.length + 1 by omega),Bool.or_true,Bool.or_true,if_pos rfl]
 ·have g1:=of_decide_eq_false g
  have:=h1 ⟨y.s++[(h,d)],y.w,y.d⟩ (.val (.str zSun)) (.val (.int h)) (.val (.str (mkS l))) (by rw[q,c,decide_eq_false (show ¬ 80 < y.s.length + 1 by omega)];rfl)
  unfold fbS YS.last at this
  rw[last_snoc]at this
  simpa [YS.names] using this
theorem fb_wal{ts:List T}{y:YS}{D:DT}{p:Addr}{k:Nat}{n:Str}{pl:T}{b:Bool}{l:List Nat}{s5 s6 s7:Slot}(ha:atI ts (k:Int)=some (erT (.wal n pl b) l))(hl:y.names.length<=100)
  (h0:stepA y (.wal n pl b)=none->D.rt (.int (k:Nat))) (h1:∀y' s5 s6 s7,stepA y (.wal n pl b)=some y'->D.nx (fbS (.lst ts) y' p k s5 s6 s7)) :
  Z01 D (fbS (.lst ts) y p k s5 s6 s7):=by
 have eo1:=eqOk_str zWal zNon (zok _ (.inr (.inl rfl))) (zok _ (.inr (.inr (.inr rfl))))
 have eo2:=eqOk_str zWal zSun (zok _ (.inr (.inl rfl))) (zok _ (.inl rfl))
 have eo3:=eqOk_str zWal zWal (zok _ (.inr (.inl rfl))) (zok _ (.inr (.inl rfl)))
 simp only[stepA]at h0 h1
 unfold Z01
 walk_at "tw"
 rw[ha]
 simp only[erT]
 walk_at "tw"
 refine⟨eo1,(fun q=>by rw[eqS kno.2.1]at q;cases q),fun _=>⟨by decide,?_⟩⟩
 rw[cn_wal]
 dsimp only
 rw[pt_wal]
 refine⟨eo2,(fun q=>by rw[eqS ksw.2.2.2.1]at q;cases q),fun _=>?_⟩
 rw[show Str.ofString "sun" = zSun from rfl,cn_sun]
 dsimp only
 have z0:decide (((y.s.length:Nat):Int)=0)=decide (y.s.length=0):=by
  by_cases c:y.s.length=0
  ·rw[decide_eq_true c,decide_eq_true (by omega)]
  ·rw[decide_eq_false c,decide_eq_false (by omega)]
 rw[z0]
 refine⟨fun q=>⟨fun _=>h0 (by rw[q,Bool.true_or,if_pos rfl]),(fun z=>by cases z)⟩,fun q=>?_⟩
 rw[strs_s]
 dsimp only
 refine⟨fun c=>⟨fun _=>h0 (by rw[c,Bool.true_or,Bool.or_true,if_pos rfl]),(fun z=>by cases z)⟩,fun c=>⟨fun g=>⟨fun _=>h0 (by rw[g,Bool.true_or,Bool.or_true,Bool.or_true,if_pos rfl]),(fun z=>by cases z)⟩,fun g=>?_⟩⟩
 rw[cn_wal]
 dsimp only
 refine⟨fun c2=>h0 (by rw[decide_eq_true (show 20 < y.w.length + 1 by have:=of_decide_eq_true c2;omega),Bool.or_true,Bool.or_true,Bool.or_true,if_pos rfl]),fun c2=>⟨eo3,fun _=>?_,(fun z=>by rw[eqSS]at z;cases z)⟩⟩
 have c3:decide (20 < y.w.length + 1)=false:=decide_eq_false (by have:=of_decide_eq_false c2;omega)
 rw[q,c,g,c3]at h0 h1
 rw[show Str.ofString "dial" = zDil from rfl,cn_dil]
 dsimp only
 refine⟨fun c4=>h0 ?_,fun c4=>⟨by rw[List.length_map];omega,?_⟩⟩
 ·have:=of_decide_eq_true c4
  rw[if_neg (by decide),if_pos (by omega)]
 ·have c5:=of_decide_eq_false c4
  have d0:y.d=[]:=List.length_eq_zero_iff.mp (by omega)
  have:=h1 ⟨y.s,y.w++[(n,pl)],y.d⟩ (.val (.str zWal)) (.val (.tup [.str n,.bl b])) (.val (.str (mkS l))) (by rw[if_neg (by decide),if_neg (by omega)])
  simpa [fbS,YS.names,YS.last,d0,g] using this
theorem fb_dil{ts:List T}{y:YS}{D:DT}{p:Addr}{k:Nat}{n:Str}{pl x:T}{b:Bool}{l:List Nat}{s5 s6 s7:Slot}(ha:atI ts (k:Int)=some (erT (.dil n pl x b) l))(hl:y.names.length<=100)
  (h0:stepA y (.dil n pl x b)=none->D.rt (.int (k:Nat))) (h1:∀y' s5 s6 s7,stepA y (.dil n pl x b)=some y'->D.nx (fbS (.lst ts) y' p k s5 s6 s7)) :
  Z01 D (fbS (.lst ts) y p k s5 s6 s7):=by
 have eo1:=eqOk_str zDil zNon (zok _ (.inr (.inr (.inl rfl)))) (zok _ (.inr (.inr (.inr rfl))))
 have eo2:=eqOk_str zDil zSun (zok _ (.inr (.inr (.inl rfl)))) (zok _ (.inl rfl))
 have eo3:=eqOk_str zDil zWal (zok _ (.inr (.inr (.inl rfl)))) (zok _ (.inr (.inl rfl)))
 simp only[stepA]at h0 h1
 unfold Z01
 walk_at "tw"
 rw[ha]
 simp only[erT]
 walk_at "tw"
 refine⟨eo1,(fun q=>by rw[eqS kno.2.2]at q;cases q),fun _=>⟨by decide,?_⟩⟩
 rw[cn_dil]
 dsimp only
 rw[pt_dil]
 refine⟨eo2,(fun q=>by rw[eqS ksw.2.2.2.2.1]at q;cases q),fun _=>?_⟩
 rw[show Str.ofString "sun" = zSun from rfl,cn_sun]
 dsimp only
 have z0:decide (((y.s.length:Nat):Int)=0)=decide (y.s.length=0):=by
  by_cases c:y.s.length=0
  ·rw[decide_eq_true c,decide_eq_true (by omega)]
  ·rw[decide_eq_false c,decide_eq_false (by omega)]
 rw[z0]
 refine⟨fun q=>⟨fun _=>h0 (by rw[q,Bool.true_or,if_pos rfl]),(fun z=>by cases z)⟩,fun q=>?_⟩
 rw[strs_s]
 dsimp only
 refine⟨fun c=>⟨fun _=>h0 (by rw[c,Bool.true_or,Bool.or_true,if_pos rfl]),(fun z=>by cases z)⟩,fun c=>⟨fun g=>⟨fun _=>h0 (by rw[g,Bool.true_or,Bool.or_true,Bool.or_true,if_pos rfl]),(fun z=>by cases z)⟩,fun g=>?_⟩⟩
 rw[cn_dil]
 dsimp only
 refine⟨fun c2=>h0 (by rw[decide_eq_true (show 20 < y.d.length + 1 by have:=of_decide_eq_true c2;omega),Bool.or_true,Bool.or_true,Bool.or_true,if_pos rfl]),fun c2=>⟨eo3,(fun z=>by rw[show Str.ofString "wall" = zWal from rfl,eqS ksw.2.2.2.2.2]at z;cases z),fun _=>⟨(fun z=>by cases z),fun _=>⟨by rw[List.length_map];omega,?_⟩⟩⟩⟩
 have c3:decide (20 < y.d.length + 1)=false:=decide_eq_false (by have:=of_decide_eq_false c2;omega)
 rw[q,c,g,c3]at h1
 have:=h1 ⟨y.s,y.w,y.d++[(n,pl,x)]⟩ (.val (.str zDil)) (.val (.tup [.str n,.bl b])) (.val (.str (mkS l))) (by rw[if_neg (by decide)])
 simpa [fbS,YS.names,YS.last,g] using this
theorem fb_non{ts:List T}{y:YS}{D:DT}{p:Addr}{k:Nat}{l:List Nat}{s5 s6 s7:Slot}(ha:atI ts (k:Int)=some (erT .non l))(h0:D.rt (.int (k:Nat))) :
  Z01 D (fbS (.lst ts) y p k s5 s6 s7):=by
 have eo1:=eqOk_str zNon zNon (zok _ (.inr (.inr (.inr rfl)))) (zok _ (.inr (.inr (.inr rfl))))
 unfold Z01
 obtain⟨WR,hWR⟩:∃W:WS,W=(sSeq (sDSet 3 (wVar 5) (w2 rAddT (wDGt 3 (wVar 5)) (wC (.int 1))))
  (sIf (tCmpT cEqT (wVar 5) (wC (.str (Str.ofString "sun")))) (sSeq (sIf (tFz 2 (tOrT (tCmpT cNeT (wVar 2) (wLst aNil)) (tOrT (tCmpT cLeT (wVar 6) (wVar 1)) (tCmpT cGtT (wDGt 3 (wC (.str (Str.ofString "sun")))) (wC (.int 80)))))) (sRet (wVar 4)) sNext)
  (sSet 1 (wVar 6))) (sSeq (sIf (tFz 2 (tOrT (tCmpT cEqT (wDGt 3 (wC (.str (Str.ofString "sun")))) (wC (.int 0))) (tOrT (tCmpT cInT (w2 rIxTT (wVar 6) (wC (.int 0))) (wVar 2)) (tOrT (tVal (w2 rIxTT (wVar 6) (wC (.int 1)))) (tCmpT cGtT (wDGt 3 (wVar 5)) (wC (.int 20))))))) (sRet (wVar 4)) sNext)
  (sSeq (sIf (tAndT (tCmpT cEqT (wVar 5) (wC (.str (Str.ofString "wall")))) (tCmpT cGtT (wDGt 3 (wC (.str (Str.ofString "dial")))) (wC (.int 0)))) (sRet (wVar 4)) sNext)
  (sApp 2 (w2 rIxTT (wVar 6) (wC (.int 0)))))))):=⟨_,rfl⟩
 rw[← hWR]
 clear hWR
 walk_at "tw"
 rw[ha]
 simp only[erT]
 walk_at "tw"
 exact⟨eo1,fun _=>h0,fun q=>by rw[show Str.ofString "none" = zNon from rfl,eqSS]at q;cases q⟩
theorem step_names{y y':YS}{r:ER}{l:List Nat}(hr:ErOk r l)(h:stepA y r=some y')(hn:∀z∈y.names,PyData.strOk z=true)(hl:y.w.length<=20/\y.d.length<=20):(∀z∈y'.names,PyData.strOk z=true)/\y'.w.length<=20/\y'.d.length<=20:=by
 cases r with
 | non=>cases h
 | sun _ _ =>
  simp only[stepA]at h
  split at h
  ·cases h
  ·cases h
   exact⟨hn,hl⟩
 | wal n p b =>
  simp only[stepA]at h
  split at h
  ·cases h
  ·rename_i c
   split at h
   ·cases h
   ·cases h
    simp only[Bool.or_eq_true,decide_eq_true_eq,not_or]at c
    refine⟨fun z hz=>?_,by simp;omega,hl.2⟩
    simp only[YS.names,List.map_append,List.mem_append,List.map_cons,List.map_nil,List.mem_singleton]at hz
    rcases hz with (hz|hz)|hz
    ·exact hn z (by simp only[YS.names,List.mem_append];exact .inl hz)
    ·rw[hz];exact nm_ok hr.is.2.1
    ·exact hn z (by simp only[YS.names,List.mem_append];exact .inr hz)
 | dil n p x b =>
  simp only[stepA]at h
  split at h
  ·cases h
  ·rename_i c
   cases h
   simp only[Bool.or_eq_true,decide_eq_true_eq,not_or]at c
   refine⟨fun z hz=>?_,hl.1,by simp;omega⟩
   simp only[YS.names,List.map_append,List.mem_append,List.map_cons,List.map_nil,List.mem_singleton]at hz
   rcases hz with hz|hz|hz
   ·exact hn z (by simp only[YS.names,List.mem_append];exact .inl hz)
   ·exact hn z (by simp only[YS.names,List.mem_append];exact .inr hz)
   ·rw[hz];exact nm_ok hr.is.2.1
theorem fb_loop{p:Addr}{D:DT}{all:List (ER×List Nat)}:∀(m k:Nat)(y:YS)(rs:List (ER×List Nat))(s4 s5 s6 s7:Slot),rs.length=m->all.drop k=rs->(∀r∈rs,ErOk r.1 r.2)->(∀z∈y.names,PyData.strOk z=true)->(y.w.length<=20/\y.d.length<=20) →
  (match goA k (rs.map (·.1)) y with | .inl n=>D.rt (.int (n:Nat)) | .inr _=>∀y s4 s5 s6 s7,D.nx [.val (erL all),.val (.int (YS.last y)),.own (y.names.map T.str),.owd p (cnT y.s.length y.w.length y.d.length),s4,s5,s6,s7]) →
  forT (gN 4) Z01 (rangeT (k:Nat) m) D [.val (erL all),.val (.int y.last),.own (y.names.map T.str),.owd p (cnT y.s.length y.w.length y.d.length),s4,s5,s6,s7]
 | 0,k,y,rs,s4,s5,s6,s7,hm,_,_,_,_,h=>by
  have e:rs=[]:=List.length_eq_zero_iff.mp hm
  subst e
  simp only[rangeT,forT]
  exact h y _ _ _ _
 | m + 1,k,y,[],s4,s5,s6,s7,hm,_,_,_,_,h=>by cases hm
 | m + 1,k,y,r::rs,s4,s5,s6,s7,hm,hd,hr,hn,hl,h=>by
  have ih:=fun (y':YS) (s4 s5 s6 s7:Slot) (hn:∀z∈y'.names,PyData.strOk z=true) (hl:y'.w.length<=20/\y'.d.length<=20) h=>fb_loop (p:=p) (D:=D) (all:=all) m (k + 1) y' rs s4 s5 s6 s7 (by simpa using hm) (by rw[← List.drop_drop,hd];rfl) (fun x hx=>hr x (List.mem_cons_of_mem _ hx)) hn hl h
  have er:=hr r List.mem_cons_self
  have ha:atI (all.map fun r=>erT r.1 r.2) (k:Int)=some (erT r.1 r.2):=atI_nat (by
   have:all[k]?=some r:=by
    have e:=congrArg (fun l=>l[0]?) hd
    simpa [List.getElem?_drop] using e
   rw[List.getElem?_map,this]
   rfl)
  have nl:y.names.length<=100:=by rw[y.names_len];omega
  simp only[rangeT,forT]
  rw[show ((k:Nat):Int) + 1=((k + 1:Nat):Int) by omega]
  simp only[List.map_cons,goA]at h
  generalize hF:forT (gN 4) Z01 (rangeT ((k + 1:Nat):Int) m)=F at ih ⊢
  have go0:stepA y r.1=none->D.rt (.int (k:Nat)):=fun q=>by rw[q]at h;exact h
  have go1:∀y' s5 s6 s7,stepA y r.1=some y'->F D (fbS (erL all) y' p k s5 s6 s7):=fun y' s5 s6 s7 q=>by
   rw[q]at h
   obtain⟨n1,l1⟩:=step_names er q hn hl
   exact ih y' _ _ _ _ n1 l1 h
  obtain⟨r1,l⟩:=r
  cases r1 with
  | sun hh d=>exact fb_sun ha hn go0 go1
  | wal n p b=>exact fb_wal ha nl go0 go1
  | dil n p x b=>exact fb_dil ha nl go0 go1
  | non=>exact fb_non ha (go0 rfl)
theorem Z3h:∀ts Q,Z0g ts Q->Z1R {nx:=fun _=>Q .non,rt:=Q} (startT 8 ts):=by
 rintro _ Q ⟨rs,rfl,hl,hr,h⟩
 unfold Z1R
 obtain⟨WB,hWB⟩:∃W,W=Z01:=⟨_,rfl⟩
 rw[← hWB]
 walk_at "tw"
 intro p
 rw[List.length_map]
 refine⟨⟨by omega,by omega⟩,?_⟩
 rw[Int.toNat_natCast,hWB]
 refine fb_loop (all:=rs) rs.length 0 y0 rs _ _ _ _ rfl (by simp) hr (by simp[YS.names]) ⟨by decide,by decide⟩ ?_
 cases e:goA 0 (rs.map (·.1)) y0 with
 | inl n=>rw[e]at h;exact h
 | inr y=>rw[e]at h;exact fun _ _ _ _ _=>h
theorem dgL_eq(n:Nat):(dgs n).cps.toList=dgL n:=by unfold dgs dgL;simp
theorem dgL_dig(n:Nat):∀c∈dgL n,48<=c/\c<=57:=fun c hc=>dgs_chars n c (by rw[dgL_eq];exact hc)
theorem fig_of(i:Int):figL (figI i)=dgL i.natAbs/\negL (figI i)=decide (i < 0):=by
 unfold figI
 by_cases z:i < 0
 ·rw[if_pos z,decide_eq_true z]
  exact⟨rfl,rfl⟩
 ·rw[if_neg z,decide_eq_false z]
  have hd:=dgL_dig i.natAbs
  cases e:dgL i.natAbs with
  | nil=>exact⟨rfl,rfl⟩
  | cons c r =>
   rw[e]at hd
   have:¬ c=45:=by have:=hd c List.mem_cons_self;omega
   exact⟨by simp only[figL,if_neg this],decide_eq_false this⟩
theorem num_fig{i:Int}(h:i.natAbs < 10 ^ 12):numL (figI i)=some i:=by
 obtain⟨e1,e2⟩:=fig_of i
 have hv:NumText.digitsVal (dgL i.natAbs)=i.natAbs:=by
  unfold dgL
  exact PySem.W.KIN.val_back i.natAbs
 have dl:=dgs_len (n:=i.natAbs) (k:=12) h (by decide)
 have dp:=dgs_pos i.natAbs
 have el:(dgs i.natAbs).length=(dgL i.natAbs).length:=by rw[← dgL_eq];simp[Str.length]
 have ev:valI (figI i)=i:=by
  unfold valI
  rw[e1,e2,hv]
  by_cases z:i < 0
  ·rw[decide_eq_true z,if_pos rfl];omega
  ·rw[decide_eq_false z,if_neg (by decide)];omega
 have ad:(dgL i.natAbs).all isD=true:=List.all_eq_true.mpr fun c hc=>by
  have:=dgL_dig i.natAbs c hc
  unfold isD
  rw[decide_eq_true this.1,decide_eq_true this.2]
  rfl
 unfold numL
 rw[e1,ev,ad,decide_eq_true (by omega),decide_eq_true (by omega),if_pos rfl]
 rfl
theorem figI_chars(i:Int):∀c∈figI i,c=45∨(48<=c/\c<=57):=fun c hc=>by
 unfold figI at hc
 split at hc
 ·rcases List.mem_cons.mp hc with rfl|hc
  ·exact .inl rfl
  ·exact .inr (dgL_dig _ c hc)
 ·exact .inr (dgL_dig _ c hc)
theorem figI_len{i:Int}(h:i.natAbs < 10 ^ 12):(figI i).length<=13:=by
 have:=(fig_sg h).len
 have e:=congrArg List.length (figI_eq i)
 rw[← e]
 simpa [Str.length] using this
theorem row_words{ws:List (List Nat)}(ne:ws≠[])(h:∀w∈ws,32∉w):rowO (jnL 32 ws)=rowW ws:=by
 unfold rowO
 rw[spl_jn ne h]
def wordB(w:List Nat):Bool:=decide (w.length<=13)&&w.all fun c=>decide (33<=c)&&decide (c < 128)
theorem word_fig{i:Int}(h:i.natAbs < 10 ^ 12):wordB (figI i)=true:=by
 unfold wordB
 rw[decide_eq_true (figI_len h),Bool.true_and,List.all_eq_true]
 intro c hc
 have:=figI_chars i c hc
 rw[decide_eq_true (by omega),decide_eq_true (by omega)]
 rfl
theorem words_in{ws:List (List Nat)}(ne:ws≠[])(hl:ws.length<=14)(h:∀w∈ws,wordB w=true):(∀w∈ws,32∉w)/\(jnL 32 ws).length<=200/\∀c∈jnL 32 ws,c < 128/\c≠10:=by
 have hw:∀w∈ws,w.length<=13/\∀c∈w,33<=c/\c < 128:=fun w hw=>by
  have:=h w hw
  unfold wordB at this
  simp only[Bool.and_eq_true,decide_eq_true_eq,List.all_eq_true]at this
  exact this
 refine⟨fun w m z=>?_,?_,?_⟩
 ·have:=(hw w m).2 32 z
  omega
 ·have h1:=jn_len 32 ws ne
  have h2:=sum_le (n:=13) fun w m=>(hw w m).1
  omega
 ·have key:∀zs:List (List Nat),(∀w∈zs,∀c∈w,33<=c/\c < 128)->∀c∈jnL 32 zs,c < 128/\c≠10:=fun zs=>by
   induction zs with
   | nil=>intro _ c hc;cases hc
   | cons z r ih =>
    intro hz c hc
    cases r with
    | nil =>
     have:=hz z List.mem_cons_self c hc
     omega
    | cons y r =>
     have hc':c∈z++32::jnL 32 (y::r):=hc
     rcases List.mem_append.mp hc' with q|q
     ·have:=hz z List.mem_cons_self c q
      omega
     ·rcases List.mem_cons.mp q with q|q
      ·omega
      ·exact ih (fun w m=>hz w (List.mem_cons_of_mem _ m)) c q
  exact key ws fun w m=>(hw w m).2
theorem row_sun{h a b c:Int}{wa wb wc:List Nat}(hh:0<=h/\h<=9999)(na:numL wa=some a)(nb:numL wb=some b)(nc:numL wc=some c):rowW [lSun,figI h,wa,wb,wc]=some (0,.tup [.int h,tri a b c]):=by
 rw[rowW_is (m:=0) (by decide) mk_sun.symm rfl]
 show some (0,entT 0 (numT (numL (figI h))) [numT (numL wa),numT (numL wb),numT (numL wc)])=_
 rw[num_fig (by show h.natAbs < 1000000000000;omega),na,nb,nc]
 rfl
def ftW(c:Nat):Bool->List (List Nat)
 | false=>[figI (c:Int),[48],[45,51],[50],[48],[48],[48],[53],[48]]
 | true=>[figI (c:Int),[48],[45,51],[50],[52],[54],[45,49],[45,50],[45,51]]
def plD(c:Nat):Bool->T
 | false=>.tup [tri (c:Int) 0 (-3),tri 2 0 0,tri 0 5 0]
 | true=>.tup [tri (c:Int) 0 (-3),tri 2 4 6,tri (-1) (-2) (-3)]
theorem ft_wal{c:Nat}{n:List Nat}{b:Bool}(hc:c < 9):rowW (lWal::n::ftW c b)=some (1,.tup [.str (mkS n),plD c b]):=by
 have nc:=num_fig (i:=(c:Int)) (by show (c:Int).natAbs < 1000000000000;omega)
 have k:numL [48]=some 0/\numL [45,51]=some (-3)/\numL [50]=some 2/\numL [53]=some 5/\numL [52]=some 4/\numL [54]=some 6/\numL [45,49]=some (-1)/\numL [45,50]=some (-2):=by decide +kernel
 obtain⟨k0,k3,k2,k5,k4,k6,k1,k22⟩:=k
 cases b with
 | false =>
  rw[rowW_is (m:=1) (by decide) mk_wal.symm rfl]
  simp only[ftW,List.map_cons,List.map_nil,nc,k0,k3,k2,k5,numT,fstT,entT,plD]
  rfl
 | true =>
  rw[rowW_is (m:=1) (by decide) mk_wal.symm rfl]
  simp only[ftW,List.map_cons,List.map_nil,nc,k0,k3,k2,k4,k6,k1,k22,numT,fstT,entT,plD]
  rfl
def upL:Nat->List Nat
 | 0=>[45,50]
 | 1=>[45,51]
 | _=>[45,52]
def upZ:Nat->Int
 | 0=>-2
 | 1=>-3
 | _=>-4
theorem ft_dil{c u:Nat}{n:List Nat}{b:Bool}(hc:c < 9):rowW (lDil::n::(ftW c b++[[49],[49],upL u]))=some (2,.tup [.str (mkS n),plD c b,tri 1 1 (upZ u)]):=by
 have nc:=num_fig (i:=(c:Int)) (by show (c:Int).natAbs < 1000000000000;omega)
 have k:numL [48]=some 0/\numL [45,51]=some (-3)/\numL [50]=some 2/\numL [53]=some 5/\numL [52]=some 4/\numL [54]=some 6/\numL [45,49]=some (-1)/\numL [45,50]=some (-2)/\numL [49]=some 1/\numL [45,52]=some (-4):=by decide +kernel
 obtain⟨k0,k3,k2,k5,k4,k6,k1,k22,k11,k44⟩:=k
 have ku:numL (upL u)=some (upZ u):=by
  match u with
  | 0=>exact k22
  | 1=>exact k3
  | u + 2=>exact k44
 cases b with
 | false =>
  rw[rowW_is (m:=2) (by decide) mk_dil.symm rfl]
  simp only[ftW,List.map_cons,List.map_nil,List.cons_append,List.nil_append,nc,k0,k3,k2,k5,k11,ku,numT,fstT,entT,plD]
  rfl
 | true =>
  rw[rowW_is (m:=2) (by decide) mk_dil.symm rfl]
  simp only[ftW,List.map_cons,List.map_nil,List.cons_append,List.nil_append,nc,k0,k3,k2,k4,k6,k1,k22,k11,ku,numT,fstT,entT,plD]
  rfl
theorem plD_ok:∀c:Fin 9,∀b:Bool,platOk (plD c b)=!b:=by decide +kernel
theorem stD_ok:∀c:Fin 9,∀b:Bool,∀u:Fin 3,stand (.tup [.non,plD c b,tri 1 1 (upZ u)])=!(b||decide (0 < u.val)):=by decide +kernel
theorem ftW_word:∀c:Fin 9,∀b:Bool,(ftW c b).all wordB=true:=by decide +kernel
structure NameL(n:List Nat):Prop where
 len:1<=n.length/\n.length<=8
 lets:∀c∈n,isLet c=true
theorem NameL.nm{n:List Nat}(h:NameL n):nmB (mkS n)=true:=by
 unfold nmB
 have e:(mkS n).length=n.length:=by simp[Str.length]
 rw[e,decide_eq_true h.len.1,decide_eq_true h.len.2,Bool.true_and,Bool.true_and]
 exact List.all_eq_true.mpr fun c hc=>h.lets c (by simpa using hc)
theorem NameL.word{n:List Nat}(h:NameL n):wordB n=true:=by
 unfold wordB
 rw[decide_eq_true (by have:=h.len.2;omega),Bool.true_and,List.all_eq_true]
 intro c hc
 have:=h.lets c hc
 unfold isLet at this
 simp only[Bool.and_eq_true,decide_eq_true_eq]at this
 rw[decide_eq_true (by omega),decide_eq_true (by omega)]
 rfl
theorem er_words{r:ER}{ws:List (List Nat)}(ne:ws≠[])(hl:ws.length<=14)(h:∀w∈ws,wordB w=true)(q:rowO (jnL 32 ws)=rowW ws->erIs r (jnL 32 ws)):ErOk r (jnL 32 ws):=by
 obtain⟨a,b,c⟩:=words_in ne hl h
 exact⟨b,c,q (row_words ne a)⟩
theorem er_sun{h a b c:Int}{wa wb wc:List Nat}(hh:0<=h/\h<=9999)(na:numL wa=some a)(nb:numL wb=some b)(nc:numL wc=some c)(hw:wordB wa=true/\wordB wb=true/\wordB wc=true)(hd:dirOk (tri a b c)=true):ErOk (.sun h (tri a b c)) (jnL 32 [lSun,figI h,wa,wb,wc]):=by
 refine er_words (by simp) (by simp) (fun w m=>?_) fun e=>?_
 ·simp only[List.mem_cons,List.not_mem_nil,or_false]at m
  rcases m with rfl|rfl|rfl|rfl|rfl
  ·decide
  ·exact word_fig (by show h.natAbs < 1000000000000;omega)
  ·exact hw.1
  ·exact hw.2.1
  ·exact hw.2.2
 ·rw[erIs,e,row_sun hh na nb nc]
  refine⟨rfl,?_⟩
  show (hourOk (.int h)&&dirOk (tri a b c))=true
  rw[hd,Bool.and_true]
  show (decide (0<=h)&&decide (h<=9999))=true
  rw[decide_eq_true hh.1,decide_eq_true hh.2]
  rfl
theorem er_wal{c:Nat}{n:List Nat}{b:Bool}(hc:c < 9)(hn:NameL n):ErOk (.wal (mkS n) (plD c b) b) (jnL 32 (lWal::n::ftW c b)):=by
 refine er_words (by simp) (by cases b<;>simp[ftW]) (fun w m=>?_) fun e=>?_
 ·rcases List.mem_cons.mp m with rfl|m
  ·decide
  ·rcases List.mem_cons.mp m with rfl|m
   ·exact hn.word
   ·exact List.all_eq_true.mp (ftW_word ⟨c,hc⟩ b) w m
 ·rw[erIs,e,ft_wal hc]
  exact⟨rfl,hn.nm,plD_ok ⟨c,hc⟩ b⟩
theorem er_dil{c u:Nat}{n:List Nat}{b:Bool}(hc:c < 9)(hu:u < 3)(hn:NameL n):ErOk (.dil (mkS n) (plD c b) (tri 1 1 (upZ u)) (b||decide (0 < u))) (jnL 32 (lDil::n::(ftW c b++[[49],[49],upL u]))):=by
 refine er_words (by simp) (by cases b<;>simp[ftW]) (fun w m=>?_) fun e=>?_
 ·rcases List.mem_cons.mp m with rfl|m
  ·decide
  ·rcases List.mem_cons.mp m with rfl|m
   ·exact hn.word
   ·rcases List.mem_append.mp m with m|m
    ·exact List.all_eq_true.mp (ftW_word ⟨c,hc⟩ b) w m
    ·simp only[List.mem_cons,List.not_mem_nil,or_false]at m
     rcases m with rfl|rfl|rfl
     ·decide
     ·decide
     ·match u with
      | 0=>decide
      | 1=>decide
      | u + 2=>exact(by decide:wordB [45,52]=true)
 ·rw[erIs,e,ft_dil hc]
  exact⟨rfl,hn.nm,stD_ok ⟨c,hc⟩ b ⟨u,hu⟩⟩
theorem er_w0{n:List Nat}(hn:NameL n):ErOk (.wal (mkS n) (.tup [tri 0 0 0,tri 1 0 0,tri 0 1 0]) false) (jnL 32 [lWal,n,[48],[48],[48],[49],[48],[48],[48],[49],[48]]):=by
 refine er_words (by simp) (by simp) (fun w m=>?_) fun e=>?_
 ·simp only[List.mem_cons,List.not_mem_nil,or_false]at m
  rcases m with rfl|rfl|rfl|rfl|rfl|rfl|rfl|rfl|rfl|rfl|rfl<;>first|exact hn.word|decide
 ·have k:numL [48]=some 0/\numL [49]=some 1:=by decide +kernel
  rw[erIs,e,rowW_is (m:=1) (by decide) mk_wal.symm rfl]
  refine⟨?_,hn.nm,by decide +kernel⟩
  simp only[List.map_cons,List.map_nil,k.1,k.2,numT,fstT,entT]
  rfl
def Z02:SpT:=fun ts Q=>∃(c k many:Int),ts=[.int c,.int k,.int many]/\0<=k/\k<=1000/\1<=many/\many<=10 ^ 12/\∀r:Int,0<=r->r < many->Q (.int r)
theorem Z42:∀ts Q,Z02 ts Q->ts.length=3:=by rintro ts Q ⟨_,_,_,e,_⟩;subst e;rfl
def Z15:WS :=
 (sSet 4 (w2 rDivT (wVar 4) (w2 rPowT (wC (.int 10)) (wC (.int 10)))))
def Z16:WS :=
 (sSeq (sSet 3 (w2 rModT (w2 rMulT (w2 rAddT (w2 rAddT (w2 rAddT (w2 rModT (wVar 0) (wC (.int 2147483647))) (w2 rMulT (w2 rMulT (wC (.int 7919)) (wVar 1)) (wVar 1))) (w2 rMulT (wC (.int 31)) (wVar 1))) (wC (.int 1))) (wC (.int 48271))) (wC (.int 2147483647))))
  (sSeq (sSet 3 (w2 rModT (w2 rAddT (w2 rAddT (w2 rMulT (wVar 3) (wVar 3)) (w2 rMulT (wC (.int 69621)) (wVar 1))) (wC (.int 7))) (wC (.int 2147483629))))
  (sRet (w2 rModT (w2 rModT (w2 rMulT (wVar 3) (wVar 3)) (wC (.int 2147483587))) (wVar 2)))))
def Z2V:WS :=
 (sSeq (sIf (tCmpT cGeT (wVar 0) (w2 rPowT (wC (.int 10)) (wC (.int 18)))) (sSeq (sSet 4 (wVar 0))
  (sSeq (sFor (iRange1 (aCons (wVar 1) aNil)) (gN 5) Z15)
  (sIf (tCmpT cGtT (wVar 4) (wC (.int 0))) (sRet (w2 rModT (w2 rModT (wVar 4) (w2 rPowT (wC (.int 10)) (wC (.int 10)))) (wVar 2))) sNext))) sNext)
  Z16)
theorem draw_loop{D:DT}{c k many:Int}{s3:Slot}:∀(n:Nat)(lo v:Int)(s5:Slot),(∀v s5,D.nx [.val (.int c),.val (.int k),.val (.int many),s3,.val (.int v),s5]) →
  forT (gN 5) Z15 (rangeT lo n) D [.val (.int c),.val (.int k),.val (.int many),s3,.val (.int v),s5]
 | 0,lo,v,s5,h=>by
  simp only[rangeT,forT]
  exact h _ _
 | n + 1,lo,v,s5,h=>by
  have ih:=fun v s5=>draw_loop (D:=D) (c:=c) (k:=k) (many:=many) (s3:=s3) n (lo + 1) v s5 h
  have cp:=cpow10 10 (by decide)
  have dv:DivOk (10 ^ Int.toNat 10):=divOk (by decide) (Lim.of (n:=11) (by decide) (by decide))
  simp only[rangeT,forT]
  generalize forT (gN 5) Z15 (rangeT (lo + 1) n) D=F at ih ⊢
  unfold Z15
  walk_at "go"
  exact ih _ _
theorem draw_k0{Q:T->Prop}{c k many:Int}{s3 s4 s5:Slot}(h0:0<=k)(h1:k<=1000)(m0:1<=many)(h:∀r:Int,0<=r->r < many->Q (.int r)):Z16 {nx:=fun _=>Q .non,rt:=Q} [.val (.int c),.val (.int k),.val (.int many),s3,s4,s5]:=by
 have lk:Lim 4 k:=Lim.of (by omega) (by omega)
 have l7:Lim 4 (7919:Int):=Lim.of (by decide) (by decide)
 have l31:Lim 2 (31:Int):=Lim.of (by decide) (by decide)
 have l48:Lim 5 (48271:Int):=Lim.of (by decide) (by decide)
 have l69:Lim 5 (69621:Int):=Lim.of (by decide) (by decide)
 have f1:=fmod_pos c (b:=2147483647) (by decide)
 have a1:=(l7.mul lk).mul lk
 have a2:=l31.mul lk
 have a3:Lim 14 (c.fmod 2147483647 + 7919 * k * k + 31 * k + 1):=by
  have:=a1.bd
  have:=a2.bd
  exact Lim.of (by omega) (by omega)
 unfold Z16
 walk_at "go"
 refine⟨mulOk (l7.mul lk) lk,mulOk l31 lk,mulOk a3 l48,by decide,?_⟩
 generalize ((c.fmod 2147483647 + 7919 * k * k + 31 * k + 1) * 48271)=u
 have f2:=fmod_pos u (b:=2147483647) (by decide)
 have a4:Lim 10 (u.fmod 2147483647):=Lim.of (by omega) (by omega)
 walk_at "go"
 generalize (u.fmod 2147483647 * u.fmod 2147483647 + 69621 * k + 7)=v
 have f3:=fmod_pos v (b:=2147483629) (by decide)
 have a5:Lim 10 (v.fmod 2147483629):=Lim.of (by omega) (by omega)
 walk_at "go"
 refine⟨by omega,?_⟩
 generalize ((v.fmod 2147483629 * v.fmod 2147483629).fmod 2147483587)=x
 have f4:=fmod_pos x (b:=many) (by omega)
 exact h _ f4.1 f4.2
theorem Z44:∀ts Q,Z02 ts Q->Z2V {nx:=fun _=>Q .non,rt:=Q} (startT 6 ts):=by
 rintro _ Q ⟨c,k,many,rfl,h0,h1,m0,m1,h⟩
 have cp:=cpow10 10 (by decide)
 have cp18:=cpow10 18 (by decide)
 have fin:∀s3 s4 s5:Slot,Z16 {nx:=fun _=>Q .non,rt:=Q} [.val (.int c),.val (.int k),.val (.int many),s3,s4,s5]:=fun s3 s4 s5=>draw_k0 h0 h1 m0 h
 unfold Z2V
 obtain⟨W0,hW0⟩:∃W,W=Z15:=⟨_,rfl⟩
 obtain⟨W1,hW1⟩:∃W,W=Z16:=⟨_,rfl⟩
 rw[← hW0,← hW1]
 rw[← hW1]at fin
 walk_at "go"
 refine⟨fun _=>?_,fun _=>fin _ _ _⟩
 walk_at "go"
 refine⟨by omega,?_⟩
 rw[hW0]
 refine draw_loop _ _ _ _ fun v s5=>?_
 walk_at "go"
 refine⟨fun _=>?_,fun _=>fin _ _ _⟩
 walk_at "go"
 refine⟨by omega,?_⟩
 have f4:=fmod_pos (v.fmod (10 ^ Int.toNat 10)) (b:=many) (by omega)
 exact h _ f4.1 f4.2
def Z0v:SpT:=fun ts Q=>∃(c n:Int) (b:Bool),ts=[.int c,.int n,.bl b]/\0<=n/\n<=900/\∀r l,ErOk r l->Q (erT r l)
theorem Z32:∀ts Q,Z0v ts Q->ts.length=3:=by rintro ts Q ⟨_,_,_,e,_⟩;subst e;rfl
def Z0n:WS :=
 (sSeq (sIf (tCmpT cLtT (wVar 3) (wC (.int 2))) (sSeq (sSet 10 (w2 rIxTT (wLst (aCons (wVar 1) (aCons (w2 rAddT (wVar 1) (wC (.int 1))) (aCons (wCB rMaxT (aCons (wC (.int 0)) (aCons (w2 rSubT (wVar 1) (wC (.int 1))) aNil))) (aCons (wC (.int 9999)) aNil))))) (wCall Z02 (aCons (wVar 0) (aCons (wC (.int 1)) (aCons (wC (.int 4)) aNil))))))
  (sRet (wTup (aCons (wC (.str (Str.ofString "sun"))) (aCons (wVar 10) (aCons (w2 rAddST (w2 rAddST (wC (.str (Str.ofString "sun "))) (wCB rStrT (aCons (wVar 10) aNil))) (wC (.str (Str.ofString " 1 0 0")))) aNil)))))) sNext)
  (sSeq (sSet 4 (w2 rAddST (w2 rIxST (wC (.str (Str.ofString "abcdef"))) (wCall Z02 (aCons (wVar 0) (aCons (wC (.int 2)) (aCons (wC (.int 6)) aNil))))) (w2 rMulST (w2 rIxST (wC (.str (Str.ofString "abcdefghijklmnopqrstuvwxyz"))) (wCall Z02 (aCons (wVar 0) (aCons (wC (.int 3)) (aCons (wC (.int 26)) aNil))))) (wCB rIntT (aCons (wCmp cGtT (wVar 3) (wC (.int 3))) aNil)))))
  (sSeq (sSet 5 (w2 rAddST (wCB rStrT (aCons (wCall Z02 (aCons (wVar 0) (aCons (wC (.int 4)) (aCons (wC (.int 9)) aNil)))) aNil)) (wC (.str (Str.ofString " 0 -3 ")))))
  (sSeq (sSet 6 (wCmp cEqT (wCall Z02 (aCons (wVar 0) (aCons (wC (.int 5)) (aCons (wC (.int 9)) aNil)))) (wC (.int 1))))
  (sSeq (sSet 7 (w2 rIxTT (wLst (aCons (wC (.str (Str.ofString "2 0 0 0 5 0"))) (aCons (wC (.str (Str.ofString "2 4 6 -1 -2 -3"))) aNil))) (wCB rIntT (aCons (wVar 6) aNil))))
  (sSeq (sIf (tCmpT cLtT (wVar 3) (wC (.int 5))) (sRet (wTup (aCons (wC (.str (Str.ofString "wall"))) (aCons (wTup (aCons (wVar 4) (aCons (wVar 6) aNil))) (aCons (w2 rAddST (w2 rAddST (w2 rAddST (w2 rAddST (wC (.str (Str.ofString "wall "))) (wVar 4)) (wC (.str (Str.ofString " ")))) (wVar 5)) (wVar 7)) aNil))))) sNext)
  (sSeq (sSet 8 (wCall Z02 (aCons (wVar 0) (aCons (wC (.int 6)) (aCons (wC (.int 9)) aNil)))))
  (sSeq (sSet 9 (w2 rIxTT (wLst (aCons (wC (.str (Str.ofString "-2"))) (aCons (wC (.str (Str.ofString "-3"))) (aCons (wC (.str (Str.ofString "-4"))) aNil)))) (w2 rIxTT (wLst (aCons (wC (.int 0)) (aCons (wC (.int 0)) (aCons (wC (.int 0)) (aCons (wC (.int 0)) (aCons (wC (.int 0)) (aCons (wC (.int 0)) (aCons (wC (.int 0)) (aCons (wC (.int 1)) (aCons (wC (.int 2)) aNil)))))))))) (wVar 8))))
  (sRet (wTup (aCons (wC (.str (Str.ofString "dial"))) (aCons (wTup (aCons (wVar 4) (aCons (wOrV (wVar 6) (wCmp cGtT (wVar 8) (wC (.int 6)))) aNil))) (aCons (w2 rAddST (w2 rAddST (w2 rAddST (w2 rAddST (w2 rAddST (w2 rAddST (wC (.str (Str.ofString "dial "))) (wVar 4)) (wC (.str (Str.ofString " ")))) (wVar 5)) (wVar 7)) (wC (.str (Str.ofString " 1 1 ")))) (wVar 9)) aNil)))))))))))))
def Z1x:WS :=
 (sSeq (sSet 3 (wCall Z02 (aCons (wVar 0) (aCons (wC (.int 0)) (aCons (wC (.int 8)) aNil)))))
  (sSeq (sIf (tVal (wVar 2)) (sSet 3 (wC (.int 6))) sNext)
  Z0n))
theorem fig_l{k:Int}(h:k.natAbs < 10000):(Str.ofString (toString k)).length<=13:=(fig_sg (by show k.natAbs < 1000000000000;omega)).len
theorem lit_fig(i:Int):lit (Str.ofString (toString i))=figI i:=figI_eq i
theorem lit_mk(l:List Nat):lit (mkS l)=l:=rfl
theorem tx_sun(h:Int):Str.ofString "sun " ++ Str.ofString (toString h)++Str.ofString " 1 0 0" = mkS (jnL 32 [lSun,figI h,[49],[48],[48]]):=by
 rw[mk_app,lit_app,lit_fig,show lit (Str.ofString "sun ")=[115,117,110,32] by decide +kernel,show lit (Str.ofString " 1 0 0")=[32,49,32,48,32,48] by decide +kernel]
 simp[jnL,lSun]
def sdW:Bool->Str
 | false=>Str.ofString "2 0 0 0 5 0"
 | true=>Str.ofString "2 4 6 -1 -2 -3"
theorem tx_wal(n:List Nat)(c:Nat)(b:Bool):Str.ofString "wall " ++ mkS n++Str.ofString " " ++ (Str.ofString (toString (c:Int))++Str.ofString " 0 -3 ")++sdW b=mkS (jnL 32 (lWal::n::ftW c b)):=by
 rw[mk_app,lit_app,lit_app,lit_app,lit_app,lit_fig,lit_mk n,show lit (Str.ofString "wall ")=[119,97,108,108,32] by decide +kernel,show lit (Str.ofString " ")=[32] by decide +kernel,show lit (Str.ofString " 0 -3 ")=[32,48,32,45,51,32] by decide +kernel]
 cases b with
 | false =>
  rw[show lit (sdW false)=[50,32,48,32,48,32,48,32,53,32,48] by decide +kernel]
  simp[jnL,lWal,ftW]
 | true =>
  rw[show lit (sdW true)=[50,32,52,32,54,32,45,49,32,45,50,32,45,51] by decide +kernel]
  simp[jnL,lWal,ftW]
theorem tx_dil(n:List Nat)(c u:Nat)(b:Bool):Str.ofString "dial " ++ mkS n++Str.ofString " " ++ (Str.ofString (toString (c:Int))++Str.ofString " 0 -3 ")++sdW b++Str.ofString " 1 1 " ++ mkS (upL u)=mkS (jnL 32 (lDil::n::(ftW c b++[[49],[49],upL u]))):=by
 rw[mk_app,lit_app,lit_app,lit_app,lit_app,lit_app,lit_app,lit_fig,lit_mk n,lit_mk (upL u),show lit (Str.ofString "dial ")=[100,105,97,108,32] by decide +kernel,show lit (Str.ofString " ")=[32] by decide +kernel,show lit (Str.ofString " 0 -3 ")=[32,48,32,45,51,32] by decide +kernel,show lit (Str.ofString " 1 1 ")=[32,49,32,49,32] by decide +kernel]
 cases b with
 | false =>
  rw[show lit (sdW false)=[50,32,48,32,48,32,48,32,53,32,48] by decide +kernel]
  simp[jnL,lDil,ftW]
 | true =>
  rw[show lit (sdW true)=[50,32,52,32,54,32,45,49,32,45,50,32,45,51] by decide +kernel]
  simp[jnL,lDil,ftW]
theorem let_at{z:Str}{m:Nat} (hm:(Str.ofString "abcdefghijklmnopqrstuvwxyz").cps.toList.take m=z.cps.toList) (h26:m<=26) {k:Int} (h0:0<=k) (h1:k < m):atI z.cps.toList k=some (97 + k.toNat):=by
 obtain⟨j,rfl⟩:=Int.eq_ofNat_of_zero_le h0
 have hj:j < m:=by omega
 refine atI_nat ?_
 rw[← hm,List.getElem?_take_of_lt hj]
 have:∀j:Fin 26,(Str.ofString "abcdefghijklmnopqrstuvwxyz").cps.toList[j.val]?=some (97 + j.val):=by decide +kernel
 exact this ⟨j,by omega⟩
theorem name1{d:Nat}(h:d < 26):NameL [97 + d]:=⟨by simp,fun c hc=>by
 rw[List.mem_singleton.mp hc]
 unfold isLet
 rw[decide_eq_true (by omega),decide_eq_true (by omega)]
 rfl⟩
theorem name2{d e:Nat}(h:d < 26)(h2:e < 26):NameL [97 + d,97 + e]:=⟨by simp,fun c hc=>by
 simp only[List.mem_cons,List.not_mem_nil,or_false]at hc
 unfold isLet
 rcases hc with rfl|rfl<;>(rw[decide_eq_true (by omega),decide_eq_true (by omega)];rfl)⟩
abbrev drW:WS:=(sSeq (sSet 5 (w2 rAddST (wCB rStrT (aCons (wCall Z02 (aCons (wVar 0) (aCons (wC (.int 4)) (aCons (wC (.int 9)) aNil)))) aNil)) (wC (.str (Str.ofString " 0 -3 ")))))
  (sSeq (sSet 6 (wCmp cEqT (wCall Z02 (aCons (wVar 0) (aCons (wC (.int 5)) (aCons (wC (.int 9)) aNil)))) (wC (.int 1))))
  (sSeq (sSet 7 (w2 rIxTT (wLst (aCons (wC (.str (Str.ofString "2 0 0 0 5 0"))) (aCons (wC (.str (Str.ofString "2 4 6 -1 -2 -3"))) aNil))) (wCB rIntT (aCons (wVar 6) aNil))))
  (sSeq (sIf (tCmpT cLtT (wVar 3) (wC (.int 5))) (sRet (wTup (aCons (wC (.str (Str.ofString "wall"))) (aCons (wTup (aCons (wVar 4) (aCons (wVar 6) aNil))) (aCons (w2 rAddST (w2 rAddST (w2 rAddST (w2 rAddST (wC (.str (Str.ofString "wall "))) (wVar 4)) (wC (.str (Str.ofString " ")))) (wVar 5)) (wVar 7)) aNil))))) sNext)
  (sSeq (sSet 8 (wCall Z02 (aCons (wVar 0) (aCons (wC (.int 6)) (aCons (wC (.int 9)) aNil)))))
  (sSeq (sSet 9 (w2 rIxTT (wLst (aCons (wC (.str (Str.ofString "-2"))) (aCons (wC (.str (Str.ofString "-3"))) (aCons (wC (.str (Str.ofString "-4"))) aNil)))) (w2 rIxTT (wLst (aCons (wC (.int 0)) (aCons (wC (.int 0)) (aCons (wC (.int 0)) (aCons (wC (.int 0)) (aCons (wC (.int 0)) (aCons (wC (.int 0)) (aCons (wC (.int 0)) (aCons (wC (.int 1)) (aCons (wC (.int 2)) aNil)))))))))) (wVar 8))))
  (sRet (wTup (aCons (wC (.str (Str.ofString "dial"))) (aCons (wTup (aCons (wVar 4) (aCons (wOrV (wVar 6) (wCmp cGtT (wVar 8) (wC (.int 6)))) aNil))) (aCons (w2 rAddST (w2 rAddST (w2 rAddST (w2 rAddST (w2 rAddST (w2 rAddST (wC (.str (Str.ofString "dial "))) (wVar 4)) (wC (.str (Str.ofString " ")))) (wVar 5)) (wVar 7)) (wC (.str (Str.ofString " 1 1 ")))) (wVar 9)) aNil)))))))))))
theorem dr_rest{c k:Int}{n:List Nat}{D:DT}{s1 s2:Slot}(hn:NameL n)(h:∀r l,ErOk r l->D.rt (erT r l)):drW D [.val (.int c),s1,s2,.val (.int k),.val (.str (mkS n)),.no,.no,.no,.no,.no,.no]:=by
 have hd:∀(k many:Int)(Q:T->Prop),0<=k->k<=1000->1<=many->many<=10 ^ 12->(∀r:Int,0<=r->r < many->Q (.int r))->Z02 [.int c,.int k,.int many] Q:=fun k many Q a b c' d e=>⟨c,k,many,rfl,a,b,c',d,e⟩
 obtain⟨SD,hSD⟩:∃S,S=Z02:=⟨_,rfl⟩
 have l8:(mkS n).length<=8:=by have:=hn.len.2;simpa [Str.length] using this
 unfold drW
 rw[← hSD]at hd ⊢
 clear hSD
 have z1:(Str.ofString " 0 -3 ").length=6:=by decide +kernel
 have z2:(Str.ofString "wall ").length=5:=by decide +kernel
 have z3:(Str.ofString " ").length=1:=by decide +kernel
 have z4:(Str.ofString "dial ").length=5:=by decide +kernel
 have z5:(Str.ofString " 1 1 ").length=5:=by decide +kernel
 have zs:∀b,(sdW b).length<=14:=by decide +kernel
 have zu:∀u,(mkS (upL u)).length=2:=fun u=>by match u with|0=>rfl|1=>rfl|u + 2=>rfl
 walk_at "tw"
 refine hd _ _ _ (by decide) (by decide) (by decide) (by decide) fun q q0 q1=>?_
 obtain⟨cc,rfl⟩:=Int.eq_ofNat_of_zero_le q0
 have hc:cc < 9:=by omega
 have f1:=fig_l (k:=(cc:Int)) (by omega)
 dsimp only
 refine⟨by omega,by omega,?_⟩
 refine hd _ _ _ (by decide) (by decide) (by decide) (by decide) fun q q0 q1=>?_
 dsimp only
 obtain⟨b,hb⟩:∃b,b=decide (q=1):=⟨_,rfl⟩
 rw[← hb]
 have e7:atI [T.str (Str.ofString "2 0 0 0 5 0"),T.str (Str.ofString "2 4 6 -1 -2 -3")] (if b then 1 else 0)=some (.str (sdW b)):=by
  cases b with
  | false=>exact atI_nat (j:=0) rfl
  | true=>exact atI_nat (j:=1) rfl
 have ri:∀(P:T->Prop),P (.int (if b then 1 else 0))->rIntT [.bl b] P:=fun P q=>q
 refine ri _ ?_
 dsimp only
 rw[e7]
 dsimp only
 have zb:=zs b
 refine⟨fun _=>⟨by omega,by rw[Str.length_append];omega,by simp only[Str.length_append];omega,by simp only[Str.length_append];omega,?_⟩,fun _=>?_⟩
 ·rw[tx_wal]
  exact h _ _ (er_wal hc hn)
 refine hd _ _ _ (by decide) (by decide) (by decide) (by decide) fun t t0 t1=>?_
 obtain⟨tp,rfl⟩:=Int.eq_ofNat_of_zero_le t0
 have ht:tp < 9:=by omega
 obtain⟨u,hu3,e8,hu⟩:∃u:Nat,u < 3/\atI [T.int 0,T.int 0,T.int 0,T.int 0,T.int 0,T.int 0,T.int 0,T.int 1,T.int 2] ((tp:Nat):Int)=some (.int (u:Nat))/\decide ((6:Int) < ((tp:Nat):Int))=decide (0 < u):=by
  match tp,ht with
  | 0,_=>exact⟨0,by decide,atI_nat (j:=0) rfl,rfl⟩
  | 1,_=>exact⟨0,by decide,atI_nat (j:=1) rfl,rfl⟩
  | 2,_=>exact⟨0,by decide,atI_nat (j:=2) rfl,rfl⟩
  | 3,_=>exact⟨0,by decide,atI_nat (j:=3) rfl,rfl⟩
  | 4,_=>exact⟨0,by decide,atI_nat (j:=4) rfl,rfl⟩
  | 5,_=>exact⟨0,by decide,atI_nat (j:=5) rfl,rfl⟩
  | 6,_=>exact⟨0,by decide,atI_nat (j:=6) rfl,rfl⟩
  | 7,_=>exact⟨1,by decide,atI_nat (j:=7) rfl,rfl⟩
  | 8,_=>exact⟨2,by decide,atI_nat (j:=8) rfl,rfl⟩
 have e9:atI [T.str (Str.ofString "-2"),T.str (Str.ofString "-3"),T.str (Str.ofString "-4")] ((u:Nat):Int)=some (.str (mkS (upL u))):=by
  have k2:Str.ofString "-2" = mkS [45,50]:=by decide +kernel
  have k3:Str.ofString "-3" = mkS [45,51]:=by decide +kernel
  have k4:Str.ofString "-4" = mkS [45,52]:=by decide +kernel
  rw[k2,k3,k4]
  match u,hu3 with
  | 0,_=>exact atI_nat (j:=0) rfl
  | 1,_=>exact atI_nat (j:=1) rfl
  | 2,_=>exact atI_nat (j:=2) rfl
 dsimp only
 rw[e8]
 dsimp only
 rw[e9]
 dsimp only
 have zz:=zu u
 have hE:=h _ _ (er_dil (c:=cc) (u:=u) (b:=b) hc hu3 hn)
 simp only[erT]at hE
 rw[← tx_dil,← hu]at hE
 simp only[Str.length_append]
 refine⟨fun q=>⟨by omega,by omega,by omega,by omega,by omega,by omega,?_⟩,fun q=>⟨by omega,by omega,by omega,by omega,by omega,by omega,?_⟩⟩
 ·rw[q,Bool.true_or]at hE
  rw[q]
  exact hE
 ·rw[q,Bool.false_or]at hE
  rw[q]
  exact hE
theorem name_of{d e:Int}{b:Bool}(d0:0<=d)(d1:d < 6)(e0:0<=e)(e1:e < 26):∃n,NameL n/\(⟨#[97 + d.toNat]⟩:Str)++repS ⟨#[97 + e.toNat]⟩ (if b then 1 else 0)=mkS n:=by
 cases b with
 | false =>
  refine⟨[97 + d.toNat],name1 (by omega),?_⟩
  rw[mk_app]
  rfl
 | true =>
  refine⟨[97 + d.toNat,97 + e.toNat],name2 (by omega) (by omega),?_⟩
  rw[mk_app]
  rfl
theorem Z3i:∀ts Q,Z0v ts Q->Z1x {nx:=fun _=>Q .non,rt:=Q} (startT 11 ts):=by
 rintro _ Q ⟨c,n,b,rfl,n0,n1,h⟩
 have hd:∀(k many:Int)(Q:T->Prop),0<=k->k<=1000->1<=many->many<=10 ^ 12->(∀r:Int,0<=r->r < many->Q (.int r))->Z02 [.int c,.int k,.int many] Q:=fun k many Q a b c' d e=>⟨c,k,many,rfl,a,b,c',d,e⟩
 have k0:∀k:Int,Z0n {nx:=fun _=>Q .non,rt:=Q} [.val (.int c),.val (.int n),.val (.bl b),.val (.int k),.no,.no,.no,.no,.no,.no,.no]:=fun k=>by
  have rest:=fun (nm:List Nat) (hn:NameL nm)=>dr_rest (c:=c) (k:=k) (D:={nx:=fun _=>Q .non,rt:=Q}) (s1:=.val (.int n)) (s2:=.val (.bl b)) hn h
  unfold Z0n
  obtain⟨WR,hWR⟩:∃W:WS,W=drW:=⟨_,rfl⟩
  rw[← hWR]at rest
  unfold drW at hWR
  rw[← hWR]
  clear hWR
  obtain⟨SD,hSD⟩:∃S,S=Z02:=⟨_,rfl⟩
  rw[← hSD]at hd ⊢
  clear hSD
  have z6:(Str.ofString "abcdef").length<=1000:=by decide +kernel
  have z26:(Str.ofString "abcdefghijklmnopqrstuvwxyz").length<=1000:=by decide +kernel
  have z1:(Str.ofString "sun ").length=4:=by decide +kernel
  have z2:(Str.ofString " 1 0 0").length=6:=by decide +kernel
  walk_at "tw"
  refine⟨fun _=>?_,fun _=>?_⟩
  ·refine hd _ _ _ (by decide) (by decide) (by decide) (by decide) fun q q0 q1=>?_
   obtain⟨j,rfl⟩:=Int.eq_ofNat_of_zero_le q0
   have hj:j < 4:=by omega
   obtain⟨hh,eh,h0,h9⟩:∃hh:Int,atI [T.int n,T.int (n + 1),T.int (if n - 1 > 0 then n - 1 else 0),T.int 9999] ((j:Nat):Int)=some (.int hh)/\0<=hh/\hh<=9999:=by
    match j,hj with
    | 0,_=>exact⟨_,atI_nat (j:=0) rfl,by omega,by omega⟩
    | 1,_=>exact⟨_,atI_nat (j:=1) rfl,by omega,by omega⟩
    | 2,_=>exact⟨_,atI_nat (j:=2) rfl,by split<;>omega,by split<;>omega⟩
    | 3,_=>exact⟨_,atI_nat (j:=3) rfl,by omega,by omega⟩
   dsimp only
   rw[eh]
   dsimp only
   have f1:=fig_l (k:=hh) (by omega)
   have hE:=h _ _ (er_sun (h:=hh) (a:=1) (b:=0) (c:=0) (wa:=[49]) (wb:=[48]) (wc:=[48]) ⟨h0,h9⟩ (by decide +kernel) (by decide +kernel) (by decide +kernel) ⟨by decide,by decide,by decide⟩ (by decide +kernel))
   simp only[erT]at hE
   rw[← tx_sun]at hE
   exact⟨by omega,by omega,by rw[Str.length_append];omega,hE⟩
  ·refine hd _ _ _ (by decide) (by decide) (by decide) (by decide) fun d d0 d1=>⟨z6,?_⟩
   rw[let_at (m:=6) (by decide +kernel) (by decide) d0 d1]
   dsimp only
   refine hd _ _ _ (by decide) (by decide) (by decide) (by decide) fun e e0 e1=>⟨z26,?_⟩
   rw[let_at (m:=26) (by decide +kernel) (by decide) e0 e1]
   dsimp only
   obtain⟨bb,hbb⟩:∃b,b=decide (3 < k):=⟨_,rfl⟩
   rw[← hbb]
   have ri:∀(P:T->Prop),P (.int (if bb then 1 else 0))->rIntT [.bl bb] P:=fun P q=>q
   refine ri _ ?_
   obtain⟨nm,hn,en⟩:=name_of (b:=bb) d0 d1 e0 e1
   dsimp only
   rw[en]
   refine⟨by show 1<=1;decide,by cases bb<;>decide,by cases bb<;>decide,?_,rest nm hn⟩
   have:=congrArg Str.length en
   rw[Str.length_append]at this
   have l8:(mkS nm).length<=8:=by have:=hn.len.2;simpa [Str.length] using this
   omega
 unfold Z1x
 obtain⟨WR,hWR⟩:∃W:WS,W=Z0n:=⟨_,rfl⟩
 obtain⟨SD,hSD⟩:∃S,S=Z02:=⟨_,rfl⟩
 rw[← hSD]at hd ⊢
 rw[← hWR]at k0 ⊢
 clear hSD hWR
 walk_at "tw"
 refine hd _ _ _ (by decide) (by decide) (by decide) (by decide) fun q q0 q1=>?_
 exact⟨fun _=>k0 6,fun _=>k0 q⟩
def Z0G:SpT:=fun ts Q=>∃(ns:List Int) (k:Int),ts=[.lst (ns.map T.int),.int k]/\0<=k/\∀v:Int,Q (.int v)
theorem Z3z:∀ts Q,Z0G ts Q->ts.length=2:=by rintro ts Q ⟨_,_,e,_⟩;subst e;rfl
def Z1S:WS :=
 (sSeq (sIf (tCmpT cLtT (wVar 1) (wCB rLenT (aCons (wVar 0) aNil))) (sRet (w2 rIxTT (wVar 0) (wVar 1))) sNext)
  (sRet (wC (.int 0))))
theorem Z3P:∀ts Q,Z0G ts Q->Z1S {nx:=fun _=>Q .non,rt:=Q} (startT 2 ts):=by
 rintro _ Q ⟨ns,k,rfl,h0,h⟩
 unfold Z1S
 walk_at "go"
 rw[List.length_map]
 refine⟨fun z=>?_,fun z=>?_⟩
 ·obtain⟨v,_,e⟩:=atI_map h0 (of_decide_eq_true z)
  walk_at "go"
  rw[e]
  exact h v
 ·walk_at "go"
  exact h 0
def Z0h:SpT:=fun ts Q=>(∃(l:List Nat) (n:Nat),ts=[.str (mkS l)]/\TxIn l/\loopL 0 (splL 10 l) [[],[],[]]=.inl n/\Q (.int (n:Nat)))∨∃t,ts=[t]/\noExc t/\isK .str t=false/\Q (.int 0)
theorem Z3A:∀ts Q,Z0h ts Q->ts.length=1:=by
 rintro ts Q (⟨_,_,e,_⟩|⟨_,e,_⟩)<;>(subst e;rfl)
def Z1T:WS :=
 (sSeq (sSet 1 (wC .non))
  (sSeq (sTry (fun R=>(sExpr (wCall (Z06 R) (aCons (wVar 0) aNil)))) 2 1 ["NoPlate", "NoRow", "NoSun", "NoYard"])
  (sSeq (sIf (tOrT (tNotT (tVal (wIsE [("NoPlate", false),("NoRow", true),("NoSun", false),("NoYard", false)] (wVar 1)))) (tNotT (tVal (wIsE [("NoPlate", true),("NoRow", true),("NoSun", true),("NoYard", true)] (wVar 1))))) (sRet (wC .non)) sNext)
  (sSeq (sIf (tVal (wIsE [("NoPlate", true),("NoRow", false),("NoSun", true),("NoYard", true)] (wVar 1))) (sRet (wC .non)) sNext)
  (sSeq (sIf (tOrT (tNotT (tVal (wIsi .int (wFld "row" ["NoRow"] (wVar 1))))) (tVal (wIsi .bool (wFld "row" ["NoRow"] (wVar 1))))) (sRet (wC .non)) sNext)
  (sRet (wFld "row" ["NoRow"] (wVar 1))))))))
theorem ref_go{t:T}{n:Nat}{Q:T->Prop}(hr:∀(R:T->Prop)(Q:T->Prop),R (noRow n)->Z06 R [t] Q)(h:Q (.int (n:Nat))):Z1T {nx:=fun _=>Q .non,rt:=Q} (startT 3 [t]):=by
 unfold Z1T
 obtain⟨SR,hSR⟩:∃S,S=Z06:=⟨_,rfl⟩
 rw[← hSR]at hr ⊢
 walk_at "go"
 refine hr _ _ ⟨by simp,?_⟩
 walk_at "tw"
 have l1:List.lookup (Str.ofString "NoRow") [((Str.ofString "NoPlate"),false),(Str.ofString "NoRow", true),(Str.ofString "NoSun", false),(Str.ofString "NoYard", false)]=some true:=by decide +kernel
 have l2:List.lookup (Str.ofString "NoRow") [((Str.ofString "NoPlate"),true),(Str.ofString "NoRow", true),(Str.ofString "NoSun", true),(Str.ofString "NoYard", true)]=some true:=by decide +kernel
 have l3:List.lookup (Str.ofString "NoRow") [((Str.ofString "NoPlate"),true),(Str.ofString "NoRow", false),(Str.ofString "NoSun", true),(Str.ofString "NoYard", true)]=some false:=by decide +kernel
 rw[l1,l2,l3]
 have m:Str.ofString "NoRow" ∈ [Str.ofString "NoRow"]:=List.mem_singleton.mpr rfl
 exact⟨(fun q=>by cases q),fun _=>⟨(fun q=>by cases q),fun _=>⟨(fun q=>by cases q),fun _=>⟨m,(fun q=>by cases q),fun _=>⟨m,(fun q=>by cases q),fun _=>⟨m,h⟩⟩⟩⟩⟩⟩
theorem Z3Q:∀ts Q,Z0h ts Q->Z1T {nx:=fun _=>Q .non,rt:=Q} (startT 3 ts):=by
 rintro _ Q (⟨l,n,rfl,hl,e,h⟩|⟨t,rfl,ne,hk,h⟩)
 ·exact ref_go (fun R Q q=>.inl ⟨l,rfl,hl,by rw[e];exact q⟩) h
 ·exact ref_go (n:=0) (fun R Q q=>.inr ⟨t,rfl,ne,hk,q⟩) h
abbrev Rws:=List (ER×List Nat)
abbrev erM(rs:Rws):List T:=rs.map fun r=>erT r.1 r.2
def RwsOk(n:Nat)(rs:Rws):Prop:=rs.length<=n/\∀r∈rs,ErOk r.1 r.2
theorem RwsOk.app{n:Nat}{rs:Rws}{r:ER}{l:List Nat}(h:RwsOk n rs)(e:ErOk r l):RwsOk (n + 1) (rs++[(r,l)]):=⟨by have:=h.1;simp;omega,fun x hx=>by
 rcases List.mem_append.mp hx with hx|hx
 ·exact h.2 x hx
 ·rw[List.mem_singleton.mp hx];exact e⟩
theorem RwsOk.mono{n m:Nat}{rs:Rws}(h:RwsOk n rs)(q:n<=m):RwsOk m rs:=⟨by have:=h.1;omega,h.2⟩
def Z1o:SpT:=fun ts Q=>∃ns:List Int,ts=[.lst (ns.map T.int)]/\ns.length<=63/\∀rs,RwsOk 200 rs->Q (erL rs)
theorem Z43:∀ts Q,Z1o ts Q->ts.length=1:=by rintro ts Q ⟨_,e,_⟩;subst e;rfl
def Z0w:WS :=
 (sApp 2 (wTup (aCons (wC (.str (Str.ofString "sun"))) (aCons (wVar 3) (aCons (w2 rAddST (w2 rAddST (wC (.str (Str.ofString "sun "))) (wCB rStrT (aCons (wVar 3) aNil))) (wC (.str (Str.ofString " 0 0 1")))) aNil)))))
def Z0x:WS :=
 (sSeq (sSet 6 (w2 rAddST (wC (.str (Str.ofString "w"))) (w2 rIxST (wC (.str (Str.ofString "abcdefghijklmnopqrstuvwxyz"))) (wVar 3))))
  (sApp 2 (wTup (aCons (wC (.str (Str.ofString "wall"))) (aCons (wTup (aCons (wVar 6) (aCons (wC (.bl false)) aNil))) (aCons (w2 rAddST (w2 rAddST (wC (.str (Str.ofString "wall "))) (wVar 6)) (wC (.str (Str.ofString " 0 0 0 1 0 0 0 1 0")))) aNil))))))
def Z0H:WS :=
 (sApp 2 (wCall Z0v (aCons (wVar 7) (aCons (wOLen 2) (aCons (wVar 4) aNil)))))
def Z0I:WS :=
 (sSeq (sSet 8 (wCall Z02 (aCons (wVar 1) (aCons (w2 rAddT (wC (.int 6)) (w2 rMulT (wC (.int 2)) (wVar 3))) (aCons (w2 rAddT (wOLen 2) (wC (.int 1))) aNil)))))
  (sIns 2 (wVar 8) (wTup (aCons (wC (.str (Str.ofString "none"))) (aCons (wC .non) (aCons (w2 rIxTT (wVar 5) (wCall Z02 (aCons (wVar 1) (aCons (w2 rAddT (wC (.int 7)) (w2 rMulT (wC (.int 2)) (wVar 3))) (aCons (wCB rLenT (aCons (wVar 5) aNil)) aNil))))) aNil))))))
def Z3B:WS :=
 (sSeq (sSet 1 (wCall Z0G (aCons (wVar 0) (aCons (wC (.int 0)) aNil))))
  (sSeq (sOwn 2 aNil)
  (sSeq (sFor (iRange1 (aCons (w2 rIxTT (wLst (aCons (wC (.int 1)) (aCons (wC (.int 1)) (aCons (w2 rAddT (wC (.int 79)) (wCall Z02 (aCons (wVar 1) (aCons (wC (.int 1)) (aCons (wC (.int 3)) aNil))))) (aCons (wC (.int 0)) aNil))))) (wCall Z02 (aCons (wVar 1) (aCons (wC (.int 0)) (aCons (wC (.int 4)) aNil))))) aNil)) (gN 3) Z0w)
  (sSeq (sFor (iRange1 (aCons (w2 rIxTT (wLst (aCons (wC (.int 0)) (aCons (wC (.int 0)) (aCons (w2 rAddT (wC (.int 19)) (wCall Z02 (aCons (wVar 1) (aCons (wC (.int 3)) (aCons (wC (.int 3)) aNil))))) aNil)))) (wCall Z02 (aCons (wVar 1) (aCons (wC (.int 2)) (aCons (wC (.int 3)) aNil))))) aNil)) (gN 3) Z0x)
  (sSeq (sSet 4 (wCmp cEqT (wCall Z02 (aCons (wVar 1) (aCons (wC (.int 4)) (aCons (wC (.int 3)) aNil)))) (wC (.int 1))))
  (sSeq (sFor (iEnum (aCons (wSl (wVar 0) (wo (wC (.int 2))) (wo (wC (.int 24)))) aNil)) (gT 2 (gsC (gN 3) (gsC (gN 7) gs0))) Z0H)
  (sSeq (sSet 5 (wLst (aCons (wC (.str (Str.ofString ""))) (aCons (wC (.str (Str.ofString "sun 1"))) (aCons (wC (.str (Str.ofString "wall a 1"))) (aCons (wC (.str (Str.ofString "dial"))) (aCons (wC (.str (Str.ofString "sun 9999 0 0 0 0"))) (aCons (wC (.str (Str.ofString "hour"))) (aCons (wC (.str (Str.ofString "wall a b"))) (aCons (wC (.str (Str.ofString "sun 1 1 1 x"))) aNil))))))))))
  (sSeq (sFor (iRange1 (aCons (wCall Z02 (aCons (wVar 1) (aCons (wC (.int 5)) (aCons (wC (.int 3)) aNil)))) aNil)) (gN 3) Z0I)
  (sFrz 2 (sRet (wVar 2)))))))))))
theorem tx_sun0(h:Int):Str.ofString "sun " ++ Str.ofString (toString h)++Str.ofString " 0 0 1" = mkS (jnL 32 [lSun,figI h,[48],[48],[49]]):=by
 rw[mk_app,lit_app,lit_fig,show lit (Str.ofString "sun ")=[115,117,110,32] by decide +kernel,show lit (Str.ofString " 0 0 1")=[32,48,32,48,32,49] by decide +kernel]
 simp[jnL,lSun]
theorem tx_w0(n:List Nat):Str.ofString "wall " ++ mkS n++Str.ofString " 0 0 0 1 0 0 0 1 0" = mkS (jnL 32 [lWal,n,[48],[48],[48],[49],[48],[48],[48],[49],[48]]):=by
 rw[mk_app,lit_app,lit_mk n,show lit (Str.ofString "wall ")=[119,97,108,108,32] by decide +kernel,show lit (Str.ofString " 0 0 0 1 0 0 0 1 0")=[32,48,32,48,32,48,32,49,32,48,32,48,32,48,32,49,32,48] by decide +kernel]
 simp[jnL,lWal]
theorem r_b0{s0 s1 s4 s5 s6 s7 s8:Slot}{D:DT}{n k:Nat}{rs:Rws}(hk:k < 900)(h:RwsOk n rs)(hn:n < 900)(q:∀rs',RwsOk (n + 1) rs'->D.nx [s0,s1,.own (erM rs'),.val (.int (k:Nat)),s4,s5,s6,s7,s8]):Z0w D [s0,s1,.own (erM rs),.val (.int (k:Nat)),s4,s5,s6,s7,s8]:=by
 have f1:=fig_l (k:=(k:Int)) (by omega)
 have z1:(Str.ofString "sun ").length=4:=by decide +kernel
 have z2:(Str.ofString " 0 0 1").length=6:=by decide +kernel
 have e:=er_sun (h:=(k:Int)) (a:=0) (b:=0) (c:=1) (wa:=[48]) (wb:=[48]) (wc:=[49]) ⟨by omega,by omega⟩ (by decide +kernel) (by decide +kernel) (by decide +kernel) ⟨by decide,by decide,by decide⟩ (by decide +kernel)
 have hq:=q _ (h.app e)
 simp only[erM,List.map_append,List.map_cons,List.map_nil,erT]at hq
 rw[← tx_sun0]at hq
 have hl:=h.1
 unfold Z0w
 walk_at "tw"
 simp only[Str.length_append]
 exact⟨by omega,by omega,by omega,by rw[List.length_map];omega,hq⟩
theorem r_l0{s0 s1 s4 s5 s6 s7 s8:Slot}{D:DT}:∀(m k n:Nat)(rs:Rws)(s3:Slot),k + m<=900->n + m<=900->RwsOk n rs->(∀rs' s3,RwsOk (n + m) rs'->D.nx [s0,s1,.own (erM rs'),s3,s4,s5,s6,s7,s8])->forT (gN 3) Z0w (rangeT (k:Nat) m) D [s0,s1,.own (erM rs),s3,s4,s5,s6,s7,s8]
 | 0,k,n,rs,s3,_,_,h,q=>by
  simp only[rangeT,forT]
  exact q rs s3 h
 | m + 1,k,n,rs,s3,hk,hn,h,q=>by
  have ih:=fun (rs:Rws) (s3:Slot) (h:RwsOk (n + 1) rs)=>r_l0 (s0:=s0) (s1:=s1) (s4:=s4) (s5:=s5) (s6:=s6) (s7:=s7) (s8:=s8) (D:=D) m (k + 1) (n + 1) rs s3 (by omega) (by omega) h (fun rs' s3 r=>q rs' s3 (r.mono (by omega)))
  simp only[rangeT,forT]
  rw[show ((k:Nat):Int) + 1=((k + 1:Nat):Int) by omega]
  generalize forT (gN 3) Z0w (rangeT ((k + 1:Nat):Int) m)=F at ih ⊢
  exact r_b0 (by omega) h (by omega) fun rs' r=>ih rs' _ r
theorem nameW{k:Nat}(hk:k < 26):NameL [119,97 + k]:=⟨by simp,fun c hc=>by
 simp only[List.mem_cons,List.not_mem_nil,or_false]at hc
 unfold isLet
 rcases hc with rfl|rfl<;>(rw[decide_eq_true (by omega),decide_eq_true (by omega)];rfl)⟩
theorem r_b1{s0 s1 s4 s5 s6 s7 s8:Slot}{D:DT}{n k:Nat}{rs:Rws}(hk:k < 26)(h:RwsOk n rs)(hn:n < 900)(q:∀rs' s6,RwsOk (n + 1) rs'->D.nx [s0,s1,.own (erM rs'),.val (.int (k:Nat)),s4,s5,s6,s7,s8]):Z0x D [s0,s1,.own (erM rs),.val (.int (k:Nat)),s4,s5,s6,s7,s8]:=by
 have z0:(Str.ofString "w").length=1:=by decide +kernel
 have z1:(Str.ofString "wall ").length=5:=by decide +kernel
 have z2:(Str.ofString " 0 0 0 1 0 0 0 1 0").length=18:=by decide +kernel
 have z26:(Str.ofString "abcdefghijklmnopqrstuvwxyz").length<=1000:=by decide +kernel
 have en:Str.ofString "w" ++ (⟨#[97 + k]⟩:Str)=mkS [119,97 + k]:=by
  rw[mk_app,show lit (Str.ofString "w")=[119] by decide +kernel]
  rfl
 have e:=er_w0 (nameW hk)
 have hq:=fun s6=>q _ s6 (h.app e)
 simp only[erM,List.map_append,List.map_cons,List.map_nil,erT]at hq
 rw[← tx_w0]at hq
 have hl:=h.1
 have l2:(mkS [119,97 + k]).length=2:=rfl
 unfold Z0x
 walk_at "tw"
 refine⟨z26,?_⟩
 rw[let_at (m:=26) (by decide +kernel) (by decide) (by omega) (by omega),Int.toNat_natCast]
 dsimp only
 rw[en]
 simp only[Str.length_append]
 exact⟨by rw[z0];show 1 + 1<=1000;decide,by omega,by omega,by rw[List.length_map];omega,hq _⟩
theorem r_l1{s0 s1 s4 s5 s7 s8:Slot}{D:DT}:∀(m k n:Nat)(rs:Rws)(s3 s6:Slot),k + m<=26->n + m<=900->RwsOk n rs->(∀rs' s3 s6,RwsOk (n + m) rs'->D.nx [s0,s1,.own (erM rs'),s3,s4,s5,s6,s7,s8])->forT (gN 3) Z0x (rangeT (k:Nat) m) D [s0,s1,.own (erM rs),s3,s4,s5,s6,s7,s8]
 | 0,k,n,rs,s3,s6,_,_,h,q=>by
  simp only[rangeT,forT]
  exact q rs s3 s6 h
 | m + 1,k,n,rs,s3,s6,hk,hn,h,q=>by
  have ih:=fun (rs:Rws) (s3 s6:Slot) (h:RwsOk (n + 1) rs)=>r_l1 (s0:=s0) (s1:=s1) (s4:=s4) (s5:=s5) (s7:=s7) (s8:=s8) (D:=D) m (k + 1) (n + 1) rs s3 s6 (by omega) (by omega) h (fun rs' s3 s6 r=>q rs' s3 s6 (r.mono (by omega)))
  simp only[rangeT,forT]
  rw[show ((k:Nat):Int) + 1=((k + 1:Nat):Int) by omega]
  generalize forT (gN 3) Z0x (rangeT ((k + 1:Nat):Int) m)=F at ih ⊢
  exact r_b1 (by omega) h (by omega) fun rs' s6 r=>ih rs' _ s6 r
theorem r_l2{s0 s1 s5 s6 s8:Slot}{b:Bool}{D:DT}:∀(vs:List Int)(k n:Nat)(rs:Rws)(s3 s7:Slot),n + vs.length<=900->RwsOk n rs->(∀rs' s3 s7,RwsOk (n + vs.length) rs'->D.nx [s0,s1,.own (erM rs'),s3,.val (.bl b),s5,s6,s7,s8]) →
  forT (gT 2 (gsC (gN 3) (gsC (gN 7) gs0))) Z0H (enumT k (vs.map T.int)) D [s0,s1,.own (erM rs),s3,.val (.bl b),s5,s6,s7,s8]
 | [],k,n,rs,s3,s7,_,h,q=>by
  simp only[List.map_nil,enumT,forT]
  exact q rs s3 s7 h
 | v::vs,k,n,rs,s3,s7,hn,h,q=>by
  have ih:=fun (rs:Rws) (s3 s7:Slot) (h:RwsOk (n + 1) rs)=>r_l2 (s0:=s0) (s1:=s1) (s5:=s5) (s6:=s6) (s8:=s8) (b:=b) (D:=D) vs (k + 1) (n + 1) rs s3 s7 (by simp at hn;omega) h (fun rs' s3 s7 r=>q rs' s3 s7 (r.mono (by simp;omega)))
  have hd:∀(Q:T->Prop),(∀r l,ErOk r l->Q (erT r l))->Z0v [.int v,.int ((erM rs).length:Nat),.bl b] Q:=fun Q q=>⟨v,_,b,rfl,by omega,by rw[List.length_map];have:=h.1;simp at hn;omega,q⟩
  simp only[List.map_cons]
  rw[show enumT k (T.int v::vs.map T.int)=.tup [.int (k:Nat),.int v]::enumT (k + 1) (vs.map T.int) from rfl]
  simp only[forT]
  generalize forT (gT 2 (gsC (gN 3) (gsC (gN 7) gs0))) Z0H (enumT (k + 1) (vs.map T.int))=F at ih ⊢
  unfold Z0H
  obtain⟨SR,hSR⟩:∃S,S=Z0v:=⟨_,rfl⟩
  rw[← hSR]at hd ⊢
  clear hSR
  walk_at "tw"
  refine hd _ fun r l e=>⟨by rw[List.length_map];have:=h.1;simp at hn;omega,?_⟩
  have:=ih (rs++[(r,l)]) (.val (.int (k:Nat))) (.val (.int v)) (h.app e)
  simpa [erM] using this
def tab_L_rows:List Str:=[(Str.ofString ""),(Str.ofString "sun 1"),(Str.ofString "wall a 1"),(Str.ofString "dial"),(Str.ofString "sun 9999 0 0 0 0"),(Str.ofString "hour"),(Str.ofString "wall a b"),(Str.ofString "sun 1 1 1 x")]
theorem tab_none:(tab_L_rows.all fun z=>decide (z.length<=100)&&noneB (lit z)&&(lit z).all fun c=>decide (c < 128) && !decide (c=10))=true:=by decide +kernel
theorem er_non{z:Str}(h:z∈tab_L_rows):ErOk .non (lit z):=by
 have:=List.all_eq_true.mp tab_none z h
 simp only[Bool.and_eq_true,decide_eq_true_eq,List.all_eq_true,Bool.not_eq_true',decide_eq_false_iff_not]at this
 exact⟨by have:=this.1.1;simp[Str.length]at this ⊢;omega,this.2,this.1.2⟩
theorem RwsOk.ins{n p:Nat}{rs:Rws}{r:ER}{l:List Nat}(h:RwsOk n rs)(e:ErOk r l):RwsOk (n + 1) (rs.take p++(r,l)::rs.drop p):=⟨by have:=h.1;simp;omega,fun x hx=>by
 rcases List.mem_append.mp hx with hx|hx
 ·exact h.2 x (List.mem_of_mem_take hx)
 ·rcases List.mem_cons.mp hx with rfl|hx
  ·exact e
  ·exact h.2 x (List.mem_of_mem_drop hx)⟩
theorem r_l3{s0 s4 s6 s7:Slot}{c:Int}{D:DT}:∀(m k n:Nat)(rs:Rws)(s3 s8:Slot),k + m<=10->n + m<=900->RwsOk n rs->(∀rs' s3 s8,RwsOk (n + m) rs'->D.nx [s0,.val (.int c),.own (erM rs'),s3,s4,.val (.lst (tab_L_rows.map T.str)),s6,s7,s8])->forT (gN 3) Z0I (rangeT (k:Nat) m) D [s0,.val (.int c),.own (erM rs),s3,s4,.val (.lst (tab_L_rows.map T.str)),s6,s7,s8]
 | 0,k,n,rs,s3,s8,_,_,h,q=>by
  simp only[rangeT,forT]
  exact q rs s3 s8 h
 | m + 1,k,n,rs,s3,s8,hk,hn,h,q=>by
  have ih:=fun (rs:Rws) (s3 s8:Slot) (h:RwsOk (n + 1) rs)=>r_l3 (s0:=s0) (s4:=s4) (s6:=s6) (s7:=s7) (c:=c) (D:=D) m (k + 1) (n + 1) rs s3 s8 (by omega) (by omega) h (fun rs' s3 s8 r=>q rs' s3 s8 (r.mono (by omega)))
  have hd:∀(k many:Int)(Q:T->Prop),0<=k->k<=1000->1<=many->many<=10 ^ 12->(∀r:Int,0<=r->r < many->Q (.int r))->Z02 [.int c,.int k,.int many] Q:=fun k many Q a b c' d e=>⟨c,k,many,rfl,a,b,c',d,e⟩
  have hl:=h.1
  have mo:MulOk 2 (k:Int):=mulOk (n:=3) (m:=3) (Lim.of (by omega) (by omega)) (Lim.of (by omega) (by omega)) (by decide)
  have lt:(tab_L_rows.map T.str).length=8:=by rw[List.length_map];rfl
  simp only[rangeT,forT]
  rw[show ((k:Nat):Int) + 1=((k + 1:Nat):Int) by omega]
  generalize forT (gN 3) Z0I (rangeT ((k + 1:Nat):Int) m)=F at ih ⊢
  unfold Z0I
  obtain⟨SD,hSD⟩:∃S,S=Z02:=⟨_,rfl⟩
  rw[← hSD]at hd ⊢
  clear hSD
  obtain⟨tb,htb⟩:∃t,t=tab_L_rows.map T.str:=⟨_,rfl⟩
  rw[← htb]at ih lt ⊢
  walk_at "tw"
  refine⟨mo,?_⟩
  refine hd _ _ _ (by omega) (by omega) (by rw[List.length_map];omega) (by rw[List.length_map];omega) fun x x0 x1=>?_
  obtain⟨p,rfl⟩:=Int.eq_ofNat_of_zero_le x0
  rw[List.length_map]at x1
  refine⟨mo,?_⟩
  rw[lt]
  refine hd _ _ _ (by omega) (by omega) (by decide) (by decide) fun y v0 v1=>?_
  obtain⟨j,rfl⟩:=Int.eq_ofNat_of_zero_le v0
  have hj:j < tab_L_rows.length:=by show j < 8;omega
  have ea:atI tb ((j:Nat):Int)=some (.str tab_L_rows[j]):=by rw[htb];exact atI_nat (by rw[List.getElem?_map,List.getElem?_eq_getElem hj];rfl)
  dsimp only
  rw[ea]
  dsimp only
  refine⟨p,rfl,by rw[List.length_map];omega,by rw[List.length_map];omega,?_⟩
  have:=ih _ (.val (.int (k:Nat))) (.val (.int (p:Nat))) (h.ins (p:=p) (er_non (List.getElem_mem hj)))
  rw[show erM (rs.take p++(ER.non,lit tab_L_rows[j])::rs.drop p)=(erM rs).take p ++ .tup [.str (Str.ofString "none"),.non,.str tab_L_rows[j]]::(erM rs).drop p by simp[erM,List.map_take,List.map_drop,erT]]at this
  exact this
theorem Z45:∀ts Q,Z1o ts Q->Z3B {nx:=fun _=>Q .non,rt:=Q} (startT 9 ts):=by
 rintro _ Q ⟨ns,rfl,hl,h⟩
 have hd:∀(c k many:Int)(Q:T->Prop),0<=k->k<=1000->1<=many->many<=10 ^ 12->(∀r:Int,0<=r->r < many->Q (.int r))->Z02 [.int c,.int k,.int many] Q:=fun c k many Q a b c' d e=>⟨c,k,many,rfl,a,b,c',d,e⟩
 have hc:∀(Q:T->Prop),(∀v:Int,Q (.int v))->Z0G [.lst (ns.map T.int),.int 0] Q:=fun Q q=>⟨ns,0,rfl,by decide,q⟩
 unfold Z3B
 obtain⟨SD,hSD⟩:∃S,S=Z02:=⟨_,rfl⟩
 obtain⟨SC,hSC⟩:∃S,S=Z0G:=⟨_,rfl⟩
 obtain⟨B0,hB0⟩:∃W,W=Z0w:=⟨_,rfl⟩
 obtain⟨B1,hB1⟩:∃W,W=Z0x:=⟨_,rfl⟩
 obtain⟨B2,hB2⟩:∃W,W=Z0H:=⟨_,rfl⟩
 obtain⟨B3,hB3⟩:∃W,W=Z0I:=⟨_,rfl⟩
 rw[← hSD]at hd
 rw[← hSC]at hc
 rw[← hSD,← hSC,← hB0,← hB1,← hB2,← hB3]
 clear hSD hSC
 walk_at "tw"
 refine hc _ fun c=>?_
 refine hd _ _ _ _ (by decide) (by decide) (by decide) (by decide) fun a a0 a1=>?_
 refine hd _ _ _ _ (by decide) (by decide) (by decide) (by decide) fun i i0 i1=>?_
 obtain⟨m,em,hm⟩:∃m:Nat,atI [T.int 1,T.int 1,T.int (79 + a),T.int 0] i=some (.int (m:Nat))/\m<=81:=by
  obtain⟨j,rfl⟩:=Int.eq_ofNat_of_zero_le i0
  obtain⟨a',rfl⟩:=Int.eq_ofNat_of_zero_le a0
  have hj:j < 4:=by omega
  match j,hj with
  | 0,_=>exact⟨1,atI_nat (j:=0) rfl,by decide⟩
  | 1,_=>exact⟨1,atI_nat (j:=1) rfl,by decide⟩
  | 2,_=>exact⟨79 + a',atI_nat (j:=2) rfl,by omega⟩
  | 3,_=>exact⟨0,atI_nat (j:=3) rfl,by decide⟩
 dsimp only
 rw[em]
 dsimp only
 refine⟨⟨by omega,by omega⟩,?_⟩
 rw[Int.toNat_natCast,hB0]
 refine r_l0 m 0 0 [] _ (by omega) (by omega) ⟨by simp,by simp⟩ fun rs1 s3 r1=>?_
 walk_at "tw"
 refine hd _ _ _ _ (by decide) (by decide) (by decide) (by decide) fun b b0 b1=>?_
 refine hd _ _ _ _ (by decide) (by decide) (by decide) (by decide) fun i i0 i1=>?_
 obtain⟨m2,em2,hm2⟩:∃m:Nat,atI [T.int 0,T.int 0,T.int (19 + b)] i=some (.int (m:Nat))/\m<=21:=by
  obtain⟨j,rfl⟩:=Int.eq_ofNat_of_zero_le i0
  obtain⟨b',rfl⟩:=Int.eq_ofNat_of_zero_le b0
  have hj:j < 3:=by omega
  match j,hj with
  | 0,_=>exact⟨0,atI_nat (j:=0) rfl,by decide⟩
  | 1,_=>exact⟨0,atI_nat (j:=1) rfl,by decide⟩
  | 2,_=>exact⟨19 + b',atI_nat (j:=2) rfl,by omega⟩
 dsimp only
 rw[em2]
 dsimp only
 refine⟨⟨by omega,by omega⟩,?_⟩
 rw[Int.toNat_natCast,hB1]
 refine r_l1 m2 0 _ rs1 _ _ (by omega) (by omega) r1 fun rs2 s3 s6 r2=>?_
 have ev:∃vs:List Int,cutT (ns.map T.int) (some 2) (some 24)=vs.map T.int/\vs.length<=63:=by
  refine⟨(ns.drop (HT.sIx ns.length 0 (some 2))).take (HT.sIx ns.length ns.length (some 24) - HT.sIx ns.length 0 (some 2)),?_,?_⟩
  ·unfold cutT
   simp[List.map_take,List.map_drop]
  ·simp
   omega
 obtain⟨vs,ev,lv⟩:=ev
 walk_at "tw"
 refine hd _ _ _ _ (by decide) (by decide) (by decide) (by decide) fun d d0 d1=>?_
 dsimp only
 rw[ev,hB2]
 refine r_l2 vs 0 _ rs2 _ _ (by omega) r2 fun rs3 s3 s7 r3=>?_
 walk_at "tw"
 refine hd _ _ _ _ (by decide) (by decide) (by decide) (by decide) fun x x0 x1=>?_
 obtain⟨m3,rfl⟩:=Int.eq_ofNat_of_zero_le x0
 refine⟨⟨by omega,by omega⟩,?_⟩
 rw[Int.toNat_natCast,hB3]
 refine r_l3 m3 0 _ rs3 _ _ (by omega) (by omega) r3 fun rs4 s3 s8 r4=>?_
 exact h rs4 (r4.mono (by omega))
abbrev txs(rs:Rws):List (List Nat):=rs.map (·.2)
theorem RwsOk.tx{rs:Rws}(h:RwsOk 200 rs)(ne:rs≠[]):splL 10 (jnL 10 (txs rs))=txs rs/\TxIn (jnL 10 (txs rs))/\((txs rs).map List.length).sum + (txs rs).length<=50000:=by
 have ne':txs rs≠[]:=by simpa using ne
 have he:∀l∈txs rs,l.length<=200/\∀c∈l,c < 128/\c≠10:=fun l hl=>by
  obtain⟨r,hr,rfl⟩:=List.mem_map.mp hl
  exact⟨(h.2 r hr).len,(h.2 r hr).asc⟩
 have e1:=spl_jn ne' fun z hz m=>((he z hz).2 10 m).2 rfl
 have h1:=jn_len 10 (txs rs) ne'
 have h2:=sum_le (n:=200) fun l hl=>(he l hl).1
 have h3:(txs rs).length<=200:=by rw[List.length_map];exact h.1
 refine⟨e1,⟨by omega,?_⟩,by omega⟩
 rw[e1]
 exact fun l hl=>⟨by have:=(he l hl).1;omega,fun c hc=>((he l hl).2 c hc).1⟩
def fSun:ER->Option T
 | .sun h _=>some (.int h)
 | _=>none
def fWal:ER->Option T
 | .wal n _ _=>some (.str n)
 | _=>none
def fDil:ER->Option T
 | .dil n _ _ _=>some (.str n)
 | _=>none
theorem go_lists:∀{rs:List ER}{n:Nat}{y y':YS},goA n rs y=.inr y'->(y'.s.map fun x=>T.int x.1)=(y.s.map fun x=>T.int x.1)++rs.filterMap fSun/\(y'.w.map fun x=>T.str x.1)=(y.w.map fun x=>T.str x.1)++rs.filterMap fWal/\(y'.d.map fun x=>T.str x.1)=(y.d.map fun x=>T.str x.1)++rs.filterMap fDil
 | [],n,y,y',h=>by
  cases h
  simp
 | r :: rs,n,y,y',h=>by
  simp only[goA]at h
  split at h
  ·cases h
  ·rename_i y2 e
   obtain⟨a,b,c⟩:=go_lists h
   rw[a,b,c]
   cases r with
   | non=>cases e
   | sun hh d =>
    simp only[stepA]at e
    split at e
    ·cases e
    ·cases e
     simp[List.filterMap_cons,fSun,fWal,fDil]
   | wal n p b =>
    simp only[stepA]at e
    split at e
    ·cases e
    ·split at e
     ·cases e
     ·cases e
      simp[List.filterMap_cons,fSun,fWal,fDil]
   | dil n p x b =>
    simp only[stepA]at e
    split at e
    ·cases e
    ·cases e
     simp[List.filterMap_cons,fSun,fWal,fDil]
theorem pn_er{r:ER}{l:List Nat}(h:ErOk r l):Pn 2 (erT r l):=by
 have st:Pn 1 (.str (mkS l)):=⟨(Pn.str h.rdb.ok).1,Nat.le_trans (Pn.str h.rdb.ok).2 (by decide)⟩
 have z1:∀z:Str,(z=zSun∨z=zWal∨z=zDil∨z=zNon)->Pn 1 (.str z):=fun z hz=>⟨(Pn.str (zok z hz)).1,Nat.le_trans (Pn.str (zok z hz)).2 (by decide)⟩
 have i1:∀i:Int,Pn 1 (.int i):=fun i=>⟨(Pn.int i).1,Nat.le_trans (Pn.int i).2 (by decide)⟩
 have nb:∀(z:Str)(b:Bool),nmB z=true->Pn 1 (.tup [.str z,.bl b]):=fun z b hz=>Pn.tup fun t ht=>by
  simp only[List.mem_cons,List.not_mem_nil,or_false]at ht
  rcases ht with rfl|rfl
  ·exact Pn.str (nm_ok hz)
  ·exact⟨by simp[plain,pd,PyData.canLay0],by simp[dep,pd,PyData.depth]⟩
 cases r with
 | sun hh d =>
  refine Pn.tup fun t ht=>?_
  simp only[List.mem_cons,List.not_mem_nil,or_false]at ht
  rcases ht with rfl|rfl|rfl
  ·exact z1 _ (.inl rfl)
  ·exact i1 _
  ·exact st
 | wal n p b =>
  refine Pn.tup fun t ht=>?_
  simp only[List.mem_cons,List.not_mem_nil,or_false]at ht
  rcases ht with rfl|rfl|rfl
  ·exact z1 _ (.inr (.inl rfl))
  ·exact nb n b h.is.2.1
  ·exact st
 | dil n p x b =>
  refine Pn.tup fun t ht=>?_
  simp only[List.mem_cons,List.not_mem_nil,or_false]at ht
  rcases ht with rfl|rfl|rfl
  ·exact z1 _ (.inr (.inr (.inl rfl)))
  ·exact nb n b h.is.2.1
  ·exact st
 | non =>
  refine Pn.tup fun t ht=>?_
  simp only[List.mem_cons,List.not_mem_nil,or_false]at ht
  rcases ht with rfl|rfl|rfl
  ·exact z1 _ (.inr (.inr (.inr rfl)))
  ·exact⟨by simp[plain,pd,PyData.canLay0],by simp[dep,pd,PyData.depth]⟩
  ·exact st
theorem rs_nil{rs:Rws}(h:RwsOk 200 rs):EqOk (erL rs) (.lst [])/\eqT (erL rs) (.lst [])=rs.isEmpty:=by
 have p:Pn 3 (erL rs):=Pn.lst fun t ht=>by
  obtain⟨r,hr,rfl⟩:=List.mem_map.mp ht
  exact pn_er (h.2 r hr)
 have q:Pn 1 (.lst []):=Pn.lst fun t ht=>by cases ht
 refine⟨p.ok q (by decide),?_⟩
 cases rs with
 | nil=>rfl
 | cons z r=>rfl
theorem eq_k{a b:Str}(ha:a=zSun∨a=zWal∨a=zDil∨a=zNon)(hb:b=zSun∨b=zWal∨b=zDil∨b=zNon):EqOk (.str a) (.str b):=eqOk_str a b (zok a ha) (zok b hb)
theorem txt_comp{Q:List T->Prop}:∀(rs:Rws)(acc:List T)(s:Slot),Q (acc++(txs rs).map fun l=>.str (mkS l))->compT (gN 0) tTrue (w2 rIxTT (wVar 0) (wC (.int 2))) (erM rs) acc [s] Q
 | [],acc,s,h=>by
  simp only[erM,txs,List.map_nil,List.append_nil,compT]at h ⊢
  exact h
 | r::rs,acc,s,h=>by
  have ih:=fun (acc:List T) (s:Slot) h=>txt_comp (Q:=Q) rs acc s h
  simp only[erM,List.map_cons,compT]at ih ⊢
  generalize compT (gN 0) tTrue (w2 rIxTT (wVar 0) (wC (.int 2))) (rs.map fun r=>erT r.1 r.2)=F at ih ⊢
  have h':Q (acc++[.str (mkS r.2)]++(txs rs).map fun l=>.str (mkS l)):=by simpa using h
  obtain⟨r1,l⟩:=r
  cases r1<;>(simp only[erT];walk_at "tw"; exact⟨fun _=>ih _ _ h',fun z=>by cases z⟩)
abbrev isW(z:Str):WT:=tCmpT cEqT (w2 rIxTT (wVar 0) (wC (.int 0))) (wC (.str z))
theorem sun_comp{Q:List T->Prop}:∀(rs:Rws)(acc:List T)(s:Slot),Q (acc++(rs.map (·.1)).filterMap fSun)->compT (gN 0) (isW zSun) (w2 rIxTT (wVar 0) (wC (.int 1))) (erM rs) acc [s] Q
 | [],acc,s,h=>by
  simp only[erM,List.map_nil,List.filterMap_nil,List.append_nil,compT]at h ⊢
  exact h
 | r::rs,acc,s,h=>by
  have ih:=fun (acc:List T) (s:Slot) h=>sun_comp (Q:=Q) rs acc s h
  simp only[erM,List.map_cons,compT]at ih ⊢
  generalize compT (gN 0) (isW zSun) (w2 rIxTT (wVar 0) (wC (.int 1))) (rs.map fun r=>erT r.1 r.2)=F at ih ⊢
  obtain⟨r1,l⟩:=r
  cases r1 with
  | sun hh d =>
   have h':Q (acc++[.int hh]++(rs.map (·.1)).filterMap fSun):=by simpa [List.filterMap_cons,fSun] using h
   simp only[erT,isW]
   walk_at "tw"
   exact⟨eq_k (.inl rfl) (.inl rfl),fun _=>ih _ _ h',fun z=>by rw[eqSS]at z;cases z⟩
  | wal n p b =>
   have h':Q (acc++(rs.map (·.1)).filterMap fSun):=by simpa [List.filterMap_cons,fSun] using h
   simp only[erT,isW]
   walk_at "tw"
   exact⟨eq_k (.inr (.inl rfl)) (.inl rfl),(fun z=>by rw[eqS ksw.2.2.2.1]at z;cases z),fun _=>ih _ _ h'⟩
  | dil n p x b =>
   have h':Q (acc++(rs.map (·.1)).filterMap fSun):=by simpa [List.filterMap_cons,fSun] using h
   simp only[erT,isW]
   walk_at "tw"
   exact⟨eq_k (.inr (.inr (.inl rfl))) (.inl rfl),(fun z=>by rw[eqS ksw.2.2.2.2.1]at z;cases z),fun _=>ih _ _ h'⟩
  | non =>
   have h':Q (acc++(rs.map (·.1)).filterMap fSun):=by simpa [List.filterMap_cons,fSun] using h
   simp only[erT,isW]
   walk_at "tw"
   exact⟨eq_k (.inr (.inr (.inr rfl))) (.inl rfl),(fun z=>by rw[eqS (Ne.symm kno.1)]at z;cases z),fun _=>ih _ _ h'⟩
theorem wal_comp{Q:List T->Prop}:∀(rs:Rws)(acc:List T)(s:Slot),Q (acc++(rs.map (·.1)).filterMap fWal)->compT (gN 0) (isW zWal) (w2 rIxTT (w2 rIxTT (wVar 0) (wC (.int 1))) (wC (.int 0))) (erM rs) acc [s] Q
 | [],acc,s,h=>by
  simp only[erM,List.map_nil,List.filterMap_nil,List.append_nil,compT]at h ⊢
  exact h
 | r::rs,acc,s,h=>by
  have ih:=fun (acc:List T) (s:Slot) h=>wal_comp (Q:=Q) rs acc s h
  simp only[erM,List.map_cons,compT]at ih ⊢
  generalize compT (gN 0) (isW zWal) (w2 rIxTT (w2 rIxTT (wVar 0) (wC (.int 1))) (wC (.int 0))) (rs.map fun r=>erT r.1 r.2)=F at ih ⊢
  obtain⟨r1,l⟩:=r
  cases r1 with
  | sun hh d =>
   have h':Q (acc++(rs.map (·.1)).filterMap fWal):=by simpa [List.filterMap_cons,fWal] using h
   simp only[erT,isW]
   walk_at "tw"
   exact⟨eq_k (.inl rfl) (.inr (.inl rfl)),(fun z=>by rw[eqS ksw.1]at z;cases z),fun _=>ih _ _ h'⟩
  | wal n p b =>
   have h':Q (acc++[.str n]++(rs.map (·.1)).filterMap fWal):=by simpa [List.filterMap_cons,fWal] using h
   simp only[erT,isW]
   walk_at "tw"
   exact⟨eq_k (.inr (.inl rfl)) (.inr (.inl rfl)),fun _=>ih _ _ h',fun z=>by rw[eqSS]at z;cases z⟩
  | dil n p x b =>
   have h':Q (acc++(rs.map (·.1)).filterMap fWal):=by simpa [List.filterMap_cons,fWal] using h
   simp only[erT,isW]
   walk_at "tw"
   exact⟨eq_k (.inr (.inr (.inl rfl))) (.inr (.inl rfl)),(fun z=>by rw[eqS ksw.2.2.2.2.2]at z;cases z),fun _=>ih _ _ h'⟩
  | non =>
   have h':Q (acc++(rs.map (·.1)).filterMap fWal):=by simpa [List.filterMap_cons,fWal] using h
   simp only[erT,isW]
   walk_at "tw"
   exact⟨eq_k (.inr (.inr (.inr rfl))) (.inr (.inl rfl)),(fun z=>by rw[eqS (Ne.symm kno.2.1)]at z;cases z),fun _=>ih _ _ h'⟩
theorem dil_comp{Q:List T->Prop}:∀(rs:Rws)(acc:List T)(s:Slot),Q (acc++(rs.map (·.1)).filterMap fDil)->compT (gN 0) (isW zDil) (w2 rIxTT (w2 rIxTT (wVar 0) (wC (.int 1))) (wC (.int 0))) (erM rs) acc [s] Q
 | [],acc,s,h=>by
  simp only[erM,List.map_nil,List.filterMap_nil,List.append_nil,compT]at h ⊢
  exact h
 | r::rs,acc,s,h=>by
  have ih:=fun (acc:List T) (s:Slot) h=>dil_comp (Q:=Q) rs acc s h
  simp only[erM,List.map_cons,compT]at ih ⊢
  generalize compT (gN 0) (isW zDil) (w2 rIxTT (w2 rIxTT (wVar 0) (wC (.int 1))) (wC (.int 0))) (rs.map fun r=>erT r.1 r.2)=F at ih ⊢
  obtain⟨r1,l⟩:=r
  cases r1 with
  | sun hh d =>
   have h':Q (acc++(rs.map (·.1)).filterMap fDil):=by simpa [List.filterMap_cons,fDil] using h
   simp only[erT,isW]
   walk_at "tw"
   exact⟨eq_k (.inl rfl) (.inr (.inr (.inl rfl))),(fun z=>by rw[eqS ksw.2.1]at z;cases z),fun _=>ih _ _ h'⟩
  | wal n p b =>
   have h':Q (acc++(rs.map (·.1)).filterMap fDil):=by simpa [List.filterMap_cons,fDil] using h
   simp only[erT,isW]
   walk_at "tw"
   exact⟨eq_k (.inr (.inl rfl)) (.inr (.inr (.inl rfl))),(fun z=>by rw[eqS ksw.2.2.1]at z;cases z),fun _=>ih _ _ h'⟩
  | dil n p x b =>
   have h':Q (acc++[.str n]++(rs.map (·.1)).filterMap fDil):=by simpa [List.filterMap_cons,fDil] using h
   simp only[erT,isW]
   walk_at "tw"
   exact⟨eq_k (.inr (.inr (.inl rfl))) (.inr (.inr (.inl rfl))),fun _=>ih _ _ h',fun z=>by rw[eqSS]at z;cases z⟩
  | non =>
   have h':Q (acc++(rs.map (·.1)).filterMap fDil):=by simpa [List.filterMap_cons,fDil] using h
   simp only[erT,isW]
   walk_at "tw"
   exact⟨eq_k (.inr (.inr (.inr rfl))) (.inr (.inr (.inl rfl))),(fun z=>by rw[eqS (Ne.symm kno.2.2)]at z;cases z),fun _=>ih _ _ h'⟩
theorem s_comp{Q:List T->Prop}:∀(s:List (Int×T))(acc:List T)(s0 s1:Slot),Q (acc++s.map fun x=>T.int x.1)->compT (gT 2 (gsC (gN 0) (gsC (gN 1) gs0))) tTrue (wVar 0) (s.map sE) acc [s0,s1] Q
 | [],acc,s0,s1,h=>by
  simp only[List.map_nil,List.append_nil,compT]at h ⊢
  exact h
 | x::s,acc,s0,s1,h=>by
  have ih:=fun (acc:List T) (s0 s1:Slot) h=>s_comp (Q:=Q) s acc s0 s1 h
  simp only[List.map_cons,compT]
  generalize compT (gT 2 (gsC (gN 0) (gsC (gN 1) gs0))) tTrue (wVar 0) (s.map sE)=F at ih ⊢
  have h':Q (acc++[.int x.1]++s.map fun x=>T.int x.1):=by simpa using h
  walk_at "tw"
  exact⟨fun _=>ih _ _ _ h',fun z=>by cases z⟩
theorem w_comp{Q:List T->Prop}:∀(s:List (Str×T))(acc:List T)(s0:Slot),Q (acc++s.map fun x=>T.str x.1)->compT (gN 0) tTrue (w2 rIxTT (wVar 0) (wC (.int 0))) (s.map wE) acc [s0] Q
 | [],acc,s0,h=>by
  simp only[List.map_nil,List.append_nil,compT]at h ⊢
  exact h
 | x::s,acc,s0,h=>by
  have ih:=fun (acc:List T) (s0:Slot) h=>w_comp (Q:=Q) s acc s0 h
  simp only[List.map_cons,compT]
  generalize compT (gN 0) tTrue (w2 rIxTT (wVar 0) (wC (.int 0))) (s.map wE)=F at ih ⊢
  have h':Q (acc++[.str x.1]++s.map fun x=>T.str x.1):=by simpa using h
  walk_at "tw"
  exact⟨fun _=>ih _ _ h',fun z=>by cases z⟩
theorem d_comp{Q:List T->Prop}:∀(s:List (Str×T×T))(acc:List T)(s0:Slot),Q (acc++s.map fun x=>T.str x.1)->compT (gN 0) tTrue (w2 rIxTT (wVar 0) (wC (.int 0))) (s.map dE) acc [s0] Q
 | [],acc,s0,h=>by
  simp only[List.map_nil,List.append_nil,compT]at h ⊢
  exact h
 | x::s,acc,s0,h=>by
  have ih:=fun (acc:List T) (s0:Slot) h=>d_comp (Q:=Q) s acc s0 h
  simp only[List.map_cons,compT]
  generalize compT (gN 0) tTrue (w2 rIxTT (wVar 0) (wC (.int 0))) (s.map dE)=F at ih ⊢
  have h':Q (acc++[.str x.1]++s.map fun x=>T.str x.1):=by simpa using h
  walk_at "tw"
  exact⟨fun _=>ih _ _ h',fun z=>by cases z⟩
def Z19:WS :=
 (sSeq (sSet 3 (wJoin (wC (.str (Str.ofString "
"))) (wComp (iSeq (wVar 1)) (gN 0) tTrue (w2 rIxTT (wVar 0) (wC (.int 2))) 1 [])))
  (sSeq (sIf (tCmpT cNotN (wVar 2) (wC .non)) (sRet (wCmp cEqT (wCall Z0h (aCons (wVar 3) aNil)) (wVar 2))) sNext)
  (sSeq (sSet 4 (wCall (Z06 RF) (aCons (wVar 3) aNil)))
  (sSeq (sIf (tCmpT cNeT (wComp (iSeq (w2 rIxTT (wVar 4) (wC (.int 0)))) (gT 2 (gsC (gN 0) (gsC (gN 1) gs0))) tTrue (wVar 0) 2 []) (wComp (iSeq (wVar 1)) (gN 0) (tCmpT cEqT (w2 rIxTT (wVar 0) (wC (.int 0))) (wC (.str (Str.ofString "sun")))) (w2 rIxTT (wVar 0) (wC (.int 1))) 1 [])) (sRet (wC (.bl false))) sNext)
  (sSeq (sIf (tCmpT cNeT (wComp (iSeq (w2 rIxTT (wVar 4) (wC (.int 1)))) (gN 0) tTrue (w2 rIxTT (wVar 0) (wC (.int 0))) 1 []) (wComp (iSeq (wVar 1)) (gN 0) (tCmpT cEqT (w2 rIxTT (wVar 0) (wC (.int 0))) (wC (.str (Str.ofString "wall")))) (w2 rIxTT (w2 rIxTT (wVar 0) (wC (.int 1))) (wC (.int 0))) 1 [])) (sRet (wC (.bl false))) sNext)
  (sRet (wCmp cEqT (wComp (iSeq (w2 rIxTT (wVar 4) (wC (.int 2)))) (gN 0) tTrue (w2 rIxTT (wVar 0) (wC (.int 0))) 1 []) (wComp (iSeq (wVar 1)) (gN 0) (tCmpT cEqT (w2 rIxTT (wVar 0) (wC (.int 0))) (wC (.str (Str.ofString "dial")))) (w2 rIxTT (w2 rIxTT (wVar 0) (wC (.int 1))) (wC (.int 0))) 1 []))))))))
def Z3Z:WS :=
 (sSeq (sSet 1 (wCall Z1o (aCons (wVar 0) aNil)))
  (sSeq (sSet 2 (wCall Z0g (aCons (wVar 1) aNil)))
  (sSeq (sIf (tCmpT cEqT (wVar 1) (wLst aNil)) (sSet 2 (wC (.int 0))) sNext)
  Z19)))
theorem pn_sun(rs:List ER):Pn 1 (.lst (rs.filterMap fSun)):=Pn.lst fun t ht=>by
 obtain⟨r,_,e⟩:=List.mem_filterMap.mp ht
 cases r<;>cases e
 exact Pn.int _
theorem pn_nm{f:ER->Option T}{rs:Rws}(h:RwsOk 200 rs)(hf:∀r∈rs,∀t,f r.1=some t->∃n,t=.str n/\nmB n=true):Pn 1 (.lst ((rs.map (·.1)).filterMap f)):=Pn.lst fun t ht=>by
 obtain⟨r,hr,e⟩:=List.mem_filterMap.mp ht
 obtain⟨x,hx,rfl⟩:=List.mem_map.mp hr
 obtain⟨n,rfl,hn⟩:=hf x hx t e
 exact Pn.str (nm_ok hn)
theorem hf_wal{rs:Rws}(h:RwsOk 200 rs):∀r∈rs,∀t,fWal r.1=some t->∃n,t=.str n/\nmB n=true:=fun r hr t e=>by
 have er:=h.2 r hr
 obtain⟨r1,l⟩:=r
 cases r1<;>cases e
 exact⟨_,rfl,er.is.2.1⟩
theorem hf_dil{rs:Rws}(h:RwsOk 200 rs):∀r∈rs,∀t,fDil r.1=some t->∃n,t=.str n/\nmB n=true:=fun r hr t e=>by
 have er:=h.2 r hr
 obtain⟨r1,l⟩:=r
 cases r1<;>cases e
 exact⟨_,rfl,er.is.2.1⟩
theorem law_k0{rs:Rws}{t0:T}{Q:T->Prop}(ok:RwsOk 200 rs)(ne:rs≠[])(h:Q (.bl true)):Z19 {nx:=fun _=>Q .non,rt:=Q} [.val t0,.val (erL rs),.val (badT (goA 0 (rs.map (·.1)) y0)),.no,.no]:=by
 obtain⟨e1,e2,e3⟩:=ok.tx ne
 have sp:Str.ofString "\n" = ⟨#[10]⟩:=by decide +kernel
 have go:=go_eq (n:=0) y0_ok ok.2
 have hr1:∀(l:List Nat)(n:Nat)(Q:T->Prop),TxIn l->loopL 0 (splL 10 l) [[],[],[]]=.inl n->Q (.int (n:Nat))->Z0h [.str (mkS l)] Q:=fun l n Q a b q=>.inl ⟨l,n,rfl,a,b,q⟩
 have hy:∀(l:List Nat)(ls:List (List T))(Q:T->Prop),TxIn l->loopL 0 (splL 10 l) [[],[],[]]=.inr ls->Q (.tup (ls.map T.lst))->Z06 RF [.str (mkS l)] Q:=fun l ls Q a b q=>.inl ⟨l,rfl,a,by rw[b];exact q⟩
 have jn:∀P:T->Prop,P (.str (mkS (jnL 10 (txs rs))))->rJoinT (Str.ofString "\n") (.lst ((txs rs).map fun l=>.str (mkS l))) P:=fun P q=>by
  unfold rJoinT
  simp only[strs_mk]
  rw[sum_mk,List.length_map,sp,join_mk]
  refine⟨?_,q⟩
  show _ + (txs rs).length * 1<=_
  omega
 have l2:(erM rs).length<=1000:=by rw[List.length_map];have:=ok.1;omega
 unfold Z19
 obtain⟨SR,hSR⟩:∃S,S=Z0h:=⟨_,rfl⟩
 obtain⟨SY,hSY⟩:∃S,S=Z06 RF:=⟨_,rfl⟩
 rw[← hSR]at hr1
 rw[← hSY]at hy
 rw[← hSR,← hSY]
 clear hSR hSY
 refine⟨l2,txt_comp rs [] _ ?_⟩
 rw[List.nil_append]
 refine jn _ ?_
 generalize hl:jnL 10 (txs rs)=l at e1 e2
 cases g:goA 0 (rs.map (·.1)) y0 with
 | inl n =>
  rw[g]at go
  simp only[badT]
  have ig:=hr1 l n
  walk_at "tw"
  refine⟨fun _=>ig _ e2 (by rw[e1];exact go) ?_,fun z=>by cases z⟩
  dsimp only
  rw[decide_eq_true rfl]
  exact h
 | inr y =>
  rw[g]at go
  obtain⟨g1,g2,g3⟩:=go_lists g
  simp only[List.map_nil,List.nil_append]at g1 g2 g3
  simp only[badT]
  have p1:=pn_sun (rs.map (·.1))
  have p2:=pn_nm ok (hf_wal ok)
  have p3:=pn_nm ok (hf_dil ok)
  have n1:y.s.length<=200:=by
   have a:=congrArg List.length g1
   have b:=List.length_filterMap_le fSun (rs.map (·.1))
   have c:=ok.1
   rw[List.length_map]at a b
   omega
  have n2:y.w.length<=200:=by
   have a:=congrArg List.length g2
   have b:=List.length_filterMap_le fWal (rs.map (·.1))
   have c:=ok.1
   rw[List.length_map]at a b
   omega
  have n3:y.d.length<=200:=by
   have a:=congrArg List.length g3
   have b:=List.length_filterMap_le fDil (rs.map (·.1))
   have c:=ok.1
   rw[List.length_map]at a b
   omega
  have hyl:=fun Q q=>hy l y.ls Q e2 (by rw[e1];exact go) q
  obtain⟨τ,hτ⟩:∃τ:List Slot,τ=[.val t0,.val (erL rs),.val .non,.val (.str (mkS l)),.val (.tup (y.ls.map T.lst))]:=⟨_,rfl⟩
  obtain⟨C1,hC1⟩:∃W:WE,W=(wComp (iSeq (w2 rIxTT (wVar 4) (wC (.int 0)))) (gT 2 (gsC (gN 0) (gsC (gN 1) gs0))) tTrue (wVar 0) 2 []):=⟨_,rfl⟩
  obtain⟨C2,hC2⟩:∃W:WE,W=(wComp (iSeq (w2 rIxTT (wVar 4) (wC (.int 1)))) (gN 0) tTrue (w2 rIxTT (wVar 0) (wC (.int 0))) 1 []):=⟨_,rfl⟩
  obtain⟨C3,hC3⟩:∃W:WE,W=(wComp (iSeq (w2 rIxTT (wVar 4) (wC (.int 2)))) (gN 0) tTrue (w2 rIxTT (wVar 0) (wC (.int 0))) 1 []):=⟨_,rfl⟩
  obtain⟨C4,hC4⟩:∃W:WE,W=(wComp (iSeq (wVar 1)) (gN 0) (tCmpT cEqT (w2 rIxTT (wVar 0) (wC (.int 0))) (wC (.str (Str.ofString "sun")))) (w2 rIxTT (wVar 0) (wC (.int 1))) 1 []):=⟨_,rfl⟩
  obtain⟨C5,hC5⟩:∃W:WE,W=(wComp (iSeq (wVar 1)) (gN 0) (tCmpT cEqT (w2 rIxTT (wVar 0) (wC (.int 0))) (wC (.str (Str.ofString "wall")))) (w2 rIxTT (w2 rIxTT (wVar 0) (wC (.int 1))) (wC (.int 0))) 1 []):=⟨_,rfl⟩
  obtain⟨C6,hC6⟩:∃W:WE,W=(wComp (iSeq (wVar 1)) (gN 0) (tCmpT cEqT (w2 rIxTT (wVar 0) (wC (.int 0))) (wC (.str (Str.ofString "dial")))) (w2 rIxTT (w2 rIxTT (wVar 0) (wC (.int 1))) (wC (.int 0))) 1 []):=⟨_,rfl⟩
  have a0:atI [T.lst (y.s.map sE),T.lst (y.w.map wE),T.lst (y.d.map dE)] 0=some (.lst (y.s.map sE)):=atI_nat (j:=0) rfl
  have a1:atI [T.lst (y.s.map sE),T.lst (y.w.map wE),T.lst (y.d.map dE)] 1=some (.lst (y.w.map wE)):=atI_nat (j:=1) rfl
  have a2:atI [T.lst (y.s.map sE),T.lst (y.w.map wE),T.lst (y.d.map dE)] 2=some (.lst (y.d.map dE)):=atI_nat (j:=2) rfl
  have c1:∀P:T->Prop,P (.lst ((rs.map (·.1)).filterMap fSun))->C1 τ P:=fun P q=>by
   rw[hC1,hτ]
   show (match atI [T.lst (y.s.map sE),T.lst (y.w.map wE),T.lst (y.d.map dE)] 0 with|some t=>_|none=>False)
   rw[a0]
   exact⟨by rw[List.length_map];omega,s_comp y.s [] _ _ (by rw[List.nil_append,g1];exact q)⟩
  have c2:∀P:T->Prop,P (.lst ((rs.map (·.1)).filterMap fWal))->C2 τ P:=fun P q=>by
   rw[hC2,hτ]
   show (match atI [T.lst (y.s.map sE),T.lst (y.w.map wE),T.lst (y.d.map dE)] 1 with|some t=>_|none=>False)
   rw[a1]
   exact⟨by rw[List.length_map];omega,w_comp y.w [] _ (by rw[List.nil_append,g2];exact q)⟩
  have c3:∀P:T->Prop,P (.lst ((rs.map (·.1)).filterMap fDil))->C3 τ P:=fun P q=>by
   rw[hC3,hτ]
   show (match atI [T.lst (y.s.map sE),T.lst (y.w.map wE),T.lst (y.d.map dE)] 2 with|some t=>_|none=>False)
   rw[a2]
   exact⟨by rw[List.length_map];omega,d_comp y.d [] _ (by rw[List.nil_append,g3];exact q)⟩
  have c4:∀P:T->Prop,P (.lst ((rs.map (·.1)).filterMap fSun))->C4 τ P:=fun P q=>by
   rw[hC4,hτ]
   exact⟨l2,sun_comp rs [] _ (by rw[List.nil_append];exact q)⟩
  have c5:∀P:T->Prop,P (.lst ((rs.map (·.1)).filterMap fWal))->C5 τ P:=fun P q=>by
   rw[hC5,hτ]
   exact⟨l2,wal_comp rs [] _ (by rw[List.nil_append];exact q)⟩
  have c6:∀P:T->Prop,P (.lst ((rs.map (·.1)).filterMap fDil))->C6 τ P:=fun P q=>by
   rw[hC6,hτ]
   exact⟨l2,dil_comp rs [] _ (by rw[List.nil_append];exact q)⟩
  rw[← hC1,← hC2,← hC3,← hC4,← hC5,← hC6]
  clear hC1 hC2 hC3 hC4 hC5 hC6
  refine⟨(fun z=>by cases z),fun _=>?_⟩
  refine hyl _ ?_
  show (sSeq (sIf (tCmpT cNeT C1 C4) (sRet (wC (T.bl false))) sNext) (sSeq (sIf (tCmpT cNeT C2 C5) (sRet (wC (T.bl false))) sNext) (sRet (wCmp cEqT C3 C6)))) {nx:=fun x=>Q T.non,rt:=Q} [.val t0,.val (erL rs),.val .non,.val (.str (mkS l)),.val (.tup (y.ls.map T.lst))]
  rw[← hτ]
  clear hτ
  refine c1 _ (c4 _ ⟨p1.ok p1 (by decide),?_⟩)
  rw[p1.self]
  refine⟨(fun z=>by cases z),fun _=>?_⟩
  refine c2 _ (c5 _ ⟨p2.ok p2 (by decide),?_⟩)
  rw[p2.self]
  refine⟨(fun z=>by cases z),fun _=>?_⟩
  refine c3 _ (c6 _ ⟨p3.ok p3 (by decide),?_⟩)
  rw[p3.self]
  exact h
theorem Z48:∀ts Q,lawSp ts Q->Z3Z {nx:=fun _=>Q .non,rt:=Q} (startT 5 ts):=by
 rintro _ Q ⟨ns,rfl,hl,h⟩
 have hw:∀(Q:T->Prop),(∀rs,RwsOk 200 rs->Q (erL rs))->Z1o [.lst (ns.map T.int)] Q:=fun Q q=>⟨ns,rfl,hl,q⟩
 have hb:∀(rs:Rws)(Q:T->Prop),RwsOk 200 rs->Q (badT (goA 0 (rs.map (·.1)) y0))->Z0g [erL rs] Q:=fun rs Q ok q=>⟨rs,rfl,by have:=ok.1;omega,ok.2,q⟩
 have k0:=fun (rs:Rws) (ok:RwsOk 200 rs) (ne:rs≠[])=>law_k0 (t0:=.lst (ns.map T.int)) ok ne h
 have kz:Z19 {nx:=fun _=>Q .non,rt:=Q} [.val (.lst (ns.map T.int)),.val (erL []),.val (.int 0),.no,.no]:=by
  have hr1:∀(l:List Nat)(n:Nat)(Q:T->Prop),TxIn l->loopL 0 (splL 10 l) [[],[],[]]=.inl n->Q (.int (n:Nat))->Z0h [.str (mkS l)] Q:=fun l n Q a b q=>.inl ⟨l,n,rfl,a,b,q⟩
  unfold Z19
  obtain⟨SR,hSR⟩:∃S,S=Z0h:=⟨_,rfl⟩
  obtain⟨SY,hSY⟩:∃S,S=Z06 RF:=⟨_,rfl⟩
  rw[← hSR]at hr1
  rw[← hSR,← hSY]
  clear hSR hSY
  have jz:∀P:T->Prop,P (.str (mkS []))->rJoinT (Str.ofString "\n") (.lst []) P:=fun P q=>by
   have ej:Txt.join (Str.ofString "\n") []=mkS []:=by decide +kernel
   unfold rJoinT
   simp only[strsOf,ej]
   exact⟨by simp,q⟩
  refine⟨Nat.zero_le _,txt_comp [] [] _ (jz _ ?_)⟩
  obtain⟨WR,hWR⟩:∃W:WS,W=(sSeq (sSet 4 (wCall SY (aCons (wVar 3) aNil)))
   (sSeq (sIf (tCmpT cNeT (wComp (iSeq (w2 rIxTT (wVar 4) (wC (.int 0)))) (gT 2 (gsC (gN 0) (gsC (gN 1) gs0))) tTrue (wVar 0) 2 []) (wComp (iSeq (wVar 1)) (gN 0) (tCmpT cEqT (w2 rIxTT (wVar 0) (wC (.int 0))) (wC (.str (Str.ofString "sun")))) (w2 rIxTT (wVar 0) (wC (.int 1))) 1 [])) (sRet (wC (.bl false))) sNext)
   (sSeq (sIf (tCmpT cNeT (wComp (iSeq (w2 rIxTT (wVar 4) (wC (.int 1)))) (gN 0) tTrue (w2 rIxTT (wVar 0) (wC (.int 0))) 1 []) (wComp (iSeq (wVar 1)) (gN 0) (tCmpT cEqT (w2 rIxTT (wVar 0) (wC (.int 0))) (wC (.str (Str.ofString "wall")))) (w2 rIxTT (w2 rIxTT (wVar 0) (wC (.int 1))) (wC (.int 0))) 1 [])) (sRet (wC (.bl false))) sNext)
   (sRet (wCmp cEqT (wComp (iSeq (w2 rIxTT (wVar 4) (wC (.int 2)))) (gN 0) tTrue (w2 rIxTT (wVar 0) (wC (.int 0))) 1 []) (wComp (iSeq (wVar 1)) (gN 0) (tCmpT cEqT (w2 rIxTT (wVar 0) (wC (.int 0))) (wC (.str (Str.ofString "dial")))) (w2 rIxTT (w2 rIxTT (wVar 0) (wC (.int 1))) (wC (.int 0))) 1 [])))))):=⟨_,rfl⟩
  rw[← hWR]
  clear hWR
  refine⟨fun _=>?_,(fun z=>by cases z)⟩
  refine hr1 [] 0 _ ⟨by simp,fun r hr=>?_⟩ rfl ?_
  ·simp[splL]at hr
   subst hr
   exact⟨by simp,by simp⟩
  exact h
 unfold Z3Z
 obtain⟨SW,hSW⟩:∃S,S=Z1o:=⟨_,rfl⟩
 obtain⟨SB,hSB⟩:∃S,S=Z0g:=⟨_,rfl⟩
 obtain⟨WK,hWK⟩:∃S,S=Z19:=⟨_,rfl⟩
 rw[← hSW]at hw
 rw[← hSB]at hb
 rw[← hWK]at k0 kz
 rw[← hSW,← hSB,← hWK]
 clear hSW hSB hWK
 walk_at "tw"
 refine hw _ fun rs ok=>?_
 refine hb rs _ ok ?_
 obtain⟨e1,e2⟩:=rs_nil ok
 refine⟨e1,?_⟩
 rw[e2]
 cases rs with
 | nil=>exact⟨fun _=>kz,fun z=>by cases z⟩
 | cons r rs=>exact⟨(fun z=>by cases z),fun _=>k0 _ ok (by simp)⟩
local macro_rules|`(tactic| walk_at "v")=>`(tactic| exact⟨by first|exact Or.inl rfl|exact Or.inr (Or.inl rfl)|exact Or.inr (Or.inr rfl),by decide,by decide⟩)
local macro_rules|`(tactic| walk_at "s")=>`(tactic| exact⟨rfl,rfl,rfl,by decide +kernel,rfl,by decide +kernel,by decide +kernel⟩)
local macro_rules|`(tactic| walk_at "f")=>`(tactic| first|exact .inl rfl|exact .inr rfl|assumption)
theorem jV{X:Cx}(i:Nat){x:Str}{pos:Pos}(hN:X.N[i]?=some x) (h:Vis X.env.scope x/\(x==("__debug__" : Str))=false/\(x==("__classdict__" : Str))=false):JE X (.Name x pos) (wVar i):=jv i hN h.1 h.2.1 h.2.2
set_option hygiene false in
local macro_rules|`(tactic| walk_at "E")=>`(tactic| first|((with_reducible show JE _ (.BoolOp _ [_] _) _);refine @jone _ _ _ _ _ ?_;walk_at "D")|((with_reducible show JE _ (.BoolOp .And (_::_::_) _) _);refine @jand _ _ _ _ _ _ _ ?_ ?_;walk_at "D"; walk_at "D")|((with_reducible show JE _ (.BoolOp .Or (_::_::_) _) _);refine @jor _ _ _ _ _ _ _ ?_ ?_;walk_at "D"; walk_at "D")|((with_reducible show JE _ (.Name _ _) (wC c_FARTHEST));refine @jglobC _ _ _ _ g_FARTHEST rfl (by decide))|((with_reducible show JE _ (.Name _ _) (wC c_NOUGHT));refine @jglobC _ _ _ _ g_NOUGHT rfl (by decide))|((with_reducible show JE _ (.Name _ _) (wC c_MOST_FIGURES));refine @jglobC _ _ _ _ g_MOST_FIGURES rfl (by decide))|((with_reducible show JE _ (.Name _ _) (wC c_LAST_HOUR));refine @jglobC _ _ _ _ g_LAST_HOUR rfl (by decide))|((with_reducible show JE _ (.Name _ _) (wC c_MOST_HOURS));refine @jglobC _ _ _ _ g_MOST_HOURS rfl (by decide))|((with_reducible show JE _ (.Name _ _) (wC c_LONGEST_NAME));refine @jglobC _ _ _ _ g_LONGEST_NAME rfl (by decide))|((with_reducible show JE _ (.Name _ _) (wC c_MOST_OF_A_KIND));refine @jglobC _ _ _ _ g_MOST_OF_A_KIND rfl (by decide))|((with_reducible show JE _ _ (wVar _));refine @jV _ _ _ _ rfl (by walk_at "v"))|((with_reducible show JE _ _ (wC (.int _)));refine @ji _ _ _ _)|((with_reducible show JE _ _ (w2 rIxTT _ _));refine @jix _ _ _ _ _ _ ?_ ?_ (fun _ _=>rfl);walk_at "D"; walk_at "D")|((with_reducible show JE _ _ (wC (.str _)));refine @js _ _ _ _)|((with_reducible show JE _ _ (w2 rAddST _ _));refine @jop _ _ _ _ _ _ _ _ b_addS ?_ ?_;walk_at "D"; walk_at "D")|((with_reducible show JE _ _ (w2 rMulT _ _));refine @jop _ _ _ _ _ _ _ _ b_mul ?_ ?_;walk_at "D"; walk_at "D")|((with_reducible show JE _ _ (w2 rAddT _ _));refine @jop _ _ _ _ _ _ _ _ b_add ?_ ?_;walk_at "D"; walk_at "D")|((with_reducible show JE _ _ (wCall Z02 _));refine @jcallC _ _ _ _ _ _ _ _ _ _ Z2h (hr.mono (by omega)) rfl ?_ (by decide) (star1 rfl) (stars rfl);walk_at "D")|((with_reducible show JE _ _ (wTup _));refine @jtup _ _ _ _ _ ?_;walk_at "D")|((with_reducible show JE _ _ (wCB rLenT _));refine @jblt _ _ _ _ _ _ _ _ _ bl_len rfl z_len boot_len ?_ (by decide) (by decide) (star1 rfl) (stars rfl);walk_at "D")|((with_reducible show JE _ _ (wLst _));refine @jlst _ _ _ _ ?_;walk_at "D")|((with_reducible show JE _ _ (w2 rModT _ _));refine @jop _ _ _ _ _ _ _ _ b_mod ?_ ?_;walk_at "D"; walk_at "D")|((with_reducible show JE _ _ (w2 rSubT _ _));refine @jop _ _ _ _ _ _ _ _ b_sub ?_ ?_;walk_at "D"; walk_at "D")|((with_reducible show JE _ _ (wC (.bl _)));refine @jb _ _ _ _)|((with_reducible show JE _ _ (wSl _ _ _));refine @jsl _ _ _ _ _ _ _ _ _ ?_ ?_ ?_;walk_at "D"; walk_at "D"; walk_at "D")|((with_reducible show JE _ _ (wIsi .tuple _));refine @jisi _ _ _ _ .tuple _ _ _ ?_ rfl z_isinstance rfl z_tuple boot_tuple (by decide) (by decide) (star1 rfl) (star1 rfl) (stars rfl);walk_at "D")|((with_reducible show JE _ _ (wCmp cEqT _ _));refine @jcmp _ _ _ _ _ _ _ _ (c_eq hr) ?_ ?_ (nomark _);walk_at "D"; walk_at "D")|((with_reducible show JE _ _ (wC .non));refine @jn _ _ _)|((with_reducible show JE _ _ (w2 rPowT _ _));refine @jop _ _ _ _ _ _ _ _ b_pow ?_ ?_;walk_at "D"; walk_at "D")|((with_reducible show JE _ _ (wCB rStrT _));refine @jty _ _ _ _ _ _ _ _ _ ty_str rfl z_str boot_str ?_ (by decide) (by decide) (star1 rfl) (stars rfl);walk_at "D")|((with_reducible show JE _ _ (w2 rIxST _ _));refine @jixS _ _ _ _ _ _ ?_ ?_ (fun _ _=>rfl);walk_at "D"; walk_at "D")|((with_reducible show JE _ _ (wCmp cGtT _ _));refine @jcmp _ _ _ _ _ _ _ _ c_gt ?_ ?_ (nomark _);walk_at "D"; walk_at "D")|((with_reducible show JE _ _ (wNeg _));refine @jneg _ _ _ _ ?_;walk_at "D")|((with_reducible show JE _ _ (wCB rTupleT _));refine @jty _ _ _ _ _ _ _ _ _ ty_tuple rfl z_tuple boot_tuple ?_ (by decide) (by decide) (star1 rfl) (stars rfl);walk_at "D")|((with_reducible show JE _ _ (wCall Z03 _));refine @jcallC _ _ _ _ _ _ _ _ _ _ Z0d (hr.mono (by omega)) rfl ?_ (by decide) (star1 rfl) (stars rfl);walk_at "D")|((with_reducible show JE _ _ (wCB rIntT _));refine @jty _ _ _ _ _ _ _ _ _ ty_int rfl z_int boot_int ?_ (by decide) (by decide) (star1 rfl) (stars rfl);walk_at "D")|((with_reducible show JE _ _ (wCB rLenST _));refine @jblt _ _ _ _ _ _ _ _ _ bl_lenS rfl z_len boot_len ?_ (by decide) (by decide) (star1 rfl) (stars rfl);walk_at "D")|((with_reducible show JE _ _ (wChain cLeS cLeS _ _ _));refine @jchain _ _ _ _ _ _ _ _ _ _ _ _ c_leS c_leS ?_ ?_ ?_ (by with_unfolding_all rfl);walk_at "D"; walk_at "D"; walk_at "D")|((with_reducible show JE _ _ (wCall Z05 _));refine @jcallC _ _ _ _ _ _ _ _ _ _ Z1U (hr.mono (by omega)) rfl ?_ (by decide) (star1 rfl) (stars rfl);walk_at "D")|((with_reducible show JE _ _ (wCall Z0q _));refine @jcallC _ _ _ _ _ _ _ _ _ _ Z1p (hr.mono (by omega)) rfl ?_ (by decide) (star1 rfl) (stars rfl);walk_at "D")|((with_reducible show JE _ _ (wChain cLeT cLeT _ _ _));refine @jchain _ _ _ _ _ _ _ _ _ _ _ _ c_le c_le ?_ ?_ ?_ (by with_unfolding_all rfl);walk_at "D"; walk_at "D"; walk_at "D")|((with_reducible show JE _ _ (wIsi .list _));refine @jisi _ _ _ _ .list _ _ _ ?_ rfl z_isinstance rfl z_list boot_list (by decide) (by decide) (star1 rfl) (star1 rfl) (stars rfl);walk_at "D")|((with_reducible show JE _ _ (wIsi .str _));refine @jisi _ _ _ _ .str _ _ _ ?_ rfl z_isinstance rfl z_str boot_str (by decide) (by decide) (star1 rfl) (star1 rfl) (stars rfl);walk_at "D")|((with_reducible show JE _ _ (wCall Z0r _));refine @jcallC _ _ _ _ _ _ _ _ _ _ Z1q (hr.mono (by omega)) rfl ?_ (by decide) (star1 rfl) (stars rfl);walk_at "D")|((with_reducible show JE _ _ (w2 rDivT _ _));refine @jop _ _ _ _ _ _ _ _ b_div ?_ ?_;walk_at "D"; walk_at "D")|((with_reducible show JE _ _ (wCB rMaxT _));refine @jblt _ _ _ _ _ _ _ _ _ (bl_max rfl) rfl z_max boot_max ?_ (by decide) (by decide) (star1 rfl) (stars rfl);walk_at "D")|((with_reducible show JE _ _ (w2 rMulST _ _));refine @jop _ _ _ _ _ _ _ _ b_mulS ?_ ?_;walk_at "D"; walk_at "D")|((with_reducible show JE _ _ (wCall Z0G _));refine @jcallC _ _ _ _ _ _ _ _ _ _ Z2q (hr.mono (by omega)) rfl ?_ (by decide) (star1 rfl) (stars rfl);walk_at "D")|((with_reducible show JE _ _ (wSlS _ _ _));refine @jslS _ _ _ _ _ _ _ _ _ ?_ ?_ ?_;walk_at "D"; walk_at "D"; walk_at "D")|((with_reducible show JE _ _ (wIfE _ _ _));refine @jif _ _ _ _ _ _ _ _ ?_ ?_ ?_;walk_at "D"; walk_at "D"; walk_at "D")|((with_reducible show JE _ _ (wCall Z0f _));refine @jcallC _ _ _ _ _ _ _ _ _ _ Z27 (hr.mono (by omega)) rfl ?_ (by decide) (star1 rfl) (stars rfl);walk_at "D")|((with_reducible show JE _ _ (wIsi .int _));refine @jisi _ _ _ _ .int _ _ _ ?_ rfl z_isinstance rfl z_int boot_int (by decide) (by decide) (star1 rfl) (star1 rfl) (stars rfl);walk_at "D")|((with_reducible show JE _ _ (wNotV _));refine @jnot _ _ _ _ ?_;walk_at "D")|((with_reducible show JE _ _ (wIsi .bool _));refine @jisi _ _ _ _ .bool _ _ _ ?_ rfl z_isinstance rfl z_bool boot_bool (by decide) (by decide) (star1 rfl) (star1 rfl) (stars rfl);walk_at "D")|((with_reducible show JE _ _ (wCall Z0M _));refine @jcallC _ _ _ _ _ _ _ _ _ _ Z1V (hr.mono (by omega)) rfl ?_ (by decide) (star1 rfl) (stars rfl);walk_at "D")|((with_reducible show JE _ _ (wCmp cNeT _ _));refine @jcmp _ _ _ _ _ _ _ _ (c_ne hr) ?_ ?_ (nomark _);walk_at "D"; walk_at "D")|((with_reducible show JE _ _ (wCall Z17 _));refine @jcallC _ _ _ _ _ _ _ _ _ _ Z2r (hr.mono (by omega)) rfl ?_ (by decide) (star1 rfl) (stars rfl);walk_at "D")|((with_reducible show JE _ _ (wCall Z09 _));refine @jcallC _ _ _ _ _ _ _ _ _ _ Z13 (hr.mono (by omega)) rfl ?_ (by decide) (star1 rfl) (stars rfl);walk_at "D")|((with_reducible show JE _ _ (wCall Z0i _));refine @jcallC _ _ _ _ _ _ _ _ _ _ Z1t (hr.mono (by omega)) rfl ?_ (by decide) (star1 rfl) (stars rfl);walk_at "D")|((with_reducible show JE _ _ (wCall Z0T _));refine @jcallC _ _ _ _ _ _ _ _ _ _ Z28 (hr.mono (by omega)) rfl ?_ (by decide) (star1 rfl) (stars rfl);walk_at "D")|((with_reducible show JE _ _ (wCall Z1g _));refine @jcallC _ _ _ _ _ _ _ _ _ _ Z2J (hr.mono (by omega)) rfl ?_ (by decide) (star1 rfl) (stars rfl);walk_at "D")|((with_reducible show JE _ _ (wCall Z0m _));refine @jcallC _ _ _ _ _ _ _ _ _ _ Z1A (hr.mono (by omega)) rfl ?_ (by decide) (star1 rfl) (stars rfl);walk_at "D")|((with_reducible show JE _ _ (wCall Z0U _));refine @jcallC _ _ _ _ _ _ _ _ _ _ Z29 (hr.mono (by omega)) rfl ?_ (by decide) (star1 rfl) (stars rfl);walk_at "D")|((with_reducible show JE _ _ (wCall Z0V _));refine @jcallC _ _ _ _ _ _ _ _ _ _ Z2a (hr.mono (by omega)) rfl ?_ (by decide) (star1 rfl) (stars rfl);walk_at "D")|((with_reducible show JE _ _ (wCall Z1i _));refine @jcallC _ _ _ _ _ _ _ _ _ _ Z2K (hr.mono (by omega)) rfl ?_ (by decide) (star1 rfl) (stars rfl);walk_at "D")|((with_reducible show JE _ _ (wCall Z18 _));refine @jcallC _ _ _ _ _ _ _ _ _ _ Z2s (hr.mono (by omega)) rfl ?_ (by decide) (star1 rfl) (stars rfl);walk_at "D")|((with_reducible show JE _ _ (wCall Z0u _));refine @jcallC _ _ _ _ _ _ _ _ _ _ Z1W (hr.mono (by omega)) rfl ?_ (by decide) (star1 rfl) (stars rfl);walk_at "D")|((with_reducible show JE _ _ (wCall Z07 _));refine @jcallC _ _ _ _ _ _ _ _ _ _ Z2b (hr.mono (by omega)) rfl ?_ (by decide) (star1 rfl) (stars rfl);walk_at "D")|((with_reducible show JE _ _ (wCall Z0t _));refine @jcallC _ _ _ _ _ _ _ _ _ _ Z2t (hr.mono (by omega)) rfl ?_ (by decide) (star1 rfl) (stars rfl);walk_at "D")|((with_reducible show JE _ _ (wCall Z1o _));refine @jcallC _ _ _ _ _ _ _ _ _ _ Z3C (hr.mono (by omega)) rfl ?_ (by decide) (star1 rfl) (stars rfl);walk_at "D")|((with_reducible show JE _ _ (wCall Z0g _));refine @jcallC _ _ _ _ _ _ _ _ _ _ Z1X (hr.mono (by omega)) rfl ?_ (by decide) (star1 rfl) (stars rfl);walk_at "D")|((with_reducible show JE _ _ (wCall Z0h _));refine @jcallC _ _ _ _ _ _ _ _ _ _ Z2u (hr.mono (by omega)) rfl ?_ (by decide) (star1 rfl) (stars rfl);walk_at "D")|((with_reducible show JE _ _ Z0l);unfold Z0l;walk_at "D"))
set_option hygiene false in
local macro_rules|`(tactic| walk_at "A")=>`(tactic| first|((with_reducible show JA _ _ (aCons _ _));refine @ja _ _ _ _ _ ?_ ?_ (star1 rfl);walk_at "D"; walk_at "D")|((with_reducible show JA _ _ aNil);refine @ja0 _))
set_option hygiene false in
local macro_rules|`(tactic| walk_at "S")=>`(tactic| first|((with_reducible show JS _ _ (sRet _));refine @jret _ _ _ _ ?_;walk_at "D")|((with_reducible show JS _ _ (sSet _ _));refine @jset _ _ _ _ _ _ _ nd rfl (by walk_at "l") ?_ (by rfl) (by walk_at "f");walk_at "D")|((with_reducible show JS _ _ (sIf _ _ _));refine @jsif _ _ _ _ _ _ _ _ ?_ ?_ ?_;walk_at "D"; walk_at "D"; walk_at "D")|((with_reducible show JS _ _ (sOwn _ _));refine @jown _ _ _ _ _ _ _ _ nd rfl (by walk_at "l") ?_ (by rfl) (by walk_at "f");walk_at "D")|((with_reducible show JS _ _ (sFor _ _ _));refine @jfor _ _ _ _ _ _ _ _ PassesOwn.never rfl ?_ ?_ ?_ (fun _=>rfl);walk_at "D"; walk_at "D"; walk_at "D")|((with_reducible show JS _ _ (sAsg _ _));refine @jasg _ _ _ _ _ _ ?_ ?_ (by rfl) (by rfl) (by rfl);walk_at "D"; walk_at "D")|((with_reducible show JS _ _ (Z04 _));unfold Z04;walk_at "D")|((with_reducible show JS _ _ (Z00 _));unfold Z00;walk_at "D")|((with_reducible show JS _ _ Z01);unfold Z01;walk_at "D")|((with_reducible show JS _ _ Z0w);unfold Z0w;walk_at "D")|((with_reducible show JS _ _ Z0x);unfold Z0x;walk_at "D")|((with_reducible show JS _ _ Z0H);unfold Z0H;walk_at "D")|((with_reducible show JS _ _ Z0I);unfold Z0I;walk_at "D"))
set_option hygiene false in
local macro_rules|`(tactic| walk_at "B")=>`(tactic| first|((with_reducible show JSs _ _ (Z04 _));unfold Z04;walk_at "D")|((with_reducible show JSs _ _ (Z0B _));unfold Z0B;walk_at "D")|((with_reducible show JSs _ _ (Z00 _));unfold Z00;walk_at "D")|((with_reducible show JSs _ _ Z01);unfold Z01;walk_at "D")|((with_reducible show JSs _ _ Z15);unfold Z15;walk_at "D")|((with_reducible show JSs _ _ Z16);unfold Z16;walk_at "D")|((with_reducible show JSs _ _ Z0n);unfold Z0n;walk_at "D")|((with_reducible show JSs _ _ Z0w);unfold Z0w;walk_at "D")|((with_reducible show JSs _ _ Z0x);unfold Z0x;walk_at "D")|((with_reducible show JSs _ _ Z0H);unfold Z0H;walk_at "D")|((with_reducible show JSs _ _ Z0I);unfold Z0I;walk_at "D")|((with_reducible show JSs _ _ Z19);unfold Z19;walk_at "D")|((with_reducible show JSs _ [_] _);refine @js1 _ _ _ ?_;walk_at "D")|((with_reducible show JSs _ _ (sSeq _ _));refine @jsc _ _ _ _ _ ?_ ?_;walk_at "D"; walk_at "D")|((with_reducible show JSs _ [] _);refine @js0 _))
set_option hygiene false in
local macro_rules|`(tactic| walk_at "T")=>`(tactic| first|((with_reducible show JT _ (.BoolOp _ _ _) _);refine @jw _ _ _ ?_;walk_at "D")|((with_reducible show JT _ _ (tNotT _));refine @tnot _ _ _ _ ?_;walk_at "D")|((with_reducible show JT _ _ (tVal _));refine @tval _ _ _ ?_ (fun _=>rfl);walk_at "D")|((with_reducible show JT _ _ (tCmpT cEqT _ _));refine @tcmp _ _ _ _ _ _ _ _ (c_eq hr) ?_ ?_ (nomark _);walk_at "D"; walk_at "D")|((with_reducible show JT _ _ (tCmpT cNeT _ _));refine @tcmp _ _ _ _ _ _ _ _ (c_ne hr) ?_ ?_ (nomark _);walk_at "D"; walk_at "D")|((with_reducible show JT _ _ (tCmpT cLtT _ _));refine @tcmp _ _ _ _ _ _ _ _ c_lt ?_ ?_ (nomark _);walk_at "D"; walk_at "D")|((with_reducible show JT _ _ (tChainT cLeT cLeT _ _ _));refine @tchain _ _ _ _ _ _ _ _ _ _ _ _ c_le c_le ?_ ?_ ?_ (by with_unfolding_all rfl);walk_at "D"; walk_at "D"; walk_at "D")|((with_reducible show JT _ _ (tCmpT cLeT _ _));refine @tcmp _ _ _ _ _ _ _ _ c_le ?_ ?_ (nomark _);walk_at "D"; walk_at "D")|((with_reducible show JT _ _ (tCmpT cInT _ _));refine @tcmp _ _ _ _ _ _ _ _ c_in ?_ ?_ rfl;walk_at "D"; walk_at "D")|((with_reducible show JT _ _ (tCmpT cGeT _ _));refine @tcmp _ _ _ _ _ _ _ _ c_ge ?_ ?_ (nomark _);walk_at "D"; walk_at "D")|((with_reducible show JT _ _ (tCmpT cGtT _ _));refine @tcmp _ _ _ _ _ _ _ _ c_gt ?_ ?_ (nomark _);walk_at "D"; walk_at "D")|((with_reducible show JT _ _ (tCmpT cIsN _ _));refine @tcmp _ _ _ _ _ _ _ _ c_is ?_ ?_ (nomark _);walk_at "D"; walk_at "D")|((with_reducible show JT _ _ (tCmpT cNotN _ _));refine @tcmp _ _ _ _ _ _ _ _ c_isnot ?_ ?_ (nomark _);walk_at "D"; walk_at "D"))
set_option hygiene false in
local macro_rules|`(tactic| walk_at "W")=>`(tactic| first|((with_reducible show JW _ (.BoolOp .Or (_::_::_) _) _);refine @tor _ _ _ _ _ _ _ ?_ ?_;walk_at "D"; walk_at "D")|((with_reducible show JW _ (.BoolOp .Or [_] _) _);refine @tor1 _ _ _ _ ?_;walk_at "D"))
set_option hygiene false in
local macro_rules|`(tactic| walk_at "G")=>`(tactic| first|((with_reducible show JG _ _ (gN _));refine @jg _ _ _ _ nd rfl (by walk_at "l") (by walk_at "f"))|((with_reducible show JG _ _ (gT _ _));refine @jgt _ _ _ _ _ _ rfl ?_ (by rfl) (by rfl);walk_at "D"))
set_option hygiene false in
local macro_rules|`(tactic| walk_at "H")=>`(tactic| first|((with_reducible show JGs _ _ (gsC _ _));refine @jgsc _ _ _ _ _ ?_ ?_ (by rfl);walk_at "D"; walk_at "D")|((with_reducible show JGs _ _ gs0);refine @jgs0 _))
set_option hygiene false in
local macro_rules|`(tactic| walk_at "I")=>`(tactic| first|((with_reducible show JI _ _ _ (iSeq _));refine @jiSeq _ _ _ _ ?_;walk_at "D")|((with_reducible show JI _ _ _ (iRange1 _));refine @jiRange1 _ _ _ _ _ _ rfl z_range ?_ (by rfl);walk_at "D")|((with_reducible show JI _ _ _ (iEnum _));refine @jiEnum _ _ _ _ _ _ _ _ rfl z_enumerate ?_ (by rfl);walk_at "D")|((with_reducible show JI _ _ _ (iStr _));refine @jiStr _ _ _ _ ?_;walk_at "D"))
set_option hygiene false in
local macro_rules|`(tactic| walk_at "O")=>`(tactic| first|((with_reducible show JO _ _ (wo _));refine @jo _ _ _ ?_;walk_at "D")|((with_reducible show JO _ _ wo0);refine @jo0 _))
local macro_rules|`(tactic| walk_at "l")=>`(tactic| first|exact Or.inl rfl|exact Or.inr rfl)
local macro_rules|`(tactic| walk_at "D")=>`(tactic| first|((with_reducible show JE _ _ _);walk_at "E")|((with_reducible show JA _ _ _);walk_at "A")|((with_reducible show JS _ _ _);walk_at "S")|((with_reducible show JSs _ _ _);walk_at "B")|((with_reducible show JT _ _ _);walk_at "T")|((with_reducible show JW _ _ _);walk_at "W")|((with_reducible show JG _ _ _);walk_at "G")|((with_reducible show JGs _ _ _);walk_at "H")|((with_reducible show JI _ _ _ _);walk_at "I")|((with_reducible show JO _ _ _);walk_at "O"))
def top(i:Nat):Stmt:=PySem.Challenge.pw_dialyard_k86_rows_that_cannot_stand.main.body.getD i (.Pass ⟨0,0,0,0⟩)
abbrev ini_NoRow:Stmt:=inSt (top 9)
theorem sc_ini_NoRow:FnScope ["self", "row"] ["self", "row"] (defScope ini_NoRow):=by walk_at "s"
abbrev ini_NoSun:Stmt:=inSt (top 4)
theorem sc_ini_NoSun:FnScope ["self", "at"] ["self", "at"] (defScope ini_NoSun):=by walk_at "s"
abbrev ini_NoYard:Stmt:=inSt (top 5)
theorem sc_ini_NoYard:FnScope ["self", "name"] ["self", "name"] (defScope ini_NoYard):=by walk_at "s"
section
variable {P:Program} {w:World} {K:PySem.W.Frag} {mg:Str->Option Value} {base:Heap}
abbrev Z1a:Stmt:=top 53
theorem Z2N:FnScope ["_law_script", "_law_k"] ["_law_script", "_law_k"] (defScope Z1a):=by walk_at "s"
theorem Z3R{f:Addr}{fd:FuncData} (F:Fun K "_law_cell_at" "_law_cell_at" Z1a f fd) (m:mg "_law_cell_at" = some (.ref f)) (z_len:mg "len" = none):Cal P w K mg base 1 "_law_cell_at" ["_law_script", "_law_k"] Z0G :=
 .mk F m (F.binds fun _ _ _ _ _ _ us hl=>args2 hl fun _ _=>rfl) (fnT (W:=Z1S) F Z2N Z3z (fun cdv A outer s H E hr=>by have nd:=Z2N.nd;unfold Z1S;walk_at "D") Z3P)
abbrev Z1L:Stmt:=top 54
theorem Z3S:FnScope ["_law_cell", "_law_k", "_law_many", "_law_number", "_law_left", "_law_j"] ["_law_cell", "_law_k", "_law_many"] (defScope Z1L):=by walk_at "s"
theorem Z46{f:Addr}{fd:FuncData} (F:Fun K "_law_draw" "_law_draw" Z1L f fd) (m:mg "_law_draw" = some (.ref f)) (z_range:mg "range" = none):Cal P w K mg base 1 "_law_draw" ["_law_cell", "_law_k", "_law_many"] Z02 :=
 .mk F m (F.binds fun _ _ _ _ _ _ us hl=>args3 hl fun _ _ _=>rfl) (fnT (W:=Z2V) F Z3S Z42 (fun cdv A outer s H E hr=>by have nd:=Z3S.nd;unfold Z2V;walk_at "D") Z44)
abbrev Z0N:Stmt:=top 55
theorem Z2j:FnScope ["_law_cell", "_law_number", "_law_dials", "_law_kind", "_law_name", "_law_corner", "_law_bad", "_law_sides", "_law_tip", "_law_up", "_law_hour"] ["_law_cell", "_law_number", "_law_dials"] (defScope Z0N):=by walk_at "s"
theorem Z3j{f:Addr}{fd:FuncData} (F:Fun K "_law_drawn_row" "_law_drawn_row" Z0N f fd) (m:mg "_law_drawn_row" = some (.ref f)) (Z2h:Cal P w K mg base 1 "_law_draw" ["_law_cell", "_law_k", "_law_many"] Z02) (z_max:mg "max" = none) (z_str:mg "str" = none) (z_int:mg "int" = none):Cal P w K mg base 2 "_law_drawn_row" ["_law_cell", "_law_number", "_law_dials"] Z0v :=
 .mk F m (F.binds fun _ _ _ _ _ _ us hl=>args3 hl fun _ _ _=>rfl) (fnT (W:=Z1x) F Z2j Z32 (fun cdv A outer s H E hr=>by have nd:=Z2j.nd;unfold Z1x;walk_at "D") Z3i)
abbrev Z1M:Stmt:=top 56
theorem Z33:FnScope ["_law_script", "_law_cell", "_law_rows_here", "_law_k", "_law_dials", "_law_some", "_law_name", "_law_one", "_law_place"] ["_law_script"] (defScope Z1M):=by walk_at "s"
theorem Z47{f:Addr}{fd:FuncData} (F:Fun K "_law_rows" "_law_rows" Z1M f fd) (m:mg "_law_rows" = some (.ref f)) (Z2q:Cal P w K mg base 1 "_law_cell_at" ["_law_script", "_law_k"] Z0G) (Z2h:Cal P w K mg base 1 "_law_draw" ["_law_cell", "_law_k", "_law_many"] Z02) (Z1Y:Cal P w K mg base 2 "_law_drawn_row" ["_law_cell", "_law_number", "_law_dials"] Z0v) (z_range:mg "range" = none) (z_str:mg "str" = none) (z_enumerate:mg "enumerate" = none) (z_len:mg "len" = none):Cal P w K mg base 3 "_law_rows" ["_law_script"] Z1o :=
 .mk F m (F.binds fun _ _ _ _ _ _ us hl=>args1 hl fun _=>rfl) (fnT (W:=Z3B) F Z33 Z43 (fun cdv A outer s H E hr=>have nd:=Z33.nd;
  (@jsc _ _ _ _ _ (by walk_at "D") (@jsc _ _ _ _ _ (by walk_at "D") (@jsc _ _ _ _ _ (@jfor _ _ _ _ _ _ _ _ PassesOwn.never rfl (by walk_at "D") (by walk_at "D") (@js1 _ _ _ (@japp _ _ _ _ _ _ _ _ _ (pv 2) (by walk_at "D") (by rfl) (by rfl) (by rfl) (by rfl) (by rfl) (by rfl))) (fun _=>rfl)) (@jsc _ _ _ _ _ (@jfor _ _ _ _ _ _ _ _ PassesOwn.never rfl (by walk_at "D") (by walk_at "D") (@jsc _ _ _ _ _ (by walk_at "D") (@js1 _ _ _ (@japp _ _ _ _ _ _ _ _ _ (pv 2) (by walk_at "D") (by rfl) (by rfl) (by rfl) (by rfl) (by rfl) (by rfl)))) (fun _=>rfl)) (@jsc _ _ _ _ _ (by walk_at "D") (@jsc _ _ _ _ _ (@jfor _ _ _ _ _ _ _ _ PassesOwn.never rfl (by walk_at "D") (by walk_at "D") (@js1 _ _ _ (@japp _ _ _ _ _ _ _ _ _ (pv 2) (@jcallC _ _ _ _ _ _ _ _ _ _ Z1Y (hr.mono (by omega)) rfl (@ja _ _ _ _ _ (by walk_at "D") (@ja _ _ _ _ _ (@jlenO _ _ (2) _ _ _ (pv 2) rfl z_len (by rfl) (star1 rfl) (stars rfl)) (by walk_at "D") (star1 rfl)) (star1 rfl)) (by decide) (star1 rfl) (stars rfl)) (by rfl) (by rfl) (by rfl) (by rfl) (by rfl) (by rfl))) (fun _=>rfl)) (@jsc _ _ _ _ _ (by walk_at "D") (@jsc _ _ _ _ _ (@jfor _ _ _ _ _ _ _ _ PassesOwn.never rfl (by walk_at "D") (by walk_at "D") (@jsc _ _ _ _ _ (@jset _ _ _ _ (8) _ _ Z33.nd rfl (Or.inl rfl) (@jcallC _ _ _ _ _ _ _ _ _ _ Z2h (hr.mono (by omega)) rfl (@ja _ _ _ _ _ (by walk_at "D") (@ja _ _ _ _ _ (by walk_at "D") (@ja _ _ _ _ _ (@jop _ _ _ _ _ _ _ _ b_add (@jlenO _ _ (2) _ _ _ (pv 2) rfl z_len (by rfl) (star1 rfl) (stars rfl)) (@ji _ _ _ _)) (@ja0 _) (star1 rfl)) (star1 rfl)) (star1 rfl)) (by decide) (star1 rfl) (stars rfl)) (by rfl) (by walk_at "f")) (@js1 _ _ _ (@jins _ _ _ _ _ _ _ _ _ _ _ (pv 2) (by walk_at "D") (by walk_at "D") (by rfl) (by rfl) (by rfl) (by rfl) (star1 rfl) (star1 rfl) (stars rfl)))) (fun _=>rfl)) (@jfrz _ _ 2 _ (@js1 _ _ _ (by walk_at "D")))))))))))) Z45)
abbrev Z0O:Stmt:=top 57
theorem Z1J:FnScope ["_law_rows_here", "_law_last", "_law_names", "_law_counts", "_law_k", "_law_word", "_law_thing", "_law_text"] ["_law_rows_here"] (defScope Z0O):=by walk_at "s"
theorem Z3k{f:Addr}{fd:FuncData} (F:Fun K "_law_first_bad" "_law_first_bad" Z0O f fd) (m:mg "_law_first_bad" = some (.ref f)) (z_len:mg "len" = none) (z_range:mg "range" = none):Cal P w K mg base 1 "_law_first_bad" ["_law_rows_here"] Z0g :=
 .mk F m (F.binds fun _ _ _ _ _ _ us hl=>args1 hl fun _=>rfl) (fnT (W:=Z1R) F Z1J Z31 (fun cdv A outer s H E hr=>have nd:=Z1J.nd;
  (@jsc _ _ _ _ _ (by walk_at "D") (@jsc _ _ _ _ _ (by walk_at "D") (@jsc _ _ _ _ _ (@jdnew3 _ _ (3) _ _ _ _ _ _ _ _ _ _ _ _ _ _ _ _ _ _ Z1J.nd rfl (Or.inl rfl) (@ji _ _ _ _) (@ji _ _ _ _) (@ji _ _ _ _) (by decide +kernel) (by rfl) (by walk_at "f")) (@jsc _ _ _ _ _ (@jfor _ _ _ _ _ _ _ _ PassesOwn.never rfl (by walk_at "D") (by walk_at "D") (@jsc _ _ _ _ _ (by walk_at "D") (@jsc _ _ _ _ _ (by walk_at "D") (@jsc _ _ _ _ _ (@jdset _ _ _ _ _ _ (3) _ _ _ (hu_of hr) (pv 3) (by walk_at "D") (@jop _ _ _ _ _ _ _ _ b_add (@jdgt _ _ _ _ (3) _ _ (hu_of hr) (pv 3) (by walk_at "D") (fun _ _=>rfl)) (@ji _ _ _ _)) (by rfl)) (@js1 _ _ _ (@jsif _ _ _ _ _ _ _ _ (by walk_at "D") (@jsc _ _ _ _ _ (@jsif _ _ _ _ _ _ _ _ (@jfzT _ 2 _ _ (@jw _ _ _ (@tor _ _ _ _ _ _ _ (by walk_at "D") (@tor _ _ _ _ _ _ _ (by walk_at "D") (@tor1 _ _ _ _ (@tcmp _ _ _ _ _ _ _ _ c_gt (@jdgt _ _ _ _ (3) _ _ (hu_of hr) (pv 3) (@js _ _ _ _) (fun _ _=>rfl)) (@ji _ _ _ _) (nomark _))))))) (@js1 _ _ _ (by walk_at "D")) (@js0 _)) (@js1 _ _ _ (by walk_at "D"))) (@jsc _ _ _ _ _ (@jsif _ _ _ _ _ _ _ _ (@jfzT _ 2 _ _ (@jw _ _ _ (@tor _ _ _ _ _ _ _ (@tcmp _ _ _ _ _ _ _ _ (c_eq hr) (@jdgt _ _ _ _ (3) _ _ (hu_of hr) (pv 3) (@js _ _ _ _) (fun _ _=>rfl)) (@ji _ _ _ _) (nomark _)) (@tor _ _ _ _ _ _ _ (by walk_at "D") (@tor _ _ _ _ _ _ _ (by walk_at "D") (@tor1 _ _ _ _ (@tcmp _ _ _ _ _ _ _ _ c_gt (@jdgt _ _ _ _ (3) _ _ (hu_of hr) (pv 3) (by walk_at "D") (fun _ _=>rfl)) (@ji _ _ _ _) (nomark _)))))))) (@js1 _ _ _ (by walk_at "D")) (@js0 _)) (@jsc _ _ _ _ _ (@jsif _ _ _ _ _ _ _ _ (@jw _ _ _ (@tand _ _ _ _ _ _ _ (by walk_at "D") (@tand1 _ _ _ _ (@tcmp _ _ _ _ _ _ _ _ c_gt (@jdgt _ _ _ _ (3) _ _ (hu_of hr) (pv 3) (@js _ _ _ _) (fun _ _=>rfl)) (@ji _ _ _ _) (nomark _))))) (@js1 _ _ _ (by walk_at "D")) (@js0 _)) (@js1 _ _ _ (@japp _ _ _ _ _ _ _ _ _ (pv 2) (by walk_at "D") (by rfl) (by rfl) (by rfl) (by rfl) (by rfl) (by rfl)))))))))) (fun _=>rfl)) (@js1 _ _ _ (@jret _ _ _ _ (@jn _ _ _)))))))) Z3h)
abbrev Z0y:Stmt:=top 47
theorem Z1n:FnScope ["word", "figures", "number"] ["word"] (defScope Z0y):=by walk_at "s"
theorem Z3l{f:Addr}{fd:FuncData} (F:Fun K "number_of" "number_of" Z0y f fd) (m:mg "number_of" = some (.ref f)) (z_len:mg "len" = none) (z_all:mg "all" = none) (z_int:mg "int" = none) (z_str:mg "str" = none) (g_MOST_FIGURES:GlC K mg "MOST_FIGURES" c_MOST_FIGURES):Cal P w K mg base 1 "number_of" ["word"] Z05 :=
 .mk F m (F.binds fun _ _ _ _ _ _ us hl=>args1 hl fun _=>rfl) (fnT (W:=Z1Q) F Z1n Z2Z (fun cdv A outer s H E hr=>have nd:=Z1n.nd;
  (@jsc _ _ _ _ _ (@jset _ _ _ _ (1) _ _ Z1n.nd rfl (Or.inl rfl) (@jif _ _ _ _ _ _ _ _ (@tval _ _ _ (@jstarts _ _ _ _ _ _ _ (by walk_at "D") (by walk_at "D") (star1 rfl) (by rfl) (by rfl) (by rfl)) (fun _=>rfl)) (by walk_at "D") (by walk_at "D")) (by rfl) (by walk_at "f")) (@jsc _ _ _ _ _ (@jsif _ _ _ _ _ _ _ _ (@jw _ _ _ (@tor _ _ _ _ _ _ _ (by walk_at "D") (@tor1 _ _ _ _ (@tnot _ _ _ _ (@tval _ _ _ (@jblt _ _ _ _ _ _ _ _ _ (bl_all rfl) rfl z_all boot_all (@ja _ _ _ _ _ (@jcomp _ _ _ _ _ _ _ (defScope Z0y) (["sign"]) (["word" , "figures" , "number"]) ([]) _ _ _ _ rfl rfl rfl (by walk_at "D") rfl rfl (by decide +kernel) (by decide +kernel) (by decide +kernel) (by decide +kernel) (fun cl C s3 H2 ex=>(@jg _ _ (0) _ (show List.Nodup (["sign"]:List Str) from by decide +kernel) rfl (Or.inl rfl) (by walk_at "f"))) (fun cl C s3 H2 ex=>(@jts0 _)) (fun cl C s3 H2 ex=>(by walk_at "D")) (fun _=>rfl)) (@ja0 _) (star1 rfl)) (by decide) (by decide) (star1 rfl) (stars rfl)) (fun _=>rfl)))))) (@js1 _ _ _ (@jret _ _ _ _ (@jn _ _ _))) (@js0 _)) (@jsc _ _ _ _ _ (@jset _ _ _ _ (2) _ _ Z1n.nd rfl (Or.inl rfl) (@jty _ _ _ _ _ _ _ _ _ ty_intS rfl z_int boot_int (by walk_at "D") (by decide) (by decide) (star1 rfl) (stars rfl)) (by rfl) (by walk_at "f")) (@js1 _ _ _ (@jret _ _ _ _ (@jif _ _ _ _ _ _ _ _ (@tcmp _ _ _ _ _ _ _ _ (c_eq hr) (@jty _ _ _ _ _ _ _ _ _ ty_strB rfl z_str boot_str (by walk_at "D") (by decide) (by decide) (star1 rfl) (stars rfl)) (by walk_at "D") (nomark _)) (by walk_at "D") (@jn _ _ _)))))))) Z3d)
abbrev Z0J:Stmt:=top 48
theorem Z1Z:FnScope ["kind", "first", "numbers", "triples"] ["kind", "first", "numbers"] (defScope Z0J):=by walk_at "s"
theorem Z3D{f:Addr}{fd:FuncData} (F:Fun K "entry_of" "entry_of" Z0J f fd) (m:mg "entry_of" = some (.ref f)) (z_len:mg "len" = none) (z_range:mg "range" = none) (z_tuple:mg "tuple" = none):Cal P w K mg base 1 "entry_of" ["kind", "first", "numbers"] Z0f :=
 .mk F m (F.binds fun _ _ _ _ _ _ us hl=>args3 hl fun _ _ _=>rfl) (fnT (W:=Z1H) F Z1Z Z3e (fun cdv A outer s H E hr=>have nd:=Z1Z.nd;
  (@jsc _ _ _ _ _ (@jsetc _ _ _ _ _ _ _ (defScope Z0J) (["at"]) (["kind" , "first" , "numbers" , "triples"]) ([("numbers" , 2)]) _ _ _ _ (3) _ _ _ Z1Z.nd rfl (Or.inl rfl) rfl rfl rfl (@jiRange3 _ _ _ _ _ _ _ _ rfl z_range (by walk_at "D") (star1 rfl) (stars rfl)) rfl rfl (by decide +kernel) (by decide +kernel) (by decide +kernel) (by decide +kernel) (fun cl C s3 H2 ex=>(@jg _ _ (0) _ (show List.Nodup (["at" , "numbers"]:List Str) from by decide +kernel) rfl (Or.inl rfl) (by walk_at "f"))) (fun cl C s3 H2 ex=>(@jts0 _)) (fun cl C s3 H2 ex=>(by walk_at "D")) (fun _=>rfl) (by rfl) (by walk_at "f")) (@jsc _ _ _ _ _ (by walk_at "D") (@jsc _ _ _ _ _ (by walk_at "D") (@js1 _ _ _ (by walk_at "D")))))) Z3w)
abbrev Z0K:Stmt:=top 49
theorem Z1y:FnScope ["row", "words", "first", "numbers"] ["row"] (defScope Z0K):=by walk_at "s"
theorem Z3E{f:Addr}{fd:FuncData} (F:Fun K "read_row" "read_row" Z0K f fd) (m:mg "read_row" = some (.ref f)) (Z1U:Cal P w K mg base 1 "number_of" ["word"] Z05) (Z27:Cal P w K mg base 1 "entry_of" ["kind", "first", "numbers"] Z0f) (z_len:mg "len" = none) (g_KINDS:GlT K mg "KINDS" t_KINDS) (g_NUMBERS_IN:GlD K mg "NUMBERS_IN" d_NUMBERS_IN):Cal P w K mg base 2 "read_row" ["row"] Z07 :=
 .mk F m (F.binds fun _ _ _ _ _ _ us hl=>args1 hl fun _=>rfl) (fnT (W:=Z0F) F Z1y Z3f (fun cdv A outer s H E hr=>have nd:=Z1y.nd;
  (@jsc _ _ _ _ _ (@jset _ _ _ _ (1) _ _ Z1y.nd rfl (Or.inl rfl) (@jsplit _ _ _ _ _ _ _ (by walk_at "D") (by walk_at "D") (star1 rfl) (by rfl) (by rfl) (by rfl)) (by rfl) (by walk_at "f")) (@jsc _ _ _ _ _ (@jsif _ _ _ _ _ _ _ _ (@jw _ _ _ (@tor _ _ _ _ _ _ _ (@tcmp _ _ _ _ _ _ _ _ c_notinT (by walk_at "D") (@jglobC _ _ _ _ (GlT.glC g_KINDS) rfl (by decide)) rfl) (@tor1 _ _ _ _ (@tcmp _ _ _ _ _ _ _ _ (c_ne hr) (by walk_at "D") (@jop _ _ _ _ _ _ _ _ b_add (@jtab _ _ _ _ _ _ _ g_NUMBERS_IN rfl (by walk_at "D") (by decide) (fun _ _=>rfl)) (@ji _ _ _ _)) (nomark _))))) (@js1 _ _ _ (@jret _ _ _ _ (@jn _ _ _))) (@js0 _)) (@jsc _ _ _ _ _ (by walk_at "D") (@jsc _ _ _ _ _ (@jsetc _ _ _ _ _ _ _ (defScope Z0K) (["word"]) (["row" , "words" , "first" , "numbers"]) ([]) _ _ _ _ (3) _ _ _ Z1y.nd rfl (Or.inl rfl) rfl rfl rfl (by walk_at "D") rfl rfl (by decide +kernel) (by decide +kernel) (by decide +kernel) (by decide +kernel) (fun cl C s3 H2 ex=>(@jg _ _ (0) _ (show List.Nodup (["word"]:List Str) from by decide +kernel) rfl (Or.inl rfl) (by walk_at "f"))) (fun cl C s3 H2 ex=>(@jts0 _)) (fun cl C s3 H2 ex=>(by walk_at "D")) (fun _=>rfl) (by rfl) (by walk_at "f")) (@js1 _ _ _ (@jret _ _ _ _ (@jtup _ _ _ _ _ (@ja _ _ _ _ _ (@jindexT _ _ _ _ _ _ _ _ g_KINDS rfl (by walk_at "D") (by decide) (star1 rfl) (by rfl) (by rfl) (by rfl)) (by walk_at "D") (star1 rfl)))))))))) Z3x)
abbrev Z0W:Stmt:=top 14
theorem Z2z:FnScope ["thing"] ["thing"] (defScope Z0W):=by walk_at "s"
theorem Z3F{f:Addr}{fd:FuncData} (F:Fun K "is_whole" "is_whole" Z0W f fd) (m:mg "is_whole" = some (.ref f)) (z_isinstance:mg "isinstance" = none) (z_int:mg "int" = none) (z_bool:mg "bool" = none):Cal P w K mg base 1 "is_whole" ["thing"] Z0q :=
 .mk F m (F.binds fun _ _ _ _ _ _ us hl=>args1 hl fun _=>rfl) (fnT (W:=Z1D) F Z2z Z36 (fun cdv A outer s H E hr=>by have nd:=Z2z.nd;unfold Z1D;refine @js1 _ _ _ ?_;walk_at "D") Z3p)
abbrev Z1b:Stmt:=top 30
theorem Z2O:FnScope ["thing"] ["thing"] (defScope Z1b):=by walk_at "s"
theorem Z3T{f:Addr}{fd:FuncData} (F:Fun K "is_hour" "is_hour" Z1b f fd) (m:mg "is_hour" = some (.ref f)) (Z1p:Cal P w K mg base 1 "is_whole" ["thing"] Z0q) (g_LAST_HOUR:GlC K mg "LAST_HOUR" c_LAST_HOUR):Cal P w K mg base 2 "is_hour" ["thing"] Z17 :=
 .mk F m (F.binds fun _ _ _ _ _ _ us hl=>args1 hl fun _=>rfl) (fnT (W:=Z1P) F Z2O Z3q (fun cdv A outer s H E hr=>by have nd:=Z2O.nd;unfold Z1P;refine @js1 _ _ _ ?_;walk_at "D") Z3K)
abbrev Z0z:Stmt:=top 18
theorem Z2k:FnScope ["thing"] ["thing"] (defScope Z0z):=by walk_at "s"
theorem Z3m{f:Addr}{fd:FuncData} (F:Fun K "is_triple" "is_triple" Z0z f fd) (m:mg "is_triple" = some (.ref f)) (Z1p:Cal P w K mg base 1 "is_whole" ["thing"] Z0q) (z_isinstance:mg "isinstance" = none) (z_tuple:mg "tuple" = none) (z_len:mg "len" = none) (z_all:mg "all" = none):Cal P w K mg base 2 "is_triple" ["thing"] Z0M :=
 .mk F m (F.binds fun _ _ _ _ _ _ us hl=>args1 hl fun _=>rfl) (fnT (W:=Z1O) F Z2k Z2X (fun cdv A outer s H E hr=>have nd:=Z2k.nd;
  (@jsc _ _ _ _ _ (by walk_at "D") (@js1 _ _ _ (@jret _ _ _ _ (@jblt _ _ _ _ _ _ _ _ _ (bl_all rfl) rfl z_all boot_all (@ja _ _ _ _ _ (@jcomp _ _ _ _ _ _ _ (defScope Z0z) (["number"]) (["thing"]) ([]) _ _ _ _ rfl rfl rfl (by walk_at "D") rfl rfl (by decide +kernel) (by decide +kernel) (by decide +kernel) (by decide +kernel) (fun cl C s3 H2 ex=>(@jg _ _ (0) _ (show List.Nodup (["number"]:List Str) from by decide +kernel) rfl (Or.inl rfl) (by walk_at "f"))) (fun cl C s3 H2 ex=>(@jts0 _)) (fun cl C s3 H2 ex=>(by walk_at "D")) (fun _=>rfl)) (@ja0 _) (star1 rfl)) (by decide) (by decide) (star1 rfl) (stars rfl)))))) Z37)
abbrev Z08:Stmt:=top 19
theorem Z1B:FnScope ["thing"] ["thing"] (defScope Z08):=by walk_at "s"
theorem Z2v{f:Addr}{fd:FuncData} (F:Fun K "is_near_triple" "is_near_triple" Z08 f fd) (m:mg "is_near_triple" = some (.ref f)) (Z1V:Cal P w K mg base 2 "is_triple" ["thing"] Z0M) (z_all:mg "all" = none) (g_FARTHEST:GlC K mg "FARTHEST" c_FARTHEST):Cal P w K mg base 3 "is_near_triple" ["thing"] Z03 :=
 .mk F m (F.binds fun _ _ _ _ _ _ us hl=>args1 hl fun _=>rfl) (fnT (W:=Z1e) F Z1B Z2i (fun cdv A outer s H E hr=>have nd:=Z1B.nd;
  (@js1 _ _ _ (@jret _ _ _ _ (@jand _ _ _ _ _ _ _ (by walk_at "D") (@jone _ _ _ _ _ (@jblt _ _ _ _ _ _ _ _ _ (bl_all rfl) rfl z_all boot_all (@ja _ _ _ _ _ (@jcomp _ _ _ _ _ _ _ (defScope Z08) (["number"]) (["thing"]) ([]) _ _ _ _ rfl rfl rfl (by walk_at "D") rfl rfl (by decide +kernel) (by decide +kernel) (by decide +kernel) (by decide +kernel) (fun cl C s3 H2 ex=>(@jg _ _ (0) _ (show List.Nodup (["number"]:List Str) from by decide +kernel) rfl (Or.inl rfl) (by walk_at "f"))) (fun cl C s3 H2 ex=>(@jts0 _)) (fun cl C s3 H2 ex=>(by walk_at "D")) (fun _=>rfl)) (@ja0 _) (star1 rfl)) (by decide) (by decide) (star1 rfl) (stars rfl))))))) Z2m)
abbrev Z0b:Stmt:=top 31
theorem Z1r:FnScope ["thing"] ["thing"] (defScope Z0b):=by walk_at "s"
theorem Z2c{f:Addr}{fd:FuncData} (F:Fun K "is_sun_direction" "is_sun_direction" Z0b f fd) (m:mg "is_sun_direction" = some (.ref f)) (Z0d:Cal P w K mg base 3 "is_near_triple" ["thing"] Z03) (g_NOUGHT:GlC K mg "NOUGHT" c_NOUGHT):Cal P w K mg base 4 "is_sun_direction" ["thing"] Z09 :=
 .mk F m (F.binds fun _ _ _ _ _ _ us hl=>args1 hl fun _=>rfl) (fnT (W:=Z0A) F Z1r Z22 (fun cdv A outer s H E hr=>by have nd:=Z1r.nd;unfold Z0A;refine @js1 _ _ _ ?_;walk_at "D") Z24)
abbrev Z0j:Stmt:=top 32
theorem Z1N:FnScope ["thing"] ["thing"] (defScope Z0j):=by walk_at "s"
theorem Z2L{f:Addr}{fd:FuncData} (F:Fun K "is_sun_tuple" "is_sun_tuple" Z0j f fd) (m:mg "is_sun_tuple" = some (.ref f)) (Z2r:Cal P w K mg base 2 "is_hour" ["thing"] Z17) (Z13:Cal P w K mg base 4 "is_sun_direction" ["thing"] Z09) (z_isinstance:mg "isinstance" = none) (z_tuple:mg "tuple" = none) (z_len:mg "len" = none):Cal P w K mg base 5 "is_sun_tuple" ["thing"] Z0i :=
 .mk F m (F.binds fun _ _ _ _ _ _ us hl=>args1 hl fun _=>rfl) (fnT (W:=Z14) F Z1N Z2w (fun cdv A outer s H E hr=>by have nd:=Z1N.nd;unfold Z14;walk_at "D") Z2F)
abbrev Z0o:Stmt:=top 33
theorem Z20:FnScope ["thing", "ahead", "number", "entry"] ["thing"] (defScope Z0o):=by walk_at "s"
theorem Z2T{f:Addr}{fd:FuncData} (F:Fun K "look_at_sun" "look_at_sun" Z0o f fd) (m:mg "look_at_sun" = some (.ref f)) (Z1t:Cal P w K mg base 5 "is_sun_tuple" ["thing"] Z0i) (z_isinstance:mg "isinstance" = none) (z_list:mg "list" = none) (z_len:mg "len" = none) (z_enumerate:mg "enumerate" = none) (g_MOST_HOURS:GlC K mg "MOST_HOURS" c_MOST_HOURS) (x_NoSun:FldCls K mg "NoSun" "at"):CalX P w K mg base 6 "look_at_sun" ["thing"] Z0L :=
 .mk F m (F.binds fun _ _ _ _ _ _ us hl=>args1 hl fun _=>rfl) (fnX (W:=Z1z) F Z20 Z2G (fun R cdv A outer s H E hr tk=>have nd:=Z20.nd;
  (@jsc _ _ _ _ _ (@jsif _ _ _ _ _ _ _ _ (by walk_at "D") (@js1 _ _ _ (@jraiseF _ _ _ _ _ _ _ _ _ (0) x_NoSun tk rfl (hr.mono (by omega)) rfl (@jn _ _ _) (by rfl) (star1 rfl) (stars rfl))) (@js0 _)) (@jsc _ _ _ _ _ (by walk_at "D") (@js1 _ _ _ (@jfor _ _ _ _ _ _ _ _ PassesOwn.leaving rfl (by walk_at "D") (by walk_at "D") (@jsc _ _ _ _ _ (@jsif _ _ _ _ _ _ _ _ (by walk_at "D") (@js1 _ _ _ (@jraiseF _ _ _ _ _ _ _ _ _ (0) x_NoSun tk rfl (hr.mono (by omega)) rfl (by walk_at "D") (by rfl) (star1 rfl) (stars rfl))) (@js0 _)) (@js1 _ _ _ (by walk_at "D"))) (fun _=>rfl)))))) Z2R)
abbrev Z0R:Stmt:=top 37
theorem Z2P:FnScope ["thing"] ["thing"] (defScope Z0R):=by walk_at "s"
theorem Z3U{f:Addr}{fd:FuncData} (F:Fun K "is_name" "is_name" Z0R f fd) (m:mg "is_name" = some (.ref f)) (z_isinstance:mg "isinstance" = none) (z_str:mg "str" = none) (z_len:mg "len" = none) (z_all:mg "all" = none) (g_LONGEST_NAME:GlC K mg "LONGEST_NAME" c_LONGEST_NAME):Cal P w K mg base 1 "is_name" ["thing"] Z18 :=
 .mk F m (F.binds fun _ _ _ _ _ _ us hl=>args1 hl fun _=>rfl) (fnT (W:=Z2o) F Z2P Z3v (fun cdv A outer s H E hr=>have nd:=Z2P.nd;
  (@jsc _ _ _ _ _ (by walk_at "D") (@js1 _ _ _ (@jret _ _ _ _ (@jblt _ _ _ _ _ _ _ _ _ (bl_all rfl) rfl z_all boot_all (@ja _ _ _ _ _ (@jcomp _ _ _ _ _ _ _ (defScope Z0R) (["sign"]) (["thing"]) ([]) _ _ _ _ rfl rfl rfl (by walk_at "D") rfl rfl (by decide +kernel) (by decide +kernel) (by decide +kernel) (by decide +kernel) (fun cl C s3 H2 ex=>(@jg _ _ (0) _ (show List.Nodup (["sign"]:List Str) from by decide +kernel) rfl (Or.inl rfl) (by walk_at "f"))) (fun cl C s3 H2 ex=>(@jts0 _)) (fun cl C s3 H2 ex=>(by walk_at "D")) (fun _=>rfl)) (@ja0 _) (star1 rfl)) (by decide) (by decide) (star1 rfl) (stars rfl)))))) Z3N)
abbrev Z0X:Stmt:=top 22
theorem Z2A:FnScope ["one", "other"] ["one", "other"] (defScope Z0X):=by walk_at "s"
theorem Z3G{f:Addr}{fd:FuncData} (F:Fun K "cross_of" "cross_of" Z0X f fd) (m:mg "cross_of" = some (.ref f)):Cal P w K mg base 1 "cross_of" ["one", "other"] Z0T :=
 .mk F m (F.binds fun _ _ _ _ _ _ us hl=>args2 hl fun _ _=>rfl) (fnT (W:=Z1E) F Z2A Z38 (fun cdv A outer s H E hr=>by have nd:=Z2A.nd;unfold Z1E;refine @js1 _ _ _ ?_;walk_at "D") Z3r)
abbrev Z0Y:Stmt:=top 25
theorem Z2B:FnScope ["plate"] ["plate"] (defScope Z0Y):=by walk_at "s"
theorem Z3H{f:Addr}{fd:FuncData} (F:Fun K "front_of" "front_of" Z0Y f fd) (m:mg "front_of" = some (.ref f)) (Z28:Cal P w K mg base 1 "cross_of" ["one", "other"] Z0T):Cal P w K mg base 2 "front_of" ["plate"] Z0r :=
 .mk F m (F.binds fun _ _ _ _ _ _ us hl=>args1 hl fun _=>rfl) (fnT (W:=Z1F) F Z2B Z39 (fun cdv A outer s H E hr=>by have nd:=Z2B.nd;unfold Z1F;refine @js1 _ _ _ ?_;walk_at "D") Z3s)
abbrev Z0e:Stmt:=top 24
theorem Z1I:FnScope ["thing", "triple"] ["thing"] (defScope Z0e):=by walk_at "s"
theorem Z2C{f:Addr}{fd:FuncData} (F:Fun K "look_at_plate" "look_at_plate" Z0e f fd) (m:mg "look_at_plate" = some (.ref f)) (Z0d:Cal P w K mg base 3 "is_near_triple" ["thing"] Z03) (Z1q:Cal P w K mg base 2 "front_of" ["plate"] Z0r) (z_isinstance:mg "isinstance" = none) (z_tuple:mg "tuple" = none) (z_len:mg "len" = none) (g_NOUGHT:GlC K mg "NOUGHT" c_NOUGHT) (x_NoPlate:ExcCls K mg "NoPlate"):CalX P w K mg base 4 "look_at_plate" ["thing"] Z0s :=
 .mk F m (F.binds fun _ _ _ _ _ _ us hl=>args1 hl fun _=>rfl) (fnX (W:=Z1h) F Z1I Z2n (fun R cdv A outer s H E hr tk=>have nd:=Z1I.nd;
  (@jsc _ _ _ _ _ (@jsif _ _ _ _ _ _ _ _ (by walk_at "D") (@js1 _ _ _ (@jraise _ _ _ _ _ _ _ _ _ x_NoPlate tk rfl rfl (by decide))) (@js0 _)) (@jsc _ _ _ _ _ (@jfor _ _ _ _ _ _ _ _ PassesOwn.leaving rfl (by walk_at "D") (by walk_at "D") (@js1 _ _ _ (@jsif _ _ _ _ _ _ _ _ (by walk_at "D") (@js1 _ _ _ (@jraise _ _ _ _ _ _ _ _ _ x_NoPlate tk rfl rfl (by decide))) (@js0 _))) (fun _=>rfl)) (@js1 _ _ _ (@jsif _ _ _ _ _ _ _ _ (by walk_at "D") (@js1 _ _ _ (@jraise _ _ _ _ _ _ _ _ _ x_NoPlate tk rfl rfl (by decide))) (@js0 _)))))) Z2x)
abbrev Z0Z:Stmt:=top 38
theorem Z2D:FnScope ["thing"] ["thing"] (defScope Z0Z):=by walk_at "s"
theorem Z3I{f:Addr}{fd:FuncData} (F:Fun K "is_plate" "is_plate" Z0Z f fd) (m:mg "is_plate" = some (.ref f)) (Z1j:CalX P w K mg base 4 "look_at_plate" ["thing"] Z0s) (ct_NoPlate:Catches K mg "NoPlate" ["NoPlate"]):Cal P w K mg base 5 "is_plate" ["thing"] Z0V :=
 .mk F m (F.binds fun _ _ _ _ _ _ us hl=>args1 hl fun _=>rfl) (fnT (W:=Z25) F Z2D Z3b (fun cdv A outer s H E hr=>have nd:=Z2D.nd;
  (@jsc _ _ _ _ _ (@jtryF _ _ _ _ _ _ _ _ _ _ _ _ (DefCx.mk rfl rfl rfl) ct_NoPlate rfl (@jbExpr _ _ _ _ _ _ _ _ _ _ _ Z1j (fun _ _ z=>z) (hr.mono (by omega)) rfl (by walk_at "D") (by decide) (star1 rfl) (stars rfl) (by rfl)) (by decide)) (@js1 _ _ _ (@jret _ _ _ _ (@jb _ _ _ _))))) Z3u)
abbrev Z0p:Stmt:=top 20
theorem Z21:FnScope ["one", "other"] ["one", "other"] (defScope Z0p):=by walk_at "s"
theorem Z2U{f:Addr}{fd:FuncData} (F:Fun K "triple_less" "triple_less" Z0p f fd) (m:mg "triple_less" = some (.ref f)):Cal P w K mg base 1 "triple_less" ["one", "other"] Z0m :=
 .mk F m (F.binds fun _ _ _ _ _ _ us hl=>args2 hl fun _ _=>rfl) (fnT (W:=Z1f) F Z21 Z2H (fun cdv A outer s H E hr=>by have nd:=Z21.nd;unfold Z1f;refine @js1 _ _ _ ?_;walk_at "D") Z2S)
abbrev Z1k:Stmt:=top 21
theorem Z34:FnScope ["one", "other"] ["one", "other"] (defScope Z1k):=by walk_at "s"
theorem Z40{f:Addr}{fd:FuncData} (F:Fun K "dot_of" "dot_of" Z1k f fd) (m:mg "dot_of" = some (.ref f)):Cal P w K mg base 1 "dot_of" ["one", "other"] Z1g :=
 .mk F m (F.binds fun _ _ _ _ _ _ us hl=>args2 hl fun _ _=>rfl) (fnT (W:=Z2f) F Z34 Z3L (fun cdv A outer s H E hr=>by have nd:=Z34.nd;unfold Z2f;refine @js1 _ _ _ ?_;walk_at "D") Z3X)
abbrev Z10:Stmt:=top 26
theorem Z2E:FnScope ["plate", "triple"] ["plate", "triple"] (defScope Z10):=by walk_at "s"
theorem Z3J{f:Addr}{fd:FuncData} (F:Fun K "is_ahead" "is_ahead" Z10 f fd) (m:mg "is_ahead" = some (.ref f)) (Z1q:Cal P w K mg base 2 "front_of" ["plate"] Z0r) (Z1A:Cal P w K mg base 1 "triple_less" ["one", "other"] Z0m) (Z2J:Cal P w K mg base 1 "dot_of" ["one", "other"] Z1g):Cal P w K mg base 3 "is_ahead" ["plate", "triple"] Z0U :=
 .mk F m (F.binds fun _ _ _ _ _ _ us hl=>args2 hl fun _ _=>rfl) (fnT (W:=Z1G) F Z2E Z3a (fun cdv A outer s H E hr=>by have nd:=Z2E.nd;unfold Z1G;refine @js1 _ _ _ ?_;walk_at "D") Z3t)
abbrev Z1l:Stmt:=top 39
theorem Z35:FnScope ["plate", "thing"] ["plate", "thing"] (defScope Z1l):=by walk_at "s"
theorem Z41{f:Addr}{fd:FuncData} (F:Fun K "is_tip" "is_tip" Z1l f fd) (m:mg "is_tip" = some (.ref f)) (Z0d:Cal P w K mg base 3 "is_near_triple" ["thing"] Z03) (Z29:Cal P w K mg base 3 "is_ahead" ["plate", "triple"] Z0U):Cal P w K mg base 4 "is_tip" ["plate", "thing"] Z1i :=
 .mk F m (F.binds fun _ _ _ _ _ _ us hl=>args2 hl fun _ _=>rfl) (fnT (W:=Z2g) F Z35 Z3M (fun cdv A outer s H E hr=>by have nd:=Z35.nd;unfold Z2g;refine @js1 _ _ _ ?_;walk_at "D") Z3Y)
abbrev Z0P:Stmt:=top 40
theorem Z2l:FnScope ["thing"] ["thing"] (defScope Z0P):=by walk_at "s"
theorem Z3n{f:Addr}{fd:FuncData} (F:Fun K "can_stand" "can_stand" Z0P f fd) (m:mg "can_stand" = some (.ref f)) (Z2a:Cal P w K mg base 5 "is_plate" ["thing"] Z0V) (Z2K:Cal P w K mg base 4 "is_tip" ["plate", "thing"] Z1i) (z_len:mg "len" = none):Cal P w K mg base 6 "can_stand" ["thing"] Z0u :=
 .mk F m (F.binds fun _ _ _ _ _ _ us hl=>args1 hl fun _=>rfl) (fnT (W:=Z1v) F Z2l Z2Y (fun cdv A outer s H E hr=>by have nd:=Z2l.nd;unfold Z1v;walk_at "D") Z3c)
abbrev Z0c:Stmt:=top 41
theorem Z0S:FnScope ["things", "size", "taken", "names", "number", "thing"] ["things", "size", "taken"] (defScope Z0c):=by walk_at "s"
theorem Z2d{f:Addr}{fd:FuncData} (F:Fun K "look_at_one_kind" "look_at_one_kind" Z0c f fd) (m:mg "look_at_one_kind" = some (.ref f)) (Z2s:Cal P w K mg base 1 "is_name" ["thing"] Z18) (Z1W:Cal P w K mg base 6 "can_stand" ["thing"] Z0u) (z_isinstance:mg "isinstance" = none) (z_list:mg "list" = none) (z_enumerate:mg "enumerate" = none) (z_tuple:mg "tuple" = none) (z_len:mg "len" = none) (g_MOST_OF_A_KIND:GlC K mg "MOST_OF_A_KIND" c_MOST_OF_A_KIND) (x_NoYard:FldCls K mg "NoYard" "name"):CalX P w K mg base 7 "look_at_one_kind" ["things", "size", "taken"] Z0a :=
 .mk F m (F.binds fun _ _ _ _ _ _ us hl=>args3 hl fun _ _ _=>rfl) (fnX (W:=Z12) F Z0S Z23 (fun R cdv A outer s H E hr tk=>have nd:=Z0S.nd;
  (@jsc _ _ _ _ _ (@jsif _ _ _ _ _ _ _ _ (by walk_at "D") (@js1 _ _ _ (@jraiseF _ _ _ _ _ _ _ _ _ (0) x_NoYard tk rfl (hr.mono (by omega)) rfl (@jn _ _ _) (by rfl) (star1 rfl) (stars rfl))) (@js0 _)) (@jsc _ _ _ _ _ (@jsetF _ _ _ _ (3) _ _ Z0S.nd rfl (Or.inl rfl) (@jtyF _ _ _ _ _ _ _ _ _ ty_listF rfl z_list boot_list (by walk_at "D") (by decide) (by decide) (star1 rfl) (stars rfl)) (by rfl) (by walk_at "f")) (@jsc _ _ _ _ _ (@jfor _ _ _ _ _ _ _ _ PassesOwn.leaving rfl (by walk_at "D") (by walk_at "D") (@jsc _ _ _ _ _ (@jsif _ _ _ _ _ _ _ _ (by walk_at "D") (@js1 _ _ _ (@jraiseF _ _ _ _ _ _ _ _ _ (0) x_NoYard tk rfl (hr.mono (by omega)) rfl (@jn _ _ _) (by rfl) (star1 rfl) (stars rfl))) (@js0 _)) (@jsc _ _ _ _ _ (@jsif _ _ _ _ _ _ _ _ (by walk_at "D") (@js1 _ _ _ (@jraiseF _ _ _ _ _ _ _ _ _ (0) x_NoYard tk rfl (hr.mono (by omega)) rfl (@jn _ _ _) (by rfl) (star1 rfl) (stars rfl))) (@js0 _)) (@jsc _ _ _ _ _ (@jsif _ _ _ _ _ _ _ _ (@jfzT _ 3 _ _ (by walk_at "D")) (@js1 _ _ _ (@jraiseF _ _ _ _ _ _ _ _ _ (0) x_NoYard tk rfl (hr.mono (by omega)) rfl (by walk_at "D") (by rfl) (star1 rfl) (stars rfl))) (@js0 _)) (@js1 _ _ _ (@japp _ _ _ _ _ _ _ _ _ (pv 3) (by walk_at "D") (by rfl) (by rfl) (by rfl) (by rfl) (by rfl) (by rfl)))))) (fun _=>rfl)) (@jfrz _ _ 3 _ (@js1 _ _ _ (by walk_at "D"))))))) Z26)
abbrev Z0k:Stmt:=top 42
theorem Z1m:FnScope ["thing", "names"] ["thing"] (defScope Z0k):=by walk_at "s"
theorem Z2M{f:Addr}{fd:FuncData} (F:Fun K "look_at_yard" "look_at_yard" Z0k f fd) (m:mg "look_at_yard" = some (.ref f)) (Z1C:CalX P w K mg base 6 "look_at_sun" ["thing"] Z0L) (Z0C:CalX P w K mg base 7 "look_at_one_kind" ["things", "size", "taken"] Z0a) (z_isinstance:mg "isinstance" = none) (z_tuple:mg "tuple" = none) (z_len:mg "len" = none) (x_NoYard:FldCls K mg "NoYard" "name"):CalX P w K mg base 8 "look_at_yard" ["thing"] Z0E :=
 .mk F m (F.binds fun _ _ _ _ _ _ us hl=>args1 hl fun _=>rfl) (fnX (W:=Z1s) F Z1m Z2y (fun R cdv A outer s H E hr tk=>have nd:=Z1m.nd;
  (@jsc _ _ _ _ _ (@jsif _ _ _ _ _ _ _ _ (by walk_at "D") (@js1 _ _ _ (@jraiseF _ _ _ _ _ _ _ _ _ (0) x_NoYard tk rfl (hr.mono (by omega)) rfl (@jn _ _ _) (by rfl) (star1 rfl) (stars rfl))) (@js0 _)) (@jsc _ _ _ _ _ (@jexpr _ _ _ _ (@jcallX _ _ _ _ _ _ _ _ _ _ _ Z1C tk (hr.mono (by omega)) rfl (by walk_at "D") (by decide) (star1 rfl) (stars rfl)) (by rfl)) (@jsc _ _ _ _ _ (@jset _ _ _ _ (1) _ _ Z1m.nd rfl (Or.inl rfl) (@jcallX _ _ _ _ _ _ _ _ _ _ _ Z0C tk (hr.mono (by omega)) rfl (by walk_at "D") (by decide) (star1 rfl) (stars rfl)) (by rfl) (by walk_at "f")) (@js1 _ _ _ (@jexpr _ _ _ _ (@jcallX _ _ _ _ _ _ _ _ _ _ _ Z0C tk (hr.mono (by omega)) rfl (by walk_at "D") (by decide) (star1 rfl) (stars rfl)) (by rfl))))))) Z2I)
abbrev Z1c:Stmt:=top 50
theorem Z2Q:FnScope ["thing"] ["thing"] (defScope Z1c):=by walk_at "s"
theorem Z3V{f:Addr}{fd:FuncData} (F:Fun K "is_yard" "is_yard" Z1c f fd) (m:mg "is_yard" = some (.ref f)) (Z1u:CalX P w K mg base 8 "look_at_yard" ["thing"] Z0E) (ct_NoSun__NoYard:Catches2 K mg "NoSun" "NoYard" ["NoSun", "NoYard"]):Cal P w K mg base 9 "is_yard" ["thing"] Z0t :=
 .mk F m (F.binds fun _ _ _ _ _ _ us hl=>args1 hl fun _=>rfl) (fnT (W:=Z2p) F Z2Q Z3y (fun cdv A outer s H E hr=>have nd:=Z2Q.nd;
  (@jsc _ _ _ _ _ (@jtryF2 _ _ _ _ _ _ _ _ _ _ _ _ _ _ _ _ (DefCx.mk rfl rfl rfl) ct_NoSun__NoYard rfl rfl (@jbExpr _ _ _ _ _ _ _ _ _ _ _ Z1u (fun _ _ z=>z) (hr.mono (by omega)) rfl (by walk_at "D") (by decide) (star1 rfl) (stars rfl) (by rfl)) (by decide) (by decide) (by rfl)) (@js1 _ _ _ (@jret _ _ _ _ (@jb _ _ _ _))))) Z3O)
abbrev Z0Q:Stmt:=top 51
theorem Z1K:FnScope ["text", "yard", "number", "row", "read"] ["text"] (defScope Z0Q):=by walk_at "s"
theorem Z3o{f:Addr}{fd:FuncData} (F:Fun K "read_yard" "read_yard" Z0Q f fd) (m:mg "read_yard" = some (.ref f)) (Z2b:Cal P w K mg base 2 "read_row" ["row"] Z07) (Z2t:Cal P w K mg base 9 "is_yard" ["thing"] Z0t) (z_isinstance:mg "isinstance" = none) (z_str:mg "str" = none) (z_enumerate:mg "enumerate" = none) (z_any:mg "any" = none) (x_NoRow:FldCls K mg "NoRow" "row"):CalX P w K mg base 10 "read_yard" ["text"] Z06 :=
 .mk F m (F.binds fun _ _ _ _ _ _ us hl=>args1 hl fun _=>rfl) (fnX (W:=Z1w) F Z1K Z30 (fun R cdv A outer s H E hr tk=>have nd:=Z1K.nd;
  (@jsc _ _ _ _ _ (@jsif _ _ _ _ _ _ _ _ (by walk_at "D") (@js1 _ _ _ (@jraiseF _ _ _ _ _ _ _ _ _ (0) x_NoRow tk rfl (hr.mono (by omega)) rfl (@ji _ _ _ _) (by rfl) (star1 rfl) (stars rfl))) (@js0 _)) (@jreadX _ _ _ _ _ _ _ _ _ (1) (2) (3) (4) _ _ _ _ _ _ _ _ _ _ _ _ _ _ _ _ _ _ _ _ _ _ _ _ _ _ _ _ _ _ _ _ _ _ _ (by decide) PassesOwn.leaving rfl Z1K.nd rfl (Or.inl rfl) rfl (Or.inl rfl) rfl (Or.inl rfl) rfl (Or.inl rfl) (@jiEnum _ _ _ _ _ _ _ _ rfl z_enumerate (@ja _ _ _ _ _ (@jsplit _ _ _ _ _ _ _ (by walk_at "D") (by walk_at "D") (star1 rfl) (by rfl) (by rfl) (by rfl)) (@ja0 _) (star1 rfl)) (by rfl)) (by walk_at "D") (@jw _ _ _ (@tor _ _ _ _ _ _ _ (by walk_at "D") (@tor1 _ _ _ _ (@tval _ _ _ (@jblt _ _ _ _ _ _ _ _ _ (bl_anyT rfl) rfl z_any boot_any (by walk_at "D") (by decide) (by decide) (star1 rfl) (stars rfl)) (fun _=>rfl))))) (@jraiseF _ _ _ _ _ _ _ _ _ (0) x_NoRow tk rfl (hr.mono (by omega)) rfl (by walk_at "D") (by rfl) (star1 rfl) (stars rfl)) (by walk_at "D") (by walk_at "D") (by walk_at "D") (@jraiseF _ _ _ _ _ _ _ _ _ (0) x_NoRow tk rfl (hr.mono (by omega)) rfl (by walk_at "D") (by rfl) (star1 rfl) (stars rfl)) (pv 1) (pv 1) (by walk_at "f") (by walk_at "f") (by walk_at "f") (by walk_at "f") (by rfl) (by rfl) (star1 rfl) (star1 rfl) (star1 rfl) (fun _=>rfl) (by rfl) (by rfl) (by rfl) (by rfl) (by rfl) (by rfl) (by rfl) (by rfl) (star1 rfl) (stars rfl) (fun _ _=>rfl)))) Z3g)
abbrev Z1d:Stmt:=top 58
theorem Z2e:FnScope ["_law_thing", "_law_caught", "e"] ["_law_thing"] (defScope Z1d):=by walk_at "s"
theorem Z3W{f:Addr}{fd:FuncData} (F:Fun K "_law_refused" "_law_refused" Z1d f fd) (m:mg "_law_refused" = some (.ref f)) (Z11:CalX P w K mg base 10 "read_yard" ["text"] Z06) (z_isinstance:mg "isinstance" = none) (z_ValueError:mg "ValueError" = none) (z_int:mg "int" = none) (z_bool:mg "bool" = none) (ct_YardError:Catches K mg "YardError" ["NoPlate", "NoRow", "NoSun", "NoYard"]) (gf_row:GetF K "row" ["NoRow"]) {D_NoRow:Addr} (mc_NoRow:mg "NoRow" = some (.ref D_NoRow)) {D_NoBack:Addr} (mc_NoBack:mg "NoBack" = some (.ref D_NoBack)) {D_NoHour:Addr} (mc_NoHour:mg "NoHour" = some (.ref D_NoHour)) {D_NoName:Addr} (mc_NoName:mg "NoName" = some (.ref D_NoName)) {D_NoNumber:Addr} (mc_NoNumber:mg "NoNumber" = some (.ref D_NoNumber)) {D_NoPlate:Addr} (mc_NoPlate:mg "NoPlate" = some (.ref D_NoPlate)) {D_NoSay:Addr} (mc_NoSay:mg "NoSay" = some (.ref D_NoSay)) {D_NoSun:Addr} (mc_NoSun:mg "NoSun" = some (.ref D_NoSun)) {D_NotLit:Addr} (mc_NotLit:mg "NotLit" = some (.ref D_NotLit)) {D_NoYard:Addr} (mc_NoYard:mg "NoYard" = some (.ref D_NoYard)) {D_TooMany:Addr} (mc_TooMany:mg "TooMany" = some (.ref D_TooMany)) (an_NoRow:Ans1 K (.ref D_NoRow) [("NoPlate", false),("NoRow", true),("NoSun", false),("NoYard", false)]) (an_ValueError:Ans1 K (.type "ValueError") [("NoPlate", true),("NoRow", true),("NoSun", true),("NoYard", true)]) (an_NoBack_NoHour_NoName_NoNumber_NoPlate_NoSay_NoSun_NotLit_NoYard_TooMany:AnsN K (List.map Value.ref [D_NoBack,D_NoHour,D_NoName,D_NoNumber,D_NoPlate,D_NoSay,D_NoSun,D_NotLit,D_NoYard,D_TooMany]) [("NoPlate", true),("NoRow", false),("NoSun", true),("NoYard", true)]):Cal P w K mg base 11 "_law_refused" ["_law_thing"] Z0h :=
 .mk F m (F.binds fun _ _ _ _ _ _ us hl=>args1 hl fun _=>rfl) (fnT (W:=Z1T) F Z2e Z3A (fun cdv A outer s H E hr=>have nd:=Z2e.nd;
  (@jsc _ _ _ _ _ (by walk_at "D") (@jsc _ _ _ _ _ (@jtry _ _ _ _ _ _ _ (2) (1) _ _ _ _ _ _ (DefCx.mk rfl rfl rfl) ct_YardError Z2e.nd rfl rfl (by decide) rfl rfl rfl (@jbExpr _ _ _ _ _ _ _ _ _ _ _ Z11 (fun _ _ z=>z) (hr.mono (by omega)) rfl (by walk_at "D") (by decide) (star1 rfl) (stars rfl) (by rfl)) (by decide) (by decide) (by decide)) (@jsc _ _ _ _ _ (@jsif _ _ _ _ _ _ _ _ (@jw _ _ _ (@tor _ _ _ _ _ _ _ (@tnot _ _ _ _ (@tval _ _ _ (@jisO _ _ _ _ _ _ _ _ _ an_NoRow (by walk_at "D") rfl z_isinstance rfl mc_NoRow (by decide) (star1 rfl) (star1 rfl) (stars rfl)) (fun _=>rfl))) (@tor1 _ _ _ _ (@tnot _ _ _ _ (@tval _ _ _ (@jisB _ _ _ _ _ _ _ _ _ an_ValueError (by walk_at "D") rfl z_isinstance rfl z_ValueError PyProof.Rows.Boot.«ValueError» (by decide) (by decide) (star1 rfl) (star1 rfl) (stars rfl)) (fun _=>rfl)))))) (@js1 _ _ _ (@jret _ _ _ _ (@jn _ _ _))) (@js0 _)) (@jsc _ _ _ _ _ (@jsif _ _ _ _ _ _ _ _ (@tval _ _ _ (@jisN _ _ _ _ _ _ _ _ _ _ an_NoBack_NoHour_NoName_NoNumber_NoPlate_NoSay_NoSun_NotLit_NoYard_TooMany (show 10<=1000 from (by decide)) (by walk_at "D") rfl z_isinstance (@crow _ _ _ _ _ _ rfl mc_NoBack (@crow _ _ _ _ _ _ rfl mc_NoHour (@crow _ _ _ _ _ _ rfl mc_NoName (@crow _ _ _ _ _ _ rfl mc_NoNumber (@crow _ _ _ _ _ _ rfl mc_NoPlate (@crow _ _ _ _ _ _ rfl mc_NoSay (@crow _ _ _ _ _ _ rfl mc_NoSun (@crow _ _ _ _ _ _ rfl mc_NotLit (@crow _ _ _ _ _ _ rfl mc_NoYard (@crow _ _ _ _ _ _ rfl mc_TooMany (@crow0 _) (by decide)) (by decide)) (by decide)) (by decide)) (by decide)) (by decide)) (by decide)) (by decide)) (by decide)) (by decide)) (star1 rfl) (star1 rfl) (stars rfl)) (fun _=>rfl)) (@js1 _ _ _ (@jret _ _ _ _ (@jn _ _ _))) (@js0 _)) (@jsc _ _ _ _ _ (@jsif _ _ _ _ _ _ _ _ (@jw _ _ _ (@tor _ _ _ _ _ _ _ (@tnot _ _ _ _ (@tval _ _ _ (@jisi _ _ _ _ .int _ _ _ (@jfld _ _ _ _ _ _ gf_row (by walk_at "D") (by rfl)) rfl z_isinstance rfl z_int boot_int (by decide) (by decide) (star1 rfl) (star1 rfl) (stars rfl)) (fun _=>rfl))) (@tor1 _ _ _ _ (@tval _ _ _ (@jisi _ _ _ _ .bool _ _ _ (@jfld _ _ _ _ _ _ gf_row (by walk_at "D") (by rfl)) rfl z_isinstance rfl z_bool boot_bool (by decide) (by decide) (star1 rfl) (star1 rfl) (stars rfl)) (fun _=>rfl))))) (@js1 _ _ _ (@jret _ _ _ _ (@jn _ _ _))) (@js0 _)) (@js1 _ _ _ (@jret _ _ _ _ (@jfld _ _ _ _ _ _ gf_row (by walk_at "D") (by rfl)))))))))) Z3Q)
abbrev Z0D:Stmt:=top 59
theorem Z2W:FnScope ["_law_script", "_law_rows_here", "_law_due", "_law_text", "_law_found"] ["_law_script"] (defScope Z0D):=by walk_at "s"
theorem Z49{f:Addr}{fd:FuncData} (F:Fun K "law" "law" Z0D f fd) (Z3C:Cal P w K mg base 3 "_law_rows" ["_law_script"] Z1o) (Z1X:Cal P w K mg base 1 "_law_first_bad" ["_law_rows_here"] Z0g) (Z2u:Cal P w K mg base 11 "_law_refused" ["_law_thing"] Z0h) (Z11:CalX P w K mg base 10 "read_yard" ["text"] Z06):FnT P w K mg base 12 f fd ["_law_script"] lawSp :=
 fnT (W:=Z3Z) F Z2W len_law (fun cdv A outer s H E hr=>have nd:=Z2W.nd;
  (@jsc _ _ _ _ _ (by walk_at "D") (@jsc _ _ _ _ _ (by walk_at "D") (@jsc _ _ _ _ _ (by walk_at "D") (@jsc _ _ _ _ _ (@jset _ _ _ _ (3) _ _ Z2W.nd rfl (Or.inl rfl) (@jjoin _ _ _ _ _ _ _ (@js _ _ _ _) (@jcomp _ _ _ _ _ _ _ (defScope Z0D) (["_law_row"]) (["_law_script" , "_law_rows_here" , "_law_due" , "_law_text" , "_law_found"]) ([]) _ _ _ _ rfl rfl rfl (by walk_at "D") rfl rfl (by decide +kernel) (by decide +kernel) (by decide +kernel) (by decide +kernel) (fun cl C s3 H2 ex=>(@jg _ _ (0) _ (show List.Nodup (["_law_row"]:List Str) from by decide +kernel) rfl (Or.inl rfl) (by walk_at "f"))) (fun cl C s3 H2 ex=>(@jts0 _)) (fun cl C s3 H2 ex=>(by walk_at "D")) (fun _=>rfl)) (star1 rfl) (by rfl) (by rfl) (by rfl)) (by rfl) (by walk_at "f")) (@jsc _ _ _ _ _ (by walk_at "D") (@jsc _ _ _ _ _ (@jset _ _ _ _ (4) _ _ Z2W.nd rfl (Or.inl rfl) (@jcallC _ _ _ _ _ _ _ _ _ _ (CalX.calm Z11) (hr.mono (by omega)) rfl (by walk_at "D") (by decide) (star1 rfl) (stars rfl)) (by rfl) (by walk_at "f")) (@jsc _ _ _ _ _ (@jsif _ _ _ _ _ _ _ _ (@tcmp _ _ _ _ _ _ _ _ (c_ne hr) (@jcomp _ _ _ _ _ _ _ (defScope Z0D) (["_law_hour" , "_law_direction"]) (["_law_script" , "_law_rows_here" , "_law_due" , "_law_text" , "_law_found"]) ([]) _ _ _ _ rfl rfl rfl (by walk_at "D") rfl rfl (by decide +kernel) (by decide +kernel) (by decide +kernel) (by decide +kernel) (fun cl C s3 H2 ex=>(@jgt _ _ _ _ _ _ rfl (@jgsc _ _ _ _ _ (@jg _ _ (0) _ (show List.Nodup (["_law_hour" , "_law_direction"]:List Str) from by decide +kernel) rfl (Or.inl rfl) (by walk_at "f")) (@jgsc _ _ _ _ _ (@jg _ _ (1) _ (show List.Nodup (["_law_hour" , "_law_direction"]:List Str) from by decide +kernel) rfl (Or.inl rfl) (by walk_at "f")) (@jgs0 _) (by rfl)) (by rfl)) (by rfl) (by rfl))) (fun cl C s3 H2 ex=>(@jts0 _)) (fun cl C s3 H2 ex=>(by walk_at "D")) (fun _=>rfl)) (@jcomp _ _ _ _ _ _ _ (defScope Z0D) (["_law_row"]) (["_law_script" , "_law_rows_here" , "_law_due" , "_law_text" , "_law_found"]) ([]) _ _ _ _ rfl rfl rfl (by walk_at "D") rfl rfl (by decide +kernel) (by decide +kernel) (by decide +kernel) (by decide +kernel) (fun cl C s3 H2 ex=>(@jg _ _ (0) _ (show List.Nodup (["_law_row"]:List Str) from by decide +kernel) rfl (Or.inl rfl) (by walk_at "f"))) (fun cl C s3 H2 ex=>(@jts1 _ _ _ (by walk_at "D"))) (fun cl C s3 H2 ex=>(by walk_at "D")) (fun _=>rfl)) (nomark _)) (@js1 _ _ _ (@jret _ _ _ _ (@jb _ _ _ _))) (@js0 _)) (@jsc _ _ _ _ _ (@jsif _ _ _ _ _ _ _ _ (@tcmp _ _ _ _ _ _ _ _ (c_ne hr) (@jcomp _ _ _ _ _ _ _ (defScope Z0D) (["_law_shut"]) (["_law_script" , "_law_rows_here" , "_law_due" , "_law_text" , "_law_found"]) ([]) _ _ _ _ rfl rfl rfl (by walk_at "D") rfl rfl (by decide +kernel) (by decide +kernel) (by decide +kernel) (by decide +kernel) (fun cl C s3 H2 ex=>(@jg _ _ (0) _ (show List.Nodup (["_law_shut"]:List Str) from by decide +kernel) rfl (Or.inl rfl) (by walk_at "f"))) (fun cl C s3 H2 ex=>(@jts0 _)) (fun cl C s3 H2 ex=>(by walk_at "D")) (fun _=>rfl)) (@jcomp _ _ _ _ _ _ _ (defScope Z0D) (["_law_row"]) (["_law_script" , "_law_rows_here" , "_law_due" , "_law_text" , "_law_found"]) ([]) _ _ _ _ rfl rfl rfl (by walk_at "D") rfl rfl (by decide +kernel) (by decide +kernel) (by decide +kernel) (by decide +kernel) (fun cl C s3 H2 ex=>(@jg _ _ (0) _ (show List.Nodup (["_law_row"]:List Str) from by decide +kernel) rfl (Or.inl rfl) (by walk_at "f"))) (fun cl C s3 H2 ex=>(@jts1 _ _ _ (by walk_at "D"))) (fun cl C s3 H2 ex=>(by walk_at "D")) (fun _=>rfl)) (nomark _)) (@js1 _ _ _ (@jret _ _ _ _ (@jb _ _ _ _))) (@js0 _)) (@js1 _ _ _ (@jret _ _ _ _ (@jcmp _ _ _ _ _ _ _ _ (c_eq hr) (@jcomp _ _ _ _ _ _ _ (defScope Z0D) (["_law_dial"]) (["_law_script" , "_law_rows_here" , "_law_due" , "_law_text" , "_law_found"]) ([]) _ _ _ _ rfl rfl rfl (by walk_at "D") rfl rfl (by decide +kernel) (by decide +kernel) (by decide +kernel) (by decide +kernel) (fun cl C s3 H2 ex=>(@jg _ _ (0) _ (show List.Nodup (["_law_dial"]:List Str) from by decide +kernel) rfl (Or.inl rfl) (by walk_at "f"))) (fun cl C s3 H2 ex=>(@jts0 _)) (fun cl C s3 H2 ex=>(by walk_at "D")) (fun _=>rfl)) (@jcomp _ _ _ _ _ _ _ (defScope Z0D) (["_law_row"]) (["_law_script" , "_law_rows_here" , "_law_due" , "_law_text" , "_law_found"]) ([]) _ _ _ _ rfl rfl rfl (by walk_at "D") rfl rfl (by decide +kernel) (by decide +kernel) (by decide +kernel) (by decide +kernel) (fun cl C s3 H2 ex=>(@jg _ _ (0) _ (show List.Nodup (["_law_row"]:List Str) from by decide +kernel) rfl (Or.inl rfl) (by walk_at "f"))) (fun cl C s3 H2 ex=>(@jts1 _ _ _ (by walk_at "D"))) (fun cl C s3 H2 ex=>(by walk_at "D")) (fun _=>rfl)) (nomark _))))))))))))) Z48
end
theorem all_mk{l:PySem.W.OpenLaw}{w:World}{K:PySem.W.Frag}{h:Heap}{mg:Str->Option Value}{fa f0 f1 f2 f3 f4 f5 f6 f7 f8 f9 f10 f11 f12 f13 f14 f15 f16 f17 f18 f19 f20 f21 f22 f23 f24 f25 f26 f27 f28 f29 f30:Addr}(X:K.In h)(G:h.Ns mainGlobals mg) (hfa:mg "law" = some (.ref fa))
  {od0 an0 od1 an1 od2 an2 od3 an3 od4 an4 od5 an5 od6 an6 od7 an7 od8 an8 od9 an9 od10 an10 od11 an11 od12 an12 od13 an13 od14 an14 od15 an15 od16 an16 od17 an17 od18 an18 od19 an19 od20 an20 od21 an21 od22 an22 od23 an23 od24 an24 od25 an25 od26 an26 od27 an27 od28 an28 od29 an29 od30 an30:Option Addr} {sl0 sl1 sl2 sl3 sl4 sl5 sl6 sl7 sl8 sl9 sl10 sl11 sl12 sl13 sl14 sl15 sl16 sl17 sl18 sl19 sl20 sl21 sl22 sl23 sl24 sl25 sl26 sl27 sl28 sl29 sl30:Array (Option Value)} {oc0 kV0 dc0 pm0 cd0 ct0 oc1 kV1 dc1 pm1 cd1 ct1 oc2 kV2 dc2 pm2 cd2 ct2 oc3 kV3 dc3 pm3 cd3 ct3 oc4 kV4 dc4 pm4 cd4 ct4 oc5 kV5 dc5 pm5 cd5 ct5 oc6 kV6 dc6 pm6 cd6 ct6 oc7 kV7 dc7 pm7 cd7 ct7 oc8 kV8 dc8 pm8 cd8 ct8 oc9 kV9 dc9 pm9 cd9 ct9 oc10 kV10 dc10 pm10 cd10 ct10 oc11 kV11 dc11 pm11 cd11 ct11 oc12 kV12 dc12 pm12 cd12 ct12 oc13 kV13 dc13 pm13 cd13 ct13 oc14 kV14 dc14 pm14 cd14 ct14 oc15 kV15 dc15 pm15 cd15 ct15 oc16 kV16 dc16 pm16 cd16 ct16 oc17 kV17 dc17 pm17 cd17 ct17 oc18 kV18 dc18 pm18 cd18 ct18 oc19 kV19 dc19 pm19 cd19 ct19 oc20 kV20 dc20 pm20 cd20 ct20 oc21 kV21 dc21 pm21 cd21 ct21 oc22 kV22 dc22 pm22 cd22 ct22 oc23 kV23 dc23 pm23 cd23 ct23 oc24 kV24 dc24 pm24 cd24 ct24 oc25 kV25 dc25 pm25 cd25 ct25 oc26 kV26 dc26 pm26 cd26 ct26 oc27 kV27 dc27 pm27 cd27 ct27 oc28 kV28 dc28 pm28 cd28 ct28 oc29 kV29 dc29 pm29 cd29 ct29 oc30 kV30 dc30 pm30 cd30 ct30:Value}
  (a0:PySem.W.nsIn K mainGlobals "_law_cell_at" = some (some (.ref f0))) (l0:K.lookup f0=some ⟨oc0,od0,.func (PySem.W.fnOf "_law_cell_at" "_law_cell_at" (defArgs Z1a) (defBody Z1a) (defScope Z1a) .none kV0 dc0 pm0 an0 cd0 ct0),sl0⟩) (c0:PySem.W.codeIn K cd0 "_law_cell_at" = true) (k0:PySem.W.keepIn K (.ref f0)=true)
  (a1:PySem.W.nsIn K mainGlobals "_law_draw" = some (some (.ref f1))) (l1:K.lookup f1=some ⟨oc1,od1,.func (PySem.W.fnOf "_law_draw" "_law_draw" (defArgs Z1L) (defBody Z1L) (defScope Z1L) .none kV1 dc1 pm1 an1 cd1 ct1),sl1⟩) (c1:PySem.W.codeIn K cd1 "_law_draw" = true) (k1:PySem.W.keepIn K (.ref f1)=true)
  (a2:PySem.W.nsIn K mainGlobals "_law_drawn_row" = some (some (.ref f2))) (l2:K.lookup f2=some ⟨oc2,od2,.func (PySem.W.fnOf "_law_drawn_row" "_law_drawn_row" (defArgs Z0N) (defBody Z0N) (defScope Z0N) .none kV2 dc2 pm2 an2 cd2 ct2),sl2⟩) (c2:PySem.W.codeIn K cd2 "_law_drawn_row" = true) (k2:PySem.W.keepIn K (.ref f2)=true)
  (a3:PySem.W.nsIn K mainGlobals "_law_rows" = some (some (.ref f3))) (l3:K.lookup f3=some ⟨oc3,od3,.func (PySem.W.fnOf "_law_rows" "_law_rows" (defArgs Z1M) (defBody Z1M) (defScope Z1M) .none kV3 dc3 pm3 an3 cd3 ct3),sl3⟩) (c3:PySem.W.codeIn K cd3 "_law_rows" = true) (k3:PySem.W.keepIn K (.ref f3)=true)
  (a4:PySem.W.nsIn K mainGlobals "_law_first_bad" = some (some (.ref f4))) (l4:K.lookup f4=some ⟨oc4,od4,.func (PySem.W.fnOf "_law_first_bad" "_law_first_bad" (defArgs Z0O) (defBody Z0O) (defScope Z0O) .none kV4 dc4 pm4 an4 cd4 ct4),sl4⟩) (c4:PySem.W.codeIn K cd4 "_law_first_bad" = true) (k4:PySem.W.keepIn K (.ref f4)=true)
  (a5:PySem.W.nsIn K mainGlobals "number_of" = some (some (.ref f5))) (l5:K.lookup f5=some ⟨oc5,od5,.func (PySem.W.fnOf "number_of" "number_of" (defArgs Z0y) (defBody Z0y) (defScope Z0y) .none kV5 dc5 pm5 an5 cd5 ct5),sl5⟩) (c5:PySem.W.codeIn K cd5 "number_of" = true) (k5:PySem.W.keepIn K (.ref f5)=true)
  (a6:PySem.W.nsIn K mainGlobals "entry_of" = some (some (.ref f6))) (l6:K.lookup f6=some ⟨oc6,od6,.func (PySem.W.fnOf "entry_of" "entry_of" (defArgs Z0J) (defBody Z0J) (defScope Z0J) .none kV6 dc6 pm6 an6 cd6 ct6),sl6⟩) (c6:PySem.W.codeIn K cd6 "entry_of" = true) (k6:PySem.W.keepIn K (.ref f6)=true)
  (a7:PySem.W.nsIn K mainGlobals "read_row" = some (some (.ref f7))) (l7:K.lookup f7=some ⟨oc7,od7,.func (PySem.W.fnOf "read_row" "read_row" (defArgs Z0K) (defBody Z0K) (defScope Z0K) .none kV7 dc7 pm7 an7 cd7 ct7),sl7⟩) (c7:PySem.W.codeIn K cd7 "read_row" = true) (k7:PySem.W.keepIn K (.ref f7)=true)
  (a8:PySem.W.nsIn K mainGlobals "is_whole" = some (some (.ref f8))) (l8:K.lookup f8=some ⟨oc8,od8,.func (PySem.W.fnOf "is_whole" "is_whole" (defArgs Z0W) (defBody Z0W) (defScope Z0W) .none kV8 dc8 pm8 an8 cd8 ct8),sl8⟩) (c8:PySem.W.codeIn K cd8 "is_whole" = true) (k8:PySem.W.keepIn K (.ref f8)=true)
  (a9:PySem.W.nsIn K mainGlobals "is_hour" = some (some (.ref f9))) (l9:K.lookup f9=some ⟨oc9,od9,.func (PySem.W.fnOf "is_hour" "is_hour" (defArgs Z1b) (defBody Z1b) (defScope Z1b) .none kV9 dc9 pm9 an9 cd9 ct9),sl9⟩) (c9:PySem.W.codeIn K cd9 "is_hour" = true) (k9:PySem.W.keepIn K (.ref f9)=true)
  (a10:PySem.W.nsIn K mainGlobals "is_triple" = some (some (.ref f10))) (l10:K.lookup f10=some ⟨oc10,od10,.func (PySem.W.fnOf "is_triple" "is_triple" (defArgs Z0z) (defBody Z0z) (defScope Z0z) .none kV10 dc10 pm10 an10 cd10 ct10),sl10⟩) (c10:PySem.W.codeIn K cd10 "is_triple" = true) (k10:PySem.W.keepIn K (.ref f10)=true)
  (a11:PySem.W.nsIn K mainGlobals "is_near_triple" = some (some (.ref f11))) (l11:K.lookup f11=some ⟨oc11,od11,.func (PySem.W.fnOf "is_near_triple" "is_near_triple" (defArgs Z08) (defBody Z08) (defScope Z08) .none kV11 dc11 pm11 an11 cd11 ct11),sl11⟩) (c11:PySem.W.codeIn K cd11 "is_near_triple" = true) (k11:PySem.W.keepIn K (.ref f11)=true)
  (a12:PySem.W.nsIn K mainGlobals "is_sun_direction" = some (some (.ref f12))) (l12:K.lookup f12=some ⟨oc12,od12,.func (PySem.W.fnOf "is_sun_direction" "is_sun_direction" (defArgs Z0b) (defBody Z0b) (defScope Z0b) .none kV12 dc12 pm12 an12 cd12 ct12),sl12⟩) (c12:PySem.W.codeIn K cd12 "is_sun_direction" = true) (k12:PySem.W.keepIn K (.ref f12)=true)
  (a13:PySem.W.nsIn K mainGlobals "is_sun_tuple" = some (some (.ref f13))) (l13:K.lookup f13=some ⟨oc13,od13,.func (PySem.W.fnOf "is_sun_tuple" "is_sun_tuple" (defArgs Z0j) (defBody Z0j) (defScope Z0j) .none kV13 dc13 pm13 an13 cd13 ct13),sl13⟩) (c13:PySem.W.codeIn K cd13 "is_sun_tuple" = true) (k13:PySem.W.keepIn K (.ref f13)=true)
  (a14:PySem.W.nsIn K mainGlobals "look_at_sun" = some (some (.ref f14))) (l14:K.lookup f14=some ⟨oc14,od14,.func (PySem.W.fnOf "look_at_sun" "look_at_sun" (defArgs Z0o) (defBody Z0o) (defScope Z0o) .none kV14 dc14 pm14 an14 cd14 ct14),sl14⟩) (c14:PySem.W.codeIn K cd14 "look_at_sun" = true) (k14:PySem.W.keepIn K (.ref f14)=true)
  (a15:PySem.W.nsIn K mainGlobals "is_name" = some (some (.ref f15))) (l15:K.lookup f15=some ⟨oc15,od15,.func (PySem.W.fnOf "is_name" "is_name" (defArgs Z0R) (defBody Z0R) (defScope Z0R) .none kV15 dc15 pm15 an15 cd15 ct15),sl15⟩) (c15:PySem.W.codeIn K cd15 "is_name" = true) (k15:PySem.W.keepIn K (.ref f15)=true)
  (a16:PySem.W.nsIn K mainGlobals "cross_of" = some (some (.ref f16))) (l16:K.lookup f16=some ⟨oc16,od16,.func (PySem.W.fnOf "cross_of" "cross_of" (defArgs Z0X) (defBody Z0X) (defScope Z0X) .none kV16 dc16 pm16 an16 cd16 ct16),sl16⟩) (c16:PySem.W.codeIn K cd16 "cross_of" = true) (k16:PySem.W.keepIn K (.ref f16)=true)
  (a17:PySem.W.nsIn K mainGlobals "front_of" = some (some (.ref f17))) (l17:K.lookup f17=some ⟨oc17,od17,.func (PySem.W.fnOf "front_of" "front_of" (defArgs Z0Y) (defBody Z0Y) (defScope Z0Y) .none kV17 dc17 pm17 an17 cd17 ct17),sl17⟩) (c17:PySem.W.codeIn K cd17 "front_of" = true) (k17:PySem.W.keepIn K (.ref f17)=true)
  (a18:PySem.W.nsIn K mainGlobals "look_at_plate" = some (some (.ref f18))) (l18:K.lookup f18=some ⟨oc18,od18,.func (PySem.W.fnOf "look_at_plate" "look_at_plate" (defArgs Z0e) (defBody Z0e) (defScope Z0e) .none kV18 dc18 pm18 an18 cd18 ct18),sl18⟩) (c18:PySem.W.codeIn K cd18 "look_at_plate" = true) (k18:PySem.W.keepIn K (.ref f18)=true)
  (a19:PySem.W.nsIn K mainGlobals "is_plate" = some (some (.ref f19))) (l19:K.lookup f19=some ⟨oc19,od19,.func (PySem.W.fnOf "is_plate" "is_plate" (defArgs Z0Z) (defBody Z0Z) (defScope Z0Z) .none kV19 dc19 pm19 an19 cd19 ct19),sl19⟩) (c19:PySem.W.codeIn K cd19 "is_plate" = true) (k19:PySem.W.keepIn K (.ref f19)=true)
  (a20:PySem.W.nsIn K mainGlobals "triple_less" = some (some (.ref f20))) (l20:K.lookup f20=some ⟨oc20,od20,.func (PySem.W.fnOf "triple_less" "triple_less" (defArgs Z0p) (defBody Z0p) (defScope Z0p) .none kV20 dc20 pm20 an20 cd20 ct20),sl20⟩) (c20:PySem.W.codeIn K cd20 "triple_less" = true) (k20:PySem.W.keepIn K (.ref f20)=true)
  (a21:PySem.W.nsIn K mainGlobals "dot_of" = some (some (.ref f21))) (l21:K.lookup f21=some ⟨oc21,od21,.func (PySem.W.fnOf "dot_of" "dot_of" (defArgs Z1k) (defBody Z1k) (defScope Z1k) .none kV21 dc21 pm21 an21 cd21 ct21),sl21⟩) (c21:PySem.W.codeIn K cd21 "dot_of" = true) (k21:PySem.W.keepIn K (.ref f21)=true)
  (a22:PySem.W.nsIn K mainGlobals "is_ahead" = some (some (.ref f22))) (l22:K.lookup f22=some ⟨oc22,od22,.func (PySem.W.fnOf "is_ahead" "is_ahead" (defArgs Z10) (defBody Z10) (defScope Z10) .none kV22 dc22 pm22 an22 cd22 ct22),sl22⟩) (c22:PySem.W.codeIn K cd22 "is_ahead" = true) (k22:PySem.W.keepIn K (.ref f22)=true)
  (a23:PySem.W.nsIn K mainGlobals "is_tip" = some (some (.ref f23))) (l23:K.lookup f23=some ⟨oc23,od23,.func (PySem.W.fnOf "is_tip" "is_tip" (defArgs Z1l) (defBody Z1l) (defScope Z1l) .none kV23 dc23 pm23 an23 cd23 ct23),sl23⟩) (c23:PySem.W.codeIn K cd23 "is_tip" = true) (k23:PySem.W.keepIn K (.ref f23)=true)
  (a24:PySem.W.nsIn K mainGlobals "can_stand" = some (some (.ref f24))) (l24:K.lookup f24=some ⟨oc24,od24,.func (PySem.W.fnOf "can_stand" "can_stand" (defArgs Z0P) (defBody Z0P) (defScope Z0P) .none kV24 dc24 pm24 an24 cd24 ct24),sl24⟩) (c24:PySem.W.codeIn K cd24 "can_stand" = true) (k24:PySem.W.keepIn K (.ref f24)=true)
  (a25:PySem.W.nsIn K mainGlobals "look_at_one_kind" = some (some (.ref f25))) (l25:K.lookup f25=some ⟨oc25,od25,.func (PySem.W.fnOf "look_at_one_kind" "look_at_one_kind" (defArgs Z0c) (defBody Z0c) (defScope Z0c) .none kV25 dc25 pm25 an25 cd25 ct25),sl25⟩) (c25:PySem.W.codeIn K cd25 "look_at_one_kind" = true) (k25:PySem.W.keepIn K (.ref f25)=true)
  (a26:PySem.W.nsIn K mainGlobals "look_at_yard" = some (some (.ref f26))) (l26:K.lookup f26=some ⟨oc26,od26,.func (PySem.W.fnOf "look_at_yard" "look_at_yard" (defArgs Z0k) (defBody Z0k) (defScope Z0k) .none kV26 dc26 pm26 an26 cd26 ct26),sl26⟩) (c26:PySem.W.codeIn K cd26 "look_at_yard" = true) (k26:PySem.W.keepIn K (.ref f26)=true)
  (a27:PySem.W.nsIn K mainGlobals "is_yard" = some (some (.ref f27))) (l27:K.lookup f27=some ⟨oc27,od27,.func (PySem.W.fnOf "is_yard" "is_yard" (defArgs Z1c) (defBody Z1c) (defScope Z1c) .none kV27 dc27 pm27 an27 cd27 ct27),sl27⟩) (c27:PySem.W.codeIn K cd27 "is_yard" = true) (k27:PySem.W.keepIn K (.ref f27)=true)
  (a28:PySem.W.nsIn K mainGlobals "read_yard" = some (some (.ref f28))) (l28:K.lookup f28=some ⟨oc28,od28,.func (PySem.W.fnOf "read_yard" "read_yard" (defArgs Z0Q) (defBody Z0Q) (defScope Z0Q) .none kV28 dc28 pm28 an28 cd28 ct28),sl28⟩) (c28:PySem.W.codeIn K cd28 "read_yard" = true) (k28:PySem.W.keepIn K (.ref f28)=true)
  (a29:PySem.W.nsIn K mainGlobals "_law_refused" = some (some (.ref f29))) (l29:K.lookup f29=some ⟨oc29,od29,.func (PySem.W.fnOf "_law_refused" "_law_refused" (defArgs Z1d) (defBody Z1d) (defScope Z1d) .none kV29 dc29 pm29 an29 cd29 ct29),sl29⟩) (c29:PySem.W.codeIn K cd29 "_law_refused" = true) (k29:PySem.W.keepIn K (.ref f29)=true)
  (a30:PySem.W.nsIn K mainGlobals "law" = some (some (.ref f30))) (l30:K.lookup f30=some ⟨oc30,od30,.func (PySem.W.fnOf "law" "law" (defArgs Z0D) (defBody Z0D) (defScope Z0D) .none kV30 dc30 pm30 an30 cd30 ct30),sl30⟩) (c30:PySem.W.codeIn K cd30 "law" = true) (k30:PySem.W.keepIn K (.ref f30)=true)
  (z0:PySem.W.nsIn K mainGlobals "len" = some none)
  (z1:PySem.W.nsIn K mainGlobals "range" = some none)
  (z2:PySem.W.nsIn K mainGlobals "max" = some none)
  (z3:PySem.W.nsIn K mainGlobals "str" = some none)
  (z4:PySem.W.nsIn K mainGlobals "int" = some none)
  (z5:PySem.W.nsIn K mainGlobals "enumerate" = some none)
  (z6:PySem.W.nsIn K mainGlobals "all" = some none)
  (z7:PySem.W.nsIn K mainGlobals "tuple" = some none)
  (z8:PySem.W.nsIn K mainGlobals "isinstance" = some none)
  (z9:PySem.W.nsIn K mainGlobals "bool" = some none)
  (z10:PySem.W.nsIn K mainGlobals "list" = some none)
  (z11:PySem.W.nsIn K mainGlobals "any" = some none)
  (z12:PySem.W.nsIn K mainGlobals "ValueError" = some none)
  {ctk0:Tok} (cg0:PySem.W.nsIn K mainGlobals "MOST_FIGURES" = some (some (.int 40 ctk0)))
  {ct1_0 ct1_1 ct1_2:Tok} {cp1:Addr} {cn1:Nat} {csl1:Array (Option Value)} (cg1:PySem.W.nsIn K mainGlobals "KINDS" = some (some (.ref cp1))) (ch1:K.lookup cp1=some ⟨.type "tuple", none,.seq #[.str ⟨#[115,117,110]⟩ ct1_0,.str ⟨#[119,97,108,108]⟩ ct1_1,.str ⟨#[100,105,97,108]⟩ ct1_2] cn1,csl1⟩)
  {cp2:Addr} (cg2:PySem.W.nsIn K mainGlobals "NUMBERS_IN" = some (some (.ref cp2))) (ch2:tabIn K cp2 d_NUMBERS_IN=true)
  {ctk3:Tok} (cg3:PySem.W.nsIn K mainGlobals "LAST_HOUR" = some (some (.int 9999 ctk3)))
  {ctk4:Tok} (cg4:PySem.W.nsIn K mainGlobals "FARTHEST" = some (some (.int 1000000000 ctk4)))
  {ct5_0 ct5_1 ct5_2:Tok} {cp5:Addr} {cod5:Option Addr} {cn5:Nat} {csl5:Array (Option Value)} (cg5:PySem.W.nsIn K mainGlobals "NOUGHT" = some (some (.ref cp5))) (ch5:K.lookup cp5=some ⟨.type "tuple", cod5,.seq #[.int 0 ct5_0,.int 0 ct5_1,.int 0 ct5_2] cn5,csl5⟩)
  {ctk6:Tok} (cg6:PySem.W.nsIn K mainGlobals "MOST_HOURS" = some (some (.int 80 ctk6)))
  {ctk7:Tok} (cg7:PySem.W.nsIn K mainGlobals "LONGEST_NAME" = some (some (.int 8 ctk7)))
  {ctk8:Tok} (cg8:PySem.W.nsIn K mainGlobals "MOST_OF_A_KIND" = some (some (.int 20 ctk8)))
  {FI_NoRow FI_NoSun FI_NoYard:Addr} {odI_NoRow anI_NoRow odI_NoSun anI_NoSun odI_NoYard anI_NoYard:Option Addr} {kVI_NoRow dcI_NoRow pmI_NoRow cdI_NoRow ctI_NoRow kVI_NoSun dcI_NoSun pmI_NoSun cdI_NoSun ctI_NoSun kVI_NoYard dcI_NoYard pmI_NoYard cdI_NoYard ctI_NoYard:Value} {slI_NoRow slI_NoSun slI_NoYard:Array (Option Value)} {CD_NoRow CD_NoSun CD_NoYard:ClassData}
  {D_NoPlate D_NoRow D_NoSun D_NoYard D_YardError D_NoBack D_NoHour D_NoName D_NoNumber D_NoSay D_NotLit D_TooMany:Addr} (dd_NoPlate:PySem.W.nsIn K mainGlobals "NoPlate" = some (some (.ref D_NoPlate))) (dd_NoRow:PySem.W.nsIn K mainGlobals "NoRow" = some (some (.ref D_NoRow))) (dd_NoSun:PySem.W.nsIn K mainGlobals "NoSun" = some (some (.ref D_NoSun))) (dd_NoYard:PySem.W.nsIn K mainGlobals "NoYard" = some (some (.ref D_NoYard))) (dd_YardError:PySem.W.nsIn K mainGlobals "YardError" = some (some (.ref D_YardError))) (dd_NoBack:PySem.W.nsIn K mainGlobals "NoBack" = some (some (.ref D_NoBack))) (dd_NoHour:PySem.W.nsIn K mainGlobals "NoHour" = some (some (.ref D_NoHour))) (dd_NoName:PySem.W.nsIn K mainGlobals "NoName" = some (some (.ref D_NoName))) (dd_NoNumber:PySem.W.nsIn K mainGlobals "NoNumber" = some (some (.ref D_NoNumber))) (dd_NoSay:PySem.W.nsIn K mainGlobals "NoSay" = some (some (.ref D_NoSay))) (dd_NotLit:PySem.W.nsIn K mainGlobals "NotLit" = some (some (.ref D_NotLit))) (dd_TooMany:PySem.W.nsIn K mainGlobals "TooMany" = some (some (.ref D_TooMany))) (xi_NoPlate:PySem.W.excIn K D_NoPlate [.type "ValueError", .type "Exception", .type "BaseException", .type "object"] "ValueError.__new__" = true) (fa_NoPlate:PySem.W.findIn K (.ref D_NoPlate) "__getattribute__" = some (some (.builtin "BaseException.__getattribute__"))) (fb_NoPlate:PySem.W.findIn K (.ref D_NoPlate) "__class__" = some (some (.builtin "object.__class__"))) (fc_NoPlate:PySem.W.findIn K (.ref D_NoPlate) "__getattr__" = some none) (fd_NoPlate:PySem.W.subIn K (.ref D_NoPlate) (.type "BaseException")=some true) (fe_NoPlate:PySem.W.subIn K (.ref D_NoPlate) (.type "object")=some true) (em_NoPlate_NoPlate:PySem.W.exmOne K (.ref D_NoPlate) (.ref D_NoPlate)=some true) (em_YardError_NoPlate:PySem.W.exmOne K (.ref D_NoPlate) (.ref D_YardError)=some true) (ki_NoRow_NoPlate:PySem.W.kitOne K (.ref D_NoPlate) (.ref D_NoRow)=some false) (ki_ValueError_NoPlate:PySem.W.kitOne K (.ref D_NoPlate) (.type "ValueError")=some true) (ki_NoBack_NoHour_NoName_NoNumber_NoPlate_NoSay_NoSun_NotLit_NoYard_TooMany_NoPlate:PySem.W.kitAny K (.ref D_NoPlate) [.ref D_NoBack,.ref D_NoHour,.ref D_NoName,.ref D_NoNumber,.ref D_NoPlate,.ref D_NoSay,.ref D_NoSun,.ref D_NotLit,.ref D_NoYard,.ref D_TooMany]=some true) (ff_NoRow:PySem.W.findIn K (.ref D_NoRow) "__init__" = some (some (.ref FI_NoRow))) (xi_NoRow:ownIn K D_NoRow FI_NoRow=true) (li_NoRow:K.lookup FI_NoRow=some ⟨.type "function", odI_NoRow,.func (PySem.W.fnOf "__init__" "NoRow.__init__" (defArgs ini_NoRow) (defBody ini_NoRow) (defScope ini_NoRow) .none kVI_NoRow dcI_NoRow pmI_NoRow anI_NoRow cdI_NoRow ctI_NoRow),slI_NoRow⟩) (lc_NoRow:PySem.W.codeIn K cdI_NoRow "NoRow.__init__" = true) (lk_NoRow:PySem.W.keepIn K (.ref FI_NoRow)=true) (ci_NoRow:PySem.W.clsIn K D_NoRow=some CD_NoRow) (mr_NoRow:CD_NoRow.mro=List.map Value.ref [D_NoRow,D_YardError]++mroVE) (hd_NoRow:CD_NoRow.hasDict=true) (sa_NoRow:PySem.W.findIn K (.ref D_NoRow) "__setattr__" = some (some (.builtin "object.__setattr__"))) (na_NoRow:PySem.W.findIn K (.ref D_NoRow) "row" = some none) (sp_NoRow:PySem.W.specialIn K (.ref D_YardError) "__getattribute__" = some (some (.builtin "type.__getattribute__"))) (rd_NoRow:PySem.W.readsIn K D_YardError (.type "type")=true) (fk_NoRow:PySem.W.findCls K (.ref D_YardError) (.type "type") "__init__" = some (.val (.builtin "ValueError.__init__"))) (fa_NoRow:PySem.W.findIn K (.ref D_NoRow) "__getattribute__" = some (some (.builtin "BaseException.__getattribute__"))) (fb_NoRow:PySem.W.findIn K (.ref D_NoRow) "__class__" = some (some (.builtin "object.__class__"))) (fc_NoRow:PySem.W.findIn K (.ref D_NoRow) "__getattr__" = some none) (fd_NoRow:PySem.W.subIn K (.ref D_NoRow) (.type "BaseException")=some true) (fe_NoRow:PySem.W.subIn K (.ref D_NoRow) (.type "object")=some true) (em_YardError_NoRow:PySem.W.exmOne K (.ref D_NoRow) (.ref D_YardError)=some true) (ki_NoRow_NoRow:PySem.W.kitOne K (.ref D_NoRow) (.ref D_NoRow)=some true) (ki_ValueError_NoRow:PySem.W.kitOne K (.ref D_NoRow) (.type "ValueError")=some true) (ki_NoBack_NoHour_NoName_NoNumber_NoPlate_NoSay_NoSun_NotLit_NoYard_TooMany_NoRow:PySem.W.kitAny K (.ref D_NoRow) [.ref D_NoBack,.ref D_NoHour,.ref D_NoName,.ref D_NoNumber,.ref D_NoPlate,.ref D_NoSay,.ref D_NoSun,.ref D_NotLit,.ref D_NoYard,.ref D_TooMany]=some false) (ff_NoSun:PySem.W.findIn K (.ref D_NoSun) "__init__" = some (some (.ref FI_NoSun))) (xi_NoSun:ownIn K D_NoSun FI_NoSun=true) (li_NoSun:K.lookup FI_NoSun=some ⟨.type "function", odI_NoSun,.func (PySem.W.fnOf "__init__" "NoSun.__init__" (defArgs ini_NoSun) (defBody ini_NoSun) (defScope ini_NoSun) .none kVI_NoSun dcI_NoSun pmI_NoSun anI_NoSun cdI_NoSun ctI_NoSun),slI_NoSun⟩) (lc_NoSun:PySem.W.codeIn K cdI_NoSun "NoSun.__init__" = true) (lk_NoSun:PySem.W.keepIn K (.ref FI_NoSun)=true) (ci_NoSun:PySem.W.clsIn K D_NoSun=some CD_NoSun) (mr_NoSun:CD_NoSun.mro=List.map Value.ref [D_NoSun,D_YardError]++mroVE) (hd_NoSun:CD_NoSun.hasDict=true) (sa_NoSun:PySem.W.findIn K (.ref D_NoSun) "__setattr__" = some (some (.builtin "object.__setattr__"))) (na_NoSun:PySem.W.findIn K (.ref D_NoSun) "at" = some none) (sp_NoSun:PySem.W.specialIn K (.ref D_YardError) "__getattribute__" = some (some (.builtin "type.__getattribute__"))) (rd_NoSun:PySem.W.readsIn K D_YardError (.type "type")=true) (fk_NoSun:PySem.W.findCls K (.ref D_YardError) (.type "type") "__init__" = some (.val (.builtin "ValueError.__init__"))) (fa_NoSun:PySem.W.findIn K (.ref D_NoSun) "__getattribute__" = some (some (.builtin "BaseException.__getattribute__"))) (fb_NoSun:PySem.W.findIn K (.ref D_NoSun) "__class__" = some (some (.builtin "object.__class__"))) (fc_NoSun:PySem.W.findIn K (.ref D_NoSun) "__getattr__" = some none) (fd_NoSun:PySem.W.subIn K (.ref D_NoSun) (.type "BaseException")=some true) (fe_NoSun:PySem.W.subIn K (.ref D_NoSun) (.type "object")=some true) (em_NoSun__NoYard_NoSun:PySem.W.exmAny K (.ref D_NoSun) [.ref D_NoSun,.ref D_NoYard]=some true) (em_YardError_NoSun:PySem.W.exmOne K (.ref D_NoSun) (.ref D_YardError)=some true) (ki_NoRow_NoSun:PySem.W.kitOne K (.ref D_NoSun) (.ref D_NoRow)=some false) (ki_ValueError_NoSun:PySem.W.kitOne K (.ref D_NoSun) (.type "ValueError")=some true) (ki_NoBack_NoHour_NoName_NoNumber_NoPlate_NoSay_NoSun_NotLit_NoYard_TooMany_NoSun:PySem.W.kitAny K (.ref D_NoSun) [.ref D_NoBack,.ref D_NoHour,.ref D_NoName,.ref D_NoNumber,.ref D_NoPlate,.ref D_NoSay,.ref D_NoSun,.ref D_NotLit,.ref D_NoYard,.ref D_TooMany]=some true) (ff_NoYard:PySem.W.findIn K (.ref D_NoYard) "__init__" = some (some (.ref FI_NoYard))) (xi_NoYard:ownIn K D_NoYard FI_NoYard=true) (li_NoYard:K.lookup FI_NoYard=some ⟨.type "function", odI_NoYard,.func (PySem.W.fnOf "__init__" "NoYard.__init__" (defArgs ini_NoYard) (defBody ini_NoYard) (defScope ini_NoYard) .none kVI_NoYard dcI_NoYard pmI_NoYard anI_NoYard cdI_NoYard ctI_NoYard),slI_NoYard⟩) (lc_NoYard:PySem.W.codeIn K cdI_NoYard "NoYard.__init__" = true) (lk_NoYard:PySem.W.keepIn K (.ref FI_NoYard)=true) (ci_NoYard:PySem.W.clsIn K D_NoYard=some CD_NoYard) (mr_NoYard:CD_NoYard.mro=List.map Value.ref [D_NoYard,D_YardError]++mroVE) (hd_NoYard:CD_NoYard.hasDict=true) (sa_NoYard:PySem.W.findIn K (.ref D_NoYard) "__setattr__" = some (some (.builtin "object.__setattr__"))) (na_NoYard:PySem.W.findIn K (.ref D_NoYard) "name" = some none) (sp_NoYard:PySem.W.specialIn K (.ref D_YardError) "__getattribute__" = some (some (.builtin "type.__getattribute__"))) (rd_NoYard:PySem.W.readsIn K D_YardError (.type "type")=true) (fk_NoYard:PySem.W.findCls K (.ref D_YardError) (.type "type") "__init__" = some (.val (.builtin "ValueError.__init__"))) (fa_NoYard:PySem.W.findIn K (.ref D_NoYard) "__getattribute__" = some (some (.builtin "BaseException.__getattribute__"))) (fb_NoYard:PySem.W.findIn K (.ref D_NoYard) "__class__" = some (some (.builtin "object.__class__"))) (fc_NoYard:PySem.W.findIn K (.ref D_NoYard) "__getattr__" = some none) (fd_NoYard:PySem.W.subIn K (.ref D_NoYard) (.type "BaseException")=some true) (fe_NoYard:PySem.W.subIn K (.ref D_NoYard) (.type "object")=some true) (em_NoSun__NoYard_NoYard:PySem.W.exmAny K (.ref D_NoYard) [.ref D_NoSun,.ref D_NoYard]=some true) (em_YardError_NoYard:PySem.W.exmOne K (.ref D_NoYard) (.ref D_YardError)=some true) (ki_NoRow_NoYard:PySem.W.kitOne K (.ref D_NoYard) (.ref D_NoRow)=some false) (ki_ValueError_NoYard:PySem.W.kitOne K (.ref D_NoYard) (.type "ValueError")=some true) (ki_NoBack_NoHour_NoName_NoNumber_NoPlate_NoSay_NoSun_NotLit_NoYard_TooMany_NoYard:PySem.W.kitAny K (.ref D_NoYard) [.ref D_NoBack,.ref D_NoHour,.ref D_NoName,.ref D_NoNumber,.ref D_NoPlate,.ref D_NoSay,.ref D_NoSun,.ref D_NotLit,.ref D_NoYard,.ref D_TooMany]=some true)
  : ∃fd:FuncData,(∀(s:Shared)(v:Value),BindsTo s fd ⟨[v],[]⟩ [("_law_script", v)])/\∀base:Heap,K.In base->base.Ns mainGlobals mg->FnOk l.prog w K mg base CX0 12 fa fd ["_law_script"] (spT K 1 lawSp):=by
 have e:=hfa.symm.trans (PySem.W.mg_of X G a30)
 cases e
 have F0:=fun_mk (st:=Z1a) l0 c0 k0
 have F1:=fun_mk (st:=Z1L) l1 c1 k1
 have F2:=fun_mk (st:=Z0N) l2 c2 k2
 have F3:=fun_mk (st:=Z1M) l3 c3 k3
 have F4:=fun_mk (st:=Z0O) l4 c4 k4
 have F5:=fun_mk (st:=Z0y) l5 c5 k5
 have F6:=fun_mk (st:=Z0J) l6 c6 k6
 have F7:=fun_mk (st:=Z0K) l7 c7 k7
 have F8:=fun_mk (st:=Z0W) l8 c8 k8
 have F9:=fun_mk (st:=Z1b) l9 c9 k9
 have F10:=fun_mk (st:=Z0z) l10 c10 k10
 have F11:=fun_mk (st:=Z08) l11 c11 k11
 have F12:=fun_mk (st:=Z0b) l12 c12 k12
 have F13:=fun_mk (st:=Z0j) l13 c13 k13
 have F14:=fun_mk (st:=Z0o) l14 c14 k14
 have F15:=fun_mk (st:=Z0R) l15 c15 k15
 have F16:=fun_mk (st:=Z0X) l16 c16 k16
 have F17:=fun_mk (st:=Z0Y) l17 c17 k17
 have F18:=fun_mk (st:=Z0e) l18 c18 k18
 have F19:=fun_mk (st:=Z0Z) l19 c19 k19
 have F20:=fun_mk (st:=Z0p) l20 c20 k20
 have F21:=fun_mk (st:=Z1k) l21 c21 k21
 have F22:=fun_mk (st:=Z10) l22 c22 k22
 have F23:=fun_mk (st:=Z1l) l23 c23 k23
 have F24:=fun_mk (st:=Z0P) l24 c24 k24
 have F25:=fun_mk (st:=Z0c) l25 c25 k25
 have F26:=fun_mk (st:=Z0k) l26 c26 k26
 have F27:=fun_mk (st:=Z1c) l27 c27 k27
 have F28:=fun_mk (st:=Z0Q) l28 c28 k28
 have F29:=fun_mk (st:=Z1d) l29 c29 k29
 have F30:=fun_mk (st:=Z0D) l30 c30 k30
 have z_len:=PySem.W.mg_none_of X G z0
 have z_range:=PySem.W.mg_none_of X G z1
 have z_max:=PySem.W.mg_none_of X G z2
 have z_str:=PySem.W.mg_none_of X G z3
 have z_int:=PySem.W.mg_none_of X G z4
 have z_enumerate:=PySem.W.mg_none_of X G z5
 have z_all:=PySem.W.mg_none_of X G z6
 have z_tuple:=PySem.W.mg_none_of X G z7
 have z_isinstance:=PySem.W.mg_none_of X G z8
 have z_bool:=PySem.W.mg_none_of X G z9
 have z_list:=PySem.W.mg_none_of X G z10
 have z_any:=PySem.W.mg_none_of X G z11
 have z_ValueError:=PySem.W.mg_none_of X G z12
 have g_MOST_FIGURES:GlC K mg "MOST_FIGURES" c_MOST_FIGURES:=⟨_,PySem.W.mg_of X G cg0,.int _,⟨_,rfl⟩,fun H=>rep_int.mpr rfl⟩
 have g_KINDS:GlT K mg "KINDS" t_KINDS:=⟨_,_,PySem.W.mg_of X G cg1,ch1,rfl,rfl,fun H=>rep_tup.mpr ⟨_,[.str ⟨#[115,117,110]⟩,.str ⟨#[119,97,108,108]⟩,.str ⟨#[100,105,97,108]⟩],rfl,.inr ⟨_,_,_,ch1,rfl,rfl,few (show 3<=1000 by decide),.cons ⟨_,rfl⟩ (.cons ⟨_,rfl⟩ (.cons ⟨_,rfl⟩ (.nil)))⟩,.cons (rep_str.mpr (by first|rfl|kernel_rfl)) (.cons (rep_str.mpr (by first|rfl|kernel_rfl)) (.cons (rep_str.mpr (by first|rfl|kernel_rfl)) (reps_nil.mpr rfl)))⟩⟩
 have g_NUMBERS_IN:GlD K mg "NUMBERS_IN" d_NUMBERS_IN:=⟨_,PySem.W.mg_of X G cg2,ch2⟩
 have g_LAST_HOUR:GlC K mg "LAST_HOUR" c_LAST_HOUR:=⟨_,PySem.W.mg_of X G cg3,.int _,⟨_,rfl⟩,fun H=>rep_int.mpr rfl⟩
 have g_FARTHEST:GlC K mg "FARTHEST" c_FARTHEST:=⟨_,PySem.W.mg_of X G cg4,.int _,⟨_,rfl⟩,fun H=>rep_int.mpr rfl⟩
 have g_NOUGHT:GlC K mg "NOUGHT" c_NOUGHT:=⟨_,PySem.W.mg_of X G cg5,.ref _,rfl,fun H=>rep_tup.mpr ⟨_,[.int 0,.int 0,.int 0],rfl,.inr ⟨_,_,_,ch5,rfl,rfl,few (show 3<=1000 by decide),.cons ⟨_,rfl⟩ (.cons ⟨_,rfl⟩ (.cons ⟨_,rfl⟩ (.nil)))⟩,.cons (rep_int.mpr rfl) (.cons (rep_int.mpr rfl) (.cons (rep_int.mpr rfl) (reps_nil.mpr rfl)))⟩⟩
 have g_MOST_HOURS:GlC K mg "MOST_HOURS" c_MOST_HOURS:=⟨_,PySem.W.mg_of X G cg6,.int _,⟨_,rfl⟩,fun H=>rep_int.mpr rfl⟩
 have g_LONGEST_NAME:GlC K mg "LONGEST_NAME" c_LONGEST_NAME:=⟨_,PySem.W.mg_of X G cg7,.int _,⟨_,rfl⟩,fun H=>rep_int.mpr rfl⟩
 have g_MOST_OF_A_KIND:GlC K mg "MOST_OF_A_KIND" c_MOST_OF_A_KIND:=⟨_,PySem.W.mg_of X G cg8,.int _,⟨_,rfl⟩,fun H=>rep_int.mpr rfl⟩
 have mc_NoPlate:=PySem.W.mg_of X G dd_NoPlate
 have mc_NoRow:=PySem.W.mg_of X G dd_NoRow
 have mc_NoSun:=PySem.W.mg_of X G dd_NoSun
 have mc_NoYard:=PySem.W.mg_of X G dd_NoYard
 have mc_YardError:=PySem.W.mg_of X G dd_YardError
 have mc_NoBack:=PySem.W.mg_of X G dd_NoBack
 have mc_NoHour:=PySem.W.mg_of X G dd_NoHour
 have mc_NoName:=PySem.W.mg_of X G dd_NoName
 have mc_NoNumber:=PySem.W.mg_of X G dd_NoNumber
 have mc_NoSay:=PySem.W.mg_of X G dd_NoSay
 have mc_NotLit:=PySem.W.mg_of X G dd_NotLit
 have mc_TooMany:=PySem.W.mg_of X G dd_TooMany
 have tl_NoPlate:ClsTold K D_NoPlate:=⟨fa_NoPlate,fb_NoPlate,fc_NoPlate,fd_NoPlate,fe_NoPlate⟩
 have tl_NoRow:ClsTold K D_NoRow:=⟨fa_NoRow,fb_NoRow,fc_NoRow,fd_NoRow,fe_NoRow⟩
 have tl_NoSun:ClsTold K D_NoSun:=⟨fa_NoSun,fb_NoSun,fc_NoSun,fd_NoSun,fe_NoSun⟩
 have tl_NoYard:ClsTold K D_NoYard:=⟨fa_NoYard,fb_NoYard,fc_NoYard,fd_NoYard,fe_NoYard⟩
 have x_NoPlate:ExcCls K mg "NoPlate" := ⟨D_NoPlate,dd_NoPlate,mc_NoPlate,xi_NoPlate⟩
 have fI_NoSun:=fun_mk (st:=ini_NoSun) li_NoSun lc_NoSun lk_NoSun
 have x_NoSun:FldCls K mg "NoSun" "at" := ini_fld (st:=ini_NoSun) dd_NoSun mc_NoSun xi_NoSun fI_NoSun ⟨_,li_NoSun,rfl⟩ (fI_NoSun.binds (ps:=["self", "at"]) fun _ _ _ _ _ _ us hl=>args2 hl fun _ _=>rfl) rfl sc_ini_NoSun (.inl rfl) (.inl rfl) rfl mc_YardError sp_NoSun rd_NoSun fk_NoSun sa_NoSun na_NoSun ci_NoSun mr_NoSun hd_NoSun (by decide) rfl rfl rfl rfl rfl (fun _=>rfl) (fun _=>rfl)
 have fI_NoYard:=fun_mk (st:=ini_NoYard) li_NoYard lc_NoYard lk_NoYard
 have x_NoYard:FldCls K mg "NoYard" "name" := ini_fld (st:=ini_NoYard) dd_NoYard mc_NoYard xi_NoYard fI_NoYard ⟨_,li_NoYard,rfl⟩ (fI_NoYard.binds (ps:=["self", "name"]) fun _ _ _ _ _ _ us hl=>args2 hl fun _ _=>rfl) rfl sc_ini_NoYard (.inl rfl) (.inl rfl) rfl mc_YardError sp_NoYard rd_NoYard fk_NoYard sa_NoYard na_NoYard ci_NoYard mr_NoYard hd_NoYard (by decide) rfl rfl rfl rfl rfl (fun _=>rfl) (fun _=>rfl)
 have fI_NoRow:=fun_mk (st:=ini_NoRow) li_NoRow lc_NoRow lk_NoRow
 have x_NoRow:FldCls K mg "NoRow" "row" := ini_fld (st:=ini_NoRow) dd_NoRow mc_NoRow xi_NoRow fI_NoRow ⟨_,li_NoRow,rfl⟩ (fI_NoRow.binds (ps:=["self", "row"]) fun _ _ _ _ _ _ us hl=>args2 hl fun _ _=>rfl) rfl sc_ini_NoRow (.inl rfl) (.inl rfl) rfl mc_YardError sp_NoRow rd_NoRow fk_NoRow sa_NoRow na_NoRow ci_NoRow mr_NoRow hd_NoRow (by decide) rfl rfl rfl rfl rfl (fun _=>rfl) (fun _=>rfl)
 have gf_row:GetF K "row" ["NoRow"]:=(getF_cons dd_NoRow ⟨fa_NoRow,fc_NoRow,ci_NoRow,mr_NoRow,hd_NoRow,na_NoRow⟩ getF_nil)
 have ct_NoPlate:Catches K mg "NoPlate" ["NoPlate"]:=catches_cons dd_NoPlate mc_NoPlate em_NoPlate_NoPlate (catches_nil mc_NoPlate)
 have ct_NoSun__NoYard:Catches2 K mg "NoSun" "NoYard" ["NoSun", "NoYard"]:=catches2_cons dd_NoSun mc_NoSun mc_NoYard em_NoSun__NoYard_NoSun (catches2_cons dd_NoYard mc_NoSun mc_NoYard em_NoSun__NoYard_NoYard (catches2_nil mc_NoSun mc_NoYard))
 have ct_YardError:Catches K mg "YardError" ["NoPlate", "NoRow", "NoSun", "NoYard"]:=catches_cons dd_NoPlate mc_YardError em_YardError_NoPlate (catches_cons dd_NoRow mc_YardError em_YardError_NoRow (catches_cons dd_NoSun mc_YardError em_YardError_NoSun (catches_cons dd_NoYard mc_YardError em_YardError_NoYard (catches_nil mc_YardError))))
 have an_NoRow:=ans1_cons dd_NoPlate tl_NoPlate (isCls_of xi_NoPlate) ki_NoRow_NoPlate (ans1_cons dd_NoRow tl_NoRow (isCls_own xi_NoRow) ki_NoRow_NoRow (ans1_cons dd_NoSun tl_NoSun (isCls_own xi_NoSun) ki_NoRow_NoSun (ans1_cons dd_NoYard tl_NoYard (isCls_own xi_NoYard) ki_NoRow_NoYard (ans1_nil))))
 have an_ValueError:=ans1_cons dd_NoPlate tl_NoPlate (isCls_of xi_NoPlate) ki_ValueError_NoPlate (ans1_cons dd_NoRow tl_NoRow (isCls_own xi_NoRow) ki_ValueError_NoRow (ans1_cons dd_NoSun tl_NoSun (isCls_own xi_NoSun) ki_ValueError_NoSun (ans1_cons dd_NoYard tl_NoYard (isCls_own xi_NoYard) ki_ValueError_NoYard (ans1_nil))))
 have an_NoBack_NoHour_NoName_NoNumber_NoPlate_NoSay_NoSun_NotLit_NoYard_TooMany:=ansN_cons dd_NoPlate tl_NoPlate (isCls_of xi_NoPlate) ki_NoBack_NoHour_NoName_NoNumber_NoPlate_NoSay_NoSun_NotLit_NoYard_TooMany_NoPlate (ansN_cons dd_NoRow tl_NoRow (isCls_own xi_NoRow) ki_NoBack_NoHour_NoName_NoNumber_NoPlate_NoSay_NoSun_NotLit_NoYard_TooMany_NoRow (ansN_cons dd_NoSun tl_NoSun (isCls_own xi_NoSun) ki_NoBack_NoHour_NoName_NoNumber_NoPlate_NoSay_NoSun_NotLit_NoYard_TooMany_NoSun (ansN_cons dd_NoYard tl_NoYard (isCls_own xi_NoYard) ki_NoBack_NoHour_NoName_NoNumber_NoPlate_NoSay_NoSun_NotLit_NoYard_TooMany_NoYard (ansN_nil))))
 refine⟨PySem.W.fnOf "law" "law" (defArgs Z0D) (defBody Z0D) (defScope Z0D) .none kV30 dc30 pm30 an30 cd30 ct30,fun s v=>.of_eq rfl,fun base _ _=>?_⟩
 have Z2q:=Z3R (P:=l.prog) (w:=w) (base:=base) F0 (PySem.W.mg_of X G a0) z_len
 have Z2h:=Z46 (P:=l.prog) (w:=w) (base:=base) F1 (PySem.W.mg_of X G a1) z_range
 have Z1Y:=Z3j (P:=l.prog) (w:=w) (base:=base) F2 (PySem.W.mg_of X G a2) Z2h z_max z_str z_int
 have Z3C:=Z47 (P:=l.prog) (w:=w) (base:=base) F3 (PySem.W.mg_of X G a3) Z2q Z2h Z1Y z_range z_str z_enumerate z_len
 have Z1X:=Z3k (P:=l.prog) (w:=w) (base:=base) F4 (PySem.W.mg_of X G a4) z_len z_range
 have Z1U:=Z3l (P:=l.prog) (w:=w) (base:=base) F5 (PySem.W.mg_of X G a5) z_len z_all z_int z_str g_MOST_FIGURES
 have Z27:=Z3D (P:=l.prog) (w:=w) (base:=base) F6 (PySem.W.mg_of X G a6) z_len z_range z_tuple
 have Z2b:=Z3E (P:=l.prog) (w:=w) (base:=base) F7 (PySem.W.mg_of X G a7) Z1U Z27 z_len g_KINDS g_NUMBERS_IN
 have Z1p:=Z3F (P:=l.prog) (w:=w) (base:=base) F8 (PySem.W.mg_of X G a8) z_isinstance z_int z_bool
 have Z2r:=Z3T (P:=l.prog) (w:=w) (base:=base) F9 (PySem.W.mg_of X G a9) Z1p g_LAST_HOUR
 have Z1V:=Z3m (P:=l.prog) (w:=w) (base:=base) F10 (PySem.W.mg_of X G a10) Z1p z_isinstance z_tuple z_len z_all
 have Z0d:=Z2v (P:=l.prog) (w:=w) (base:=base) F11 (PySem.W.mg_of X G a11) Z1V z_all g_FARTHEST
 have Z13:=Z2c (P:=l.prog) (w:=w) (base:=base) F12 (PySem.W.mg_of X G a12) Z0d g_NOUGHT
 have Z1t:=Z2L (P:=l.prog) (w:=w) (base:=base) F13 (PySem.W.mg_of X G a13) Z2r Z13 z_isinstance z_tuple z_len
 have Z1C:=Z2T (P:=l.prog) (w:=w) (base:=base) F14 (PySem.W.mg_of X G a14) Z1t z_isinstance z_list z_len z_enumerate g_MOST_HOURS x_NoSun
 have Z2s:=Z3U (P:=l.prog) (w:=w) (base:=base) F15 (PySem.W.mg_of X G a15) z_isinstance z_str z_len z_all g_LONGEST_NAME
 have Z28:=Z3G (P:=l.prog) (w:=w) (base:=base) F16 (PySem.W.mg_of X G a16)
 have Z1q:=Z3H (P:=l.prog) (w:=w) (base:=base) F17 (PySem.W.mg_of X G a17) Z28
 have Z1j:=Z2C (P:=l.prog) (w:=w) (base:=base) F18 (PySem.W.mg_of X G a18) Z0d Z1q z_isinstance z_tuple z_len g_NOUGHT x_NoPlate
 have Z2a:=Z3I (P:=l.prog) (w:=w) (base:=base) F19 (PySem.W.mg_of X G a19) Z1j ct_NoPlate
 have Z1A:=Z2U (P:=l.prog) (w:=w) (base:=base) F20 (PySem.W.mg_of X G a20)
 have Z2J:=Z40 (P:=l.prog) (w:=w) (base:=base) F21 (PySem.W.mg_of X G a21)
 have Z29:=Z3J (P:=l.prog) (w:=w) (base:=base) F22 (PySem.W.mg_of X G a22) Z1q Z1A Z2J
 have Z2K:=Z41 (P:=l.prog) (w:=w) (base:=base) F23 (PySem.W.mg_of X G a23) Z0d Z29
 have Z1W:=Z3n (P:=l.prog) (w:=w) (base:=base) F24 (PySem.W.mg_of X G a24) Z2a Z2K z_len
 have Z0C:=Z2d (P:=l.prog) (w:=w) (base:=base) F25 (PySem.W.mg_of X G a25) Z2s Z1W z_isinstance z_list z_enumerate z_tuple z_len g_MOST_OF_A_KIND x_NoYard
 have Z1u:=Z2M (P:=l.prog) (w:=w) (base:=base) F26 (PySem.W.mg_of X G a26) Z1C Z0C z_isinstance z_tuple z_len x_NoYard
 have Z2t:=Z3V (P:=l.prog) (w:=w) (base:=base) F27 (PySem.W.mg_of X G a27) Z1u ct_NoSun__NoYard
 have Z11:=Z3o (P:=l.prog) (w:=w) (base:=base) F28 (PySem.W.mg_of X G a28) Z2b Z2t z_isinstance z_str z_enumerate z_any x_NoRow
 have Z2u:=Z3W (P:=l.prog) (w:=w) (base:=base) F29 (PySem.W.mg_of X G a29) Z11 z_isinstance z_ValueError z_int z_bool ct_YardError gf_row mc_NoRow mc_NoBack mc_NoHour mc_NoName mc_NoNumber mc_NoPlate mc_NoSay mc_NoSun mc_NotLit mc_NoYard mc_TooMany an_NoRow an_ValueError an_NoBack_NoHour_NoName_NoNumber_NoPlate_NoSay_NoSun_NotLit_NoYard_TooMany
 exact(Z49 (P:=l.prog) (w:=w) (base:=base) F30 Z3C Z1X Z2u Z11).ok
end TL
open PySem PySem.W PyProof.Rows
def PySem.W.Fast.tw11879364522060833689:Nat:=0
def PySem.W.Fast.tw345353304248238207:Nat:=0
def PySem.W.Fast.tw5121625828197733318:Nat:=0
def PySem.W.Fast.tw15000963840257683193:Nat:=0
def PySem.W.Fast.tw709808527800644509:Nat:=0
def PySem.W.Fast.tw5561129260909093064:Nat:=0
def PySem.W.Fast.tw8126149795190409519:Nat:=0
def PySem.W.Fast.tw10631357672336943487:Nat:=0
def PySem.W.Fast.tw1908947141645433529:Nat:=0
def PySem.W.Fast.tw10936864115480023149:Nat:=0
def PySem.W.Fast.tw15076712390458130841:Nat:=0
def PySem.W.Fast.tw466045561102970856:Nat:=0
def PySem.W.Fast.tw9695578558073727241:Nat:=0
def PySem.W.Fast.tw9508026511525042784:Nat:=0
def PySem.W.Fast.tw14513748687190892085:Nat:=0
def PySem.W.Fast.tw9105585921927288620:Nat:=0
def PySem.W.Fast.tw4765127150056298403:Nat:=0
def PySem.W.Fast.tw17981956635456286389:Nat:=0
def PySem.W.Fast.tw4115912224741906730:Nat:=0
def PySem.W.Fast.tw5196173139846832711:Nat:=0
def PySem.W.Fast.tw6325223085463325568:Nat:=0
def PySem.W.Fast.tw16899316594896378325:Nat:=0
def PySem.W.Fast.tw12452512959636465551:Nat:=0
def PySem.W.Fast.tw17900160141918224810:Nat:=0
def PySem.W.Fast.tw7124249313198418844:Nat:=0
def PySem.W.Fast.tw7849087071232141148:Nat:=0
def PySem.W.Fast.tw13538387853521178719:Nat:=0
def PySem.W.Fast.tw15581902612062376216:Nat:=0
def PySem.W.Fast.tw9482781044086637391:Nat:=0
def PySem.W.Fast.tw17570035878792867147:Nat:=0
def PySem.W.Fast.tw16904093958393006552:Nat:=0
def PySem.W.Fast.tw17202017246842250908:Nat:=0
def PySem.W.Fast.tw8678979347432137106:Nat:=0
def PySem.W.Fast.tw13026885938686369936:Nat:=0
def PySem.W.Fast.tw5946863529751638143:Nat:=0
def PySem.W.Fast.tw4602638539719728553:Nat:=0
def PySem.W.Fast.tw3177728987349228337:Nat:=0
def PySem.W.Fast.tw10497647552928174362:Nat:=0
def PySem.W.Fast.tw8379921305235191353:Nat:=0
def PySem.W.Fast.tw9954808364108636767:Nat:=0
def PySem.W.Fast.tw15055875713403433568:Nat:=0
def PySem.W.Fast.tw18407541110043044643:Nat:=0
def PySem.W.Fast.tw17429628337947561649:Nat:=0
def PySem.W.Fast.tw16181049413961528651:Nat:=0
def PySem.W.Fast.tw6950104145394808986:Nat:=0
def PySem.W.Fast.tw7369931011716720730:Nat:=0
def PySem.W.Fast.tw4491729902127615531:Nat:=0
def PySem.W.Fast.tw12381901035178758397:Nat:=0
def PySem.W.Fast.tw13730531231149604407:Nat:=0
def PySem.W.Fast.tw1161754196777283410:Nat:=0
def PySem.W.Fast.tw378058371608109324:Nat:=0
def PySem.W.Fast.tw262276817865005435:Nat:=0
def PySem.W.Fast.tw8629568682532583314:Nat:=0
def PySem.W.Fast.tw3883675107260107706:Nat:=0
def PySem.W.Fast.tw6828355673153217515:Nat:=0
def PySem.W.Fast.tw142492969360143140:Nat:=0
def PySem.W.Fast.tw1599332869120830586:Nat:=0
def PySem.W.Fast.tw4824470562242301817:Nat:=0
def PySem.W.Fast.tw1321211591699720563:Nat:=0
def PySem.W.Fast.tw7474906301390323594:Nat:=0
def PySem.W.Fast.tw7902275768037714978:Nat:=0
def PySem.W.Fast.tw2701294739541034902:Nat:=0
def PySem.W.Fast.tw6180185304516228418:Nat:=0
def PySem.W.Fast.tw3309265350717803415:Nat:=0
def PySem.W.Fast.tw4098134672555770946:Nat:=0
def PySem.W.Fast.tw12911839946524190991:Nat:=0
set_option maxRecDepth 100000 in
set_option maxHeartbeats 0 in
theorem PySem.Challenge.cw_dialyard_k86_rows_that_cannot_stand_holds : PySem.Challenge.rw_dialyard_k86_rows_that_cannot_stand.Holds := by
 w_on;o_law;k_head;(case hw=>w_witness2)
 k_fill
 refine TL.walk (l:=PySem.Challenge.rw_dialyard_k86_rows_that_cannot_stand) (x := "_law_script") (k:=12) rfl rfl ⟨rfl,by decide,by decide⟩ (fun w h Y=>PySem.W.kIn_of Y) ?F
 case F =>
  intro w mg fa h KX G hmg
  refine' TL.all_mk KX G hmg ?a0 ?l0 ?c0 ?k0 ?a1 ?l1 ?c1 ?k1 ?a2 ?l2 ?c2 ?k2 ?a3 ?l3 ?c3 ?k3 ?a4 ?l4 ?c4 ?k4 ?a5 ?l5 ?c5 ?k5 ?a6 ?l6 ?c6 ?k6 ?a7 ?l7 ?c7 ?k7 ?a8 ?l8 ?c8 ?k8 ?a9 ?l9 ?c9 ?k9 ?a10 ?l10 ?c10 ?k10 ?a11 ?l11 ?c11 ?k11 ?a12 ?l12 ?c12 ?k12 ?a13 ?l13 ?c13 ?k13 ?a14 ?l14 ?c14 ?k14 ?a15 ?l15 ?c15 ?k15 ?a16 ?l16 ?c16 ?k16 ?a17 ?l17 ?c17 ?k17 ?a18 ?l18 ?c18 ?k18 ?a19 ?l19 ?c19 ?k19 ?a20 ?l20 ?c20 ?k20 ?a21 ?l21 ?c21 ?k21 ?a22 ?l22 ?c22 ?k22 ?a23 ?l23 ?c23 ?k23 ?a24 ?l24 ?c24 ?k24 ?a25 ?l25 ?c25 ?k25 ?a26 ?l26 ?c26 ?k26 ?a27 ?l27 ?c27 ?k27 ?a28 ?l28 ?c28 ?k28 ?a29 ?l29 ?c29 ?k29 ?a30 ?l30 ?c30 ?k30 ?z0 ?z1 ?z2 ?z3 ?z4 ?z5 ?z6 ?z7 ?z8 ?z9 ?z10 ?z11 ?z12 ?cg0 ?cg1 ?ch1 ?cg2 ?ch2 ?cg3 ?cg4 ?cg5 ?ch5 ?cg6 ?cg7 ?cg8 ?dd_NoPlate ?dd_NoRow ?dd_NoSun ?dd_NoYard ?dd_YardError ?dd_NoBack ?dd_NoHour ?dd_NoName ?dd_NoNumber ?dd_NoSay ?dd_NotLit ?dd_TooMany ?xi_NoPlate ?fa_NoPlate ?fb_NoPlate ?fc_NoPlate ?fd_NoPlate ?fe_NoPlate ?em_NoPlate_NoPlate ?em_YardError_NoPlate ?ki_NoRow_NoPlate ?ki_ValueError_NoPlate ?ki_NoBack_NoHour_NoName_NoNumber_NoPlate_NoSay_NoSun_NotLit_NoYard_TooMany_NoPlate ?ff_NoRow ?xi_NoRow ?li_NoRow ?lc_NoRow ?lk_NoRow ?ci_NoRow ?mr_NoRow ?hd_NoRow ?sa_NoRow ?na_NoRow ?sp_NoRow ?rd_NoRow ?fk_NoRow ?fa_NoRow ?fb_NoRow ?fc_NoRow ?fd_NoRow ?fe_NoRow ?em_YardError_NoRow ?ki_NoRow_NoRow ?ki_ValueError_NoRow ?ki_NoBack_NoHour_NoName_NoNumber_NoPlate_NoSay_NoSun_NotLit_NoYard_TooMany_NoRow ?ff_NoSun ?xi_NoSun ?li_NoSun ?lc_NoSun ?lk_NoSun ?ci_NoSun ?mr_NoSun ?hd_NoSun ?sa_NoSun ?na_NoSun ?sp_NoSun ?rd_NoSun ?fk_NoSun ?fa_NoSun ?fb_NoSun ?fc_NoSun ?fd_NoSun ?fe_NoSun ?em_NoSun__NoYard_NoSun ?em_YardError_NoSun ?ki_NoRow_NoSun ?ki_ValueError_NoSun ?ki_NoBack_NoHour_NoName_NoNumber_NoPlate_NoSay_NoSun_NotLit_NoYard_TooMany_NoSun ?ff_NoYard ?xi_NoYard ?li_NoYard ?lc_NoYard ?lk_NoYard ?ci_NoYard ?mr_NoYard ?hd_NoYard ?sa_NoYard ?na_NoYard ?sp_NoYard ?rd_NoYard ?fk_NoYard ?fa_NoYard ?fb_NoYard ?fc_NoYard ?fd_NoYard ?fe_NoYard ?em_NoSun__NoYard_NoYard ?em_YardError_NoYard ?ki_NoRow_NoYard ?ki_ValueError_NoYard ?ki_NoBack_NoHour_NoName_NoNumber_NoPlate_NoSay_NoSun_NotLit_NoYard_TooMany_NoYard
  (case a0=>k_is)
  (case l0=>k_is)
  (case c0=>k_is)
  (case k0=>k_is)
  (case a1=>k_is)
  (case l1=>k_is)
  (case c1=>k_is)
  (case k1=>k_is)
  (case a2=>k_is)
  (case l2=>k_is)
  (case c2=>k_is)
  (case k2=>k_is)
  (case a3=>k_is)
  (case l3=>k_is)
  (case c3=>k_is)
  (case k3=>k_is)
  (case a4=>k_is)
  (case l4=>k_is)
  (case c4=>k_is)
  (case k4=>k_is)
  (case a5=>k_is)
  (case l5=>k_is)
  (case c5=>k_is)
  (case k5=>k_is)
  (case a6=>k_is)
  (case l6=>k_is)
  (case c6=>k_is)
  (case k6=>k_is)
  (case a7=>k_is)
  (case l7=>k_is)
  (case c7=>k_is)
  (case k7=>k_is)
  (case a8=>k_is)
  (case l8=>k_is)
  (case c8=>k_is)
  (case k8=>k_is)
  (case a9=>k_is)
  (case l9=>k_is)
  (case c9=>k_is)
  (case k9=>k_is)
  (case a10=>k_is)
  (case l10=>k_is)
  (case c10=>k_is)
  (case k10=>k_is)
  (case a11=>k_is)
  (case l11=>k_is)
  (case c11=>k_is)
  (case k11=>k_is)
  (case a12=>k_is)
  (case l12=>k_is)
  (case c12=>k_is)
  (case k12=>k_is)
  (case a13=>k_is)
  (case l13=>k_is)
  (case c13=>k_is)
  (case k13=>k_is)
  (case a14=>k_is)
  (case l14=>k_is)
  (case c14=>k_is)
  (case k14=>k_is)
  (case a15=>k_is)
  (case l15=>k_is)
  (case c15=>k_is)
  (case k15=>k_is)
  (case a16=>k_is)
  (case l16=>k_is)
  (case c16=>k_is)
  (case k16=>k_is)
  (case a17=>k_is)
  (case l17=>k_is)
  (case c17=>k_is)
  (case k17=>k_is)
  (case a18=>k_is)
  (case l18=>k_is)
  (case c18=>k_is)
  (case k18=>k_is)
  (case a19=>k_is)
  (case l19=>k_is)
  (case c19=>k_is)
  (case k19=>k_is)
  (case a20=>k_is)
  (case l20=>k_is)
  (case c20=>k_is)
  (case k20=>k_is)
  (case a21=>k_is)
  (case l21=>k_is)
  (case c21=>k_is)
  (case k21=>k_is)
  (case a22=>k_is)
  (case l22=>k_is)
  (case c22=>k_is)
  (case k22=>k_is)
  (case a23=>k_is)
  (case l23=>k_is)
  (case c23=>k_is)
  (case k23=>k_is)
  (case a24=>k_is)
  (case l24=>k_is)
  (case c24=>k_is)
  (case k24=>k_is)
  (case a25=>k_is)
  (case l25=>k_is)
  (case c25=>k_is)
  (case k25=>k_is)
  (case a26=>k_is)
  (case l26=>k_is)
  (case c26=>k_is)
  (case k26=>k_is)
  (case a27=>k_is)
  (case l27=>k_is)
  (case c27=>k_is)
  (case k27=>k_is)
  (case a28=>k_is)
  (case l28=>k_is)
  (case c28=>k_is)
  (case k28=>k_is)
  (case a29=>k_is)
  (case l29=>k_is)
  (case c29=>k_is)
  (case k29=>k_is)
  (case a30=>k_is)
  (case l30=>k_is)
  (case c30=>k_is)
  (case k30=>k_is)
  (case z0=>k_is)
  (case z1=>k_is)
  (case z2=>k_is)
  (case z3=>k_is)
  (case z4=>k_is)
  (case z5=>k_is)
  (case z6=>k_is)
  (case z7=>k_is)
  (case z8=>k_is)
  (case z9=>k_is)
  (case z10=>k_is)
  (case z11=>k_is)
  (case z12=>k_is)
  (case cg0=>k_is)
  (case cg1=>k_is)
  (case ch1=>k_is)
  (case cg2=>k_is)
  (case ch2=>kernel_rfl)
  (case cg3=>k_is)
  (case cg4=>k_is)
  (case cg5=>k_is)
  (case ch5=>k_is)
  (case cg6=>k_is)
  (case cg7=>k_is)
  (case cg8=>k_is)
  (case dd_NoPlate=>k_is)
  (case dd_NoRow=>k_is)
  (case dd_NoSun=>k_is)
  (case dd_NoYard=>k_is)
  (case dd_YardError=>k_is)
  (case dd_NoBack=>k_is)
  (case dd_NoHour=>k_is)
  (case dd_NoName=>k_is)
  (case dd_NoNumber=>k_is)
  (case dd_NoSay=>k_is)
  (case dd_NotLit=>k_is)
  (case dd_TooMany=>k_is)
  (case xi_NoPlate=>k_exc)
  (case fa_NoPlate=>k_is)
  (case fb_NoPlate=>k_is)
  (case fc_NoPlate=>k_is)
  (case fd_NoPlate=>k_is)
  (case fe_NoPlate=>k_is)
  (case em_NoPlate_NoPlate=>kts_exm)
  (case em_YardError_NoPlate=>kts_exm)
  (case ki_NoRow_NoPlate=>kit_is)
  (case ki_ValueError_NoPlate=>kit_is)
  (case ki_NoBack_NoHour_NoName_NoNumber_NoPlate_NoSay_NoSun_NotLit_NoYard_TooMany_NoPlate=>kit_is)
  (case ff_NoRow=>k_is)
  (case xi_NoRow=>kernel_rfl)
  (case li_NoRow=>k_is)
  (case lc_NoRow=>k_is)
  (case lk_NoRow=>k_is)
  (case ci_NoRow=>k_is)
  (case mr_NoRow=>rfl)
  (case hd_NoRow=>rfl)
  (case sa_NoRow=>k_is)
  (case na_NoRow=>k_is)
  (case sp_NoRow=>k_is)
  (case rd_NoRow=>k_is)
  (case fk_NoRow=>k_is)
  (case fa_NoRow=>k_is)
  (case fb_NoRow=>k_is)
  (case fc_NoRow=>k_is)
  (case fd_NoRow=>k_is)
  (case fe_NoRow=>k_is)
  (case em_YardError_NoRow=>kts_exm)
  (case ki_NoRow_NoRow=>kit_is)
  (case ki_ValueError_NoRow=>kit_is)
  (case ki_NoBack_NoHour_NoName_NoNumber_NoPlate_NoSay_NoSun_NotLit_NoYard_TooMany_NoRow=>kit_is)
  (case ff_NoSun=>k_is)
  (case xi_NoSun=>kernel_rfl)
  (case li_NoSun=>k_is)
  (case lc_NoSun=>k_is)
  (case lk_NoSun=>k_is)
  (case ci_NoSun=>k_is)
  (case mr_NoSun=>rfl)
  (case hd_NoSun=>rfl)
  (case sa_NoSun=>k_is)
  (case na_NoSun=>k_is)
  (case sp_NoSun=>k_is)
  (case rd_NoSun=>k_is)
  (case fk_NoSun=>k_is)
  (case fa_NoSun=>k_is)
  (case fb_NoSun=>k_is)
  (case fc_NoSun=>k_is)
  (case fd_NoSun=>k_is)
  (case fe_NoSun=>k_is)
  (case em_NoSun__NoYard_NoSun=>kts_exm)
  (case em_YardError_NoSun=>kts_exm)
  (case ki_NoRow_NoSun=>kit_is)
  (case ki_ValueError_NoSun=>kit_is)
  (case ki_NoBack_NoHour_NoName_NoNumber_NoPlate_NoSay_NoSun_NotLit_NoYard_TooMany_NoSun=>kit_is)
  (case ff_NoYard=>k_is)
  (case xi_NoYard=>kernel_rfl)
  (case li_NoYard=>k_is)
  (case lc_NoYard=>k_is)
  (case lk_NoYard=>k_is)
  (case ci_NoYard=>k_is)
  (case mr_NoYard=>rfl)
  (case hd_NoYard=>rfl)
  (case sa_NoYard=>k_is)
  (case na_NoYard=>k_is)
  (case sp_NoYard=>k_is)
  (case rd_NoYard=>k_is)
  (case fk_NoYard=>k_is)
  (case fa_NoYard=>k_is)
  (case fb_NoYard=>k_is)
  (case fc_NoYard=>k_is)
  (case fd_NoYard=>k_is)
  (case fe_NoYard=>k_is)
  (case em_NoSun__NoYard_NoYard=>kts_exm)
  (case em_YardError_NoYard=>kts_exm)
  (case ki_NoRow_NoYard=>kit_is)
  (case ki_ValueError_NoYard=>kit_is)
  (case ki_NoBack_NoHour_NoName_NoNumber_NoPlate_NoSay_NoSun_NotLit_NoYard_TooMany_NoYard=>kit_is)
