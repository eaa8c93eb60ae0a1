import PyProof.Rows.All
import Wide.All
import OpenK.AllK
import Wide.FinOn
import Lean
import PyProof.EqAt
import PyProof.EqKinds
import PyProof.TupleCall
import PySem.Challenge.RW_dialyard_k64_whole_dials_and_their_paper
set_option Elab.async false
set_option linter.all false
set_option maxRecDepth 100000
set_option maxHeartbeats 4000000
namespace L2
open PySem PySem.Spec PyProof.Rows
abbrev Key:=Sum Int Str
def keyIs:Key->Value->Bool
 | .inl k,v=>Value.isInt k v
 | .inr x,v=>Value.isStrOf x v
def keyH(w:World):Key->Int
 | .inl k=>hashInt k
 | .inr x=>hashStr w x
theorem keyIs_shape:∀{k:Key}{v:Value},keyIs k v=true->(∃i t,k=Sum.inl i/\v=Value.int i t)∨(∃x t,k=Sum.inr x/\v=Value.str x t)
 | .inl i,v,h=>by
  obtain⟨t,e⟩:=Value.isInt_shape (k:=i) (v:=v) h
  exact .inl ⟨i,t,rfl,e⟩
 | .inr x,v,h=>by
  obtain⟨t,e⟩:=Value.isStrOf_shape (x:=x) (v:=v) h
  exact .inr ⟨x,t,rfl,e⟩
theorem keyIs_int(i:Int)(t:Tok):keyIs (.inl i) (.int i t)=true:=by simp[keyIs,Value.isInt]
theorem keyIs_str(x:Str)(t:Tok):keyIs (.inr x) (.str x t)=true:=by simp[keyIs,Value.isStrOf]
theorem key_ll(a b:Int):decide ((Sum.inl a:Key)=Sum.inl b)=(a==b):=by
 by_cases e:a=b
 ·subst e;simp
 ·have h:¬ (Sum.inl a:Key)=Sum.inl b:=fun q=>e (Sum.inl.inj q)
  rw[decide_eq_false h]
  exact(beq_eq_false_iff_ne.mpr e).symm
theorem key_rr(a b:Str):decide ((Sum.inr a:Key)=Sum.inr b)=decide (a=b):=by
 by_cases e:a=b
 ·subst e;simp
 ·have h:¬ (Sum.inr a:Key)=Sum.inr b:=fun q=>e (Sum.inr.inj q)
  rw[decide_eq_false h,decide_eq_false e]
theorem key_lr(a:Int)(b:Str):decide ((Sum.inl a:Key)=Sum.inr b)=false:=decide_eq_false (fun q=>nomatch q)
theorem key_rl(a:Str)(b:Int):decide ((Sum.inr a:Key)=Sum.inl b)=false:=decide_eq_false (fun q=>nomatch q)
def mixKind(prog:Program)(w:World):PySem.KeyKind prog w Key where
 is:=keyIs
 hash:=keyH w
 inj:=fun v a b ha hb=>by
  rcases keyIs_shape ha with ⟨i,t,rfl,rfl⟩|⟨x,t,rfl,rfl⟩
  ·rcases keyIs_shape hb with ⟨j,u,rfl,e⟩|⟨y,u,rfl,e⟩
   ·injection e with e1 _;rw[e1]
   ·exact nomatch e
  ·rcases keyIs_shape hb with ⟨j,u,rfl,e⟩|⟨y,u,rfl,e⟩
   ·exact nomatch e
   ·injection e with e1 _;rw[e1]
 byValue:=fun k v h=>by
  rcases keyIs_shape h with ⟨i,t,rfl,rfl⟩|⟨x,t,rfl,rfl⟩<;>rfl
 pyHash:=fun hv h=>by
  rcases keyIs_shape hv with ⟨i,t,rfl,rfl⟩|⟨x,t,rfl,rfl⟩
  ·exact wpAny_pyHash_int h
  ·exact wpAny_pyHash_str h
 eqBool:=fun hu hv h=>by
  rcases keyIs_shape hu with ⟨i,t,rfl,rfl⟩|⟨x,t,rfl,rfl⟩
  ·rcases keyIs_shape hv with ⟨j,u,rfl,rfl⟩|⟨y,u,rfl,rfl⟩
   ·rw[key_ll]at h;exact wpAny_eqBool_int h
   ·rw[key_lr]at h;exact SeqAt.EqAt.int_str i t y u _ _ _ _ h
  ·rcases keyIs_shape hv with ⟨j,u,rfl,rfl⟩|⟨y,u,rfl,rfl⟩
   ·rw[key_rl]at h;exact SeqAt.EqAt.str_int x t j u _ _ _ _ h
   ·rw[key_rr]at h;exact wpAny_eqBool_str h
 «strs»:=fun k x t v h=>by
  rcases keyIs_shape h with ⟨i,u,rfl,e⟩|⟨y,u,rfl,e⟩
  ·exact nomatch e
  ·injection e with e1 _
   subst e1
   cases v<;>rfl
theorem mixKind_int(prog:Program)(w:World)(i:Int)(t:Tok):(mixKind prog w).is (.inl i) (.int i t)=true:=keyIs_int i t
theorem mixKind_str(prog:Program)(w:World)(x:Str)(t:Tok):(mixKind prog w).is (.inr x) (.str x t)=true:=keyIs_str x t
end L2
namespace L2
open PySem PySem.Spec PyProof.Rows
inductive V where
 | non|bl (b:Bool)|int (i:Int)|str (x:Str)|byt (b:Array UInt8)|flt (b:UInt64)|ref (a:Addr)|ty (n:String)
 deriving DecidableEq
def RelV:V->Value->Prop
 | .non,u=>u=Value.none
 | .bl b,u=>u=Value.bool b
 | .int i,u=>∃t,u=Value.int i t
 | .str x,u=>∃t,u=Value.str x t
 | .byt b,u=>∃t,u=Value.bytes b t
 | .flt b,u=>∃t,u=Value.float b t
 | .ref a,u=>u=Value.ref a
 | .ty n,u=>u=Value.type n
abbrev Vals:List V->List Value->Prop:=Paired RelV
theorem Vals.length{xs:List V}{us:List Value}(r:Vals xs us):xs.length=us.length:=Paired.length r
theorem Vals.get:∀{xs:List V}{us:List Value}{i:Nat}{x:V},Vals xs us->xs[i]?=some x->∃u,us[i]?=some u/\RelV x u
 | _,_,_,_,.nil,e=>by simp at e
 | _,_,0,_,.cons r _,e=>by simp at e;subst e;exact⟨_,rfl,r⟩
 | _,_,i + 1,x,.cons _ t,e=>by
  obtain⟨u,h1,h2⟩:=Vals.get (i:=i) (x:=x) t (by simpa using e)
  exact⟨u,by simpa using h1,h2⟩
theorem Vals.set{x:V}{u:Value}(r:RelV x u):∀{xs:List V}{us:List Value}(i:Nat),Vals xs us->Vals (xs.set i x) (us.set i u)
 | _,_,_,.nil=>.nil
 | _,_,0,.cons _ t=>.cons r t
 | _,_,i + 1,.cons q t=>.cons q (Vals.set r i t)
theorem Vals.append:∀{xs ys:List V}{us ws:List Value},Vals xs us->Vals ys ws->Vals (xs++ys) (us++ws)
 | _,_,_,_,.nil,s=>s
 | _,_,_,_,.cons r t,s=>.cons r (Vals.append t s)
theorem Vals.take:∀{xs:List V}{us:List Value}(n:Nat),Vals xs us->Vals (xs.take n) (us.take n)
 | _,_,0,_=>.nil
 | _,_,_ + 1,.nil=>.nil
 | _,_,n + 1,.cons r t=>.cons r (Vals.take n t)
theorem Vals.drop:∀{xs:List V}{us:List Value}(n:Nat),Vals xs us->Vals (xs.drop n) (us.drop n)
 | _,_,0,r=>r
 | _,_,_ + 1,.nil=>.nil
 | _,_,n + 1,.cons _ t=>Vals.drop n t
def RelO:Option V->Option Value->Prop
 | some v,some u=>RelV v u
 | none,none=>True
 | _,_=>False
def KV{κ:Type}:List (κ×V)->List (κ×Value)->Prop:=Paired fun (p:κ×V) (q:κ×Value)=>p.1=q.1/\RelV p.2 q.2
def kV:Key->V
 | .inl i=>.int i
 | .inr x=>.str x
inductive HO where
 | lst (xs:List V)
 | tup (xs:List V)
 | dK (kvs:List (Key×V))|dT (kvs:List (List Key×V))
 | set (S:Int->Bool) (n:Nat)
 | ins (C dx:Addr) (fs:List (Str×V))
 | own (x:Addr)
 | xd (fs:List (Str×V))
 | met (f x:Addr)
 | rng (lo hi:Int)
 | frz (o:Obj) (u:HO)
 | tbl (ps:Array Value)
 | ext (φ:Heap->Prop)
abbrev Hp:=Addr->Option HO
def upd(H:Hp)(a:Addr)(o:HO):Hp:=fun b=>if b=a then some o else H b
theorem upd_same{H:Hp}{a:Addr}{o:HO}:upd H a o a=some o:=by unfold upd;rw[if_pos rfl]
theorem upd_ne{H:Hp}{a b:Addr}{o:HO}(h:b≠a):upd H a o b=H b:=by unfold upd;rw[if_neg h]
theorem upd_upd{H:Hp}{a:Addr}{o u:HO}:upd (upd H a o) a u=upd H a u:=by
 funext b;unfold upd;split<;>rfl
theorem ne_of{H:Hp}{a b:Addr}{o u:HO}(h:H a=some o)(h':H b=some u)(d:o≠u):a≠b:=by
 intro e;subst e;rw[h]at h';exact d (Option.some.inj h')
theorem ne_of_none{H:Hp}{a b:Addr}{o:HO}(h:H a=some o)(h':H b=none):a≠b:=by
 intro e;subst e;rw[h]at h';cases h'
section
variable (P:Program) (w:World)
def ObjOk(H:Hp)(h:Heap)(a:Addr):HO->Prop
 | .lst xs=>xs.length<=sizeLine/\∃(its:List Value) (n:Nat),Vals xs its/\h.get? a=some {cls:=.type "list", data:=.seq its.toArray n}
 | .tup xs=>xs.length<=sizeLine/\∃its:List Value,Vals xs its/\IsTup h a its.toArray
 | .dK kvs=>kvs.length<=sizeLine/\(a==sysModules)=false/\∃vs,KV kvs vs/\h.DictOf (mixKind P w) a vs
 | .dT kvs=>kvs.length<=sizeLine/\(a==sysModules)=false/\∃xs:List (List Key×Addr×Value),
   Paired (fun (p:List Key×V) (q:List Key×Addr×Value)=>p.1=q.1/\H q.2.1=some (.tup (p.1.map kV))/\RelV p.2 q.2.2) kvs xs ∧
   ∃o es ep,h.get? a=some o/\o.ExactDict/\o.data=.dict es ep/\es.toList=xs.map (entryOfKey (tupleKind (mixKind P w)))/\(xs.map (·.1)).Nodup
 | .set S n=>h.SetOf (intKind P w) a S n
 | .ins C dx fs=>H dx=some (.own a)/\fs.length<=1000/\dx≠a/\h.get? a=some (PySem.W.instObj C dx) ∧
   ∃mA,h.Ns1 dx mA/\(∀f,RelO (fs.lookup f) (mA f))/\PySem.Within mA (fs.map (·.1))
 | .own _=>∃o,h.get? a=some o
 | .xd fs=>∃mA,h.Ns1 a mA/\∀f,RelO (fs.lookup f) (mA f)
 | .rng lo hi=>∃t u v,h.get? a=some {cls:=.type "range", data:=.fields #[.int lo t,.int hi u,.int 1 v]}
 | .frz o u=>h.get? a=some o/\ObjOk H h a u
 | .tbl ps=>h.get? a=some {cls:=.none,data:=.fields ps}
 | .met f x=>h.get? a=some (PySem.W.methodObj (.ref f) (.ref x))
 | .ext φ=>φ h/\(∃o,h.get? a=some o)/\∀h1 h2:Heap,φ h1->(∀o,h1.get? a=some o->h2.get? a=some o)->φ h2
def HOk(H:Hp)(h:Heap):Prop:=∀a o,H a=some o->ObjOk P w H h a o
end
section
variable {P:Program} {w:World} {H H':Hp} {h h':Heap} {a:Addr} {o:HO}
theorem ObjOk.lt(x:ObjOk P w H h a o):a < h.objs.size:=by
 cases o with
 | lst xs=>obtain⟨_,_,_,_,e⟩:=x;exact Heap.lt_size e
 | tup xs=>obtain⟨_,_,_,p⟩:=x;exact p.lt
 | dK kvs=>obtain⟨_,_,_,_,o,_,_,e,_⟩:=x;exact Heap.lt_size e
 | dT kvs=>obtain⟨_,_,_,_,o,_,_,e,_⟩:=x;exact Heap.lt_size e
 | set S n=>obtain⟨o,_,_,_,e,_⟩:=x;exact Heap.lt_size e
 | ins C dx fs=>obtain⟨_,_,_,e,_⟩:=x;exact Heap.lt_size e
 | own y=>obtain⟨_,e⟩:=x;exact Heap.lt_size e
 | xd fs=>obtain⟨_,⟨_,_,_,e,_⟩,_⟩:=x;exact Heap.lt_size e
 | rng lo hi=>obtain⟨_,_,_,e⟩:=x;exact Heap.lt_size e
 | frz ob u=>obtain⟨e,_⟩:=x;exact Heap.lt_size e
 | tbl ps=>exact Heap.lt_size (show h.get? a=some _ from x)
 | met f y=>exact Heap.lt_size (show h.get? a=some _ from x)
 | ext φ=>obtain⟨_,⟨_,e⟩,_⟩:=x;exact Heap.lt_size e
theorem Paired.mapP{α β:Type}{F G:α->β->Prop}:∀{l₁:List α}{l₂:List β},Paired F l₁ l₂->(∀a b,F a b->G a b)->Paired G l₁ l₂
 | _,_,.nil,_=>.nil
 | _,_,.cons r t,f=>.cons (f _ _ r) (Paired.mapP t f)
theorem ObjOk.stay(x:ObjOk P w H h a o)(k:∀b u,(b=a∨H b=some (.own a))->h.get? b=some u->h'.get? b=some u)
  (ho:∀b,H b=some (.own a)->H' b=some (.own a)) (ht:∀b xs,H b=some (.tup xs)->H' b=some (.tup xs)):ObjOk P w H' h' a o:=by
 induction o with
 | lst xs=>obtain⟨z,its,n,r,e⟩:=x;exact⟨z,its,n,r,k _ _ (.inl rfl) e⟩
 | tup xs=>obtain⟨z,its,r,ob,e,c⟩:=x;exact⟨z,its,r,ob,k _ _ (.inl rfl) e,c⟩
 | dK kvs=>obtain⟨z,y,vs,r,ob,es,ep,e,c⟩:=x;exact⟨z,y,vs,r,ob,es,ep,k _ _ (.inl rfl) e,c⟩
 | dT kvs =>
  obtain⟨z,y,xs,r,ob,es,ep,e,c⟩:=x
  exact⟨z,y,xs,Paired.mapP r fun p q z=>⟨z.1,ht _ _ z.2.1,z.2.2⟩,ob,es,ep,k _ _ (.inl rfl) e,c⟩
 | set S n=>obtain⟨ob,es,ep,t,e,c⟩:=x;exact⟨ob,es,ep,t,k _ _ (.inl rfl) e,c⟩
 | ins C dx fs =>
  obtain⟨d,z,ne,e,mA,⟨od,es,ep,e2,c⟩,r⟩:=x
  exact⟨ho _ d,z,ne,k _ _ (.inl rfl) e,mA,⟨od,es,ep,k _ _ (.inr d) e2,c⟩,r⟩
 | own y=>obtain⟨ob,e⟩:=x;exact⟨ob,k _ _ (.inl rfl) e⟩
 | xd fs=>obtain⟨mA,⟨od,es,ep,e,c⟩,r⟩:=x;exact⟨mA,⟨od,es,ep,k _ _ (.inl rfl) e,c⟩,r⟩
 | rng lo hi=>obtain⟨t,u,v,e⟩:=x;exact⟨t,u,v,k _ _ (.inl rfl) e⟩
 | frz ob u ih=>obtain⟨e,q⟩:=x;exact⟨k _ _ (.inl rfl) e,ih q⟩
 | tbl ps =>
  have e:h.get? a=some {cls:=.none,data:=.fields ps}:=x
  show h'.get? a=some {cls:=.none,data:=.fields ps}
  exact k a _ (.inl rfl) e
 | met f y =>
  have e:h.get? a=some (PySem.W.methodObj (.ref f) (.ref y)):=x
  show h'.get? a=some (PySem.W.methodObj (.ref f) (.ref y))
  exact k a _ (.inl rfl) e
 | ext φ=>obtain⟨p,⟨o,e⟩,st⟩:=x;exact⟨st _ _ p fun o q=>k _ _ (.inl rfl) q,⟨o,k _ _ (.inl rfl) e⟩,st⟩
theorem HOk.lt(x:HOk P w H h)(e:H a=some o):a < h.objs.size:=(x a o e).lt
theorem HOk.fresh(x:HOk P w H h)(e:h.objs.size<=a):H a=none:=by
 cases q:H a with
 | none=>rfl
 | some u=>exact absurd (Nat.lt_of_lt_of_le (x.lt q) e) (Nat.lt_irrefl _)
theorem HOk.kept(x:HOk P w H h)(k:∀b u,h.get? b=some u->h'.get? b=some u):HOk P w H h':=fun a o e =>
 (x a o e).stay (fun b u _ q=>k b u q) (fun _ q=>q) fun _ _ q=>q
theorem HOk.laid(x:HOk P w H h)(k:∀b u,h.get? b=some u->h'.get? b=some u)(hp:h.objs.size<=a)(new:ObjOk P w (upd H a o) h' a o):HOk P w (upd H a o) h':=fun b u e=>by
 have hn:=x.fresh hp
 by_cases hb:b=a
 ·subst hb;rw[upd_same]at e;cases e;exact new
 ·rw[upd_ne hb]at e
  exact(x b u e).stay (fun c v _ q=>k c v q) (fun c q=>by rw[upd_ne (ne_of_none q hn)];exact q) fun c xs q=>by rw[upd_ne (ne_of_none q hn)];exact q
end
def Rd(H:Hp)(a:Addr)(u:HO):Prop:=H a=some u∨∃o,H a=some (.frz o u)
theorem Rd.of{H:Hp}{a:Addr}{u:HO}(h:H a=some u):Rd H a u:=.inl h
theorem Rd.ok{P:Program}{w:World}{H:Hp}{h:Heap}{a:Addr}{u:HO}(r:Rd H a u)(x:HOk P w H h):ObjOk P w H h a u:=by
 rcases r with r|⟨o,r⟩
 ·exact x a u r
 ·obtain⟨_,q⟩:=x a _ r
  exact q
def Mut:Option HO->Prop
 | some (.lst _)=>True
 | some (.dK _)=>True
 | some (.dT _)=>True
 | some (.set _ _)=>True
 | some (.ins _ _ _)=>True
 | some (.ext _)=>True
 | _=>False
section
variable {P:Program} {w:World} {H:Hp} {h h':Heap} {x e:Addr} {o':HO}
theorem HOk.write(ok:HOk P w H h)(mu:Mut (H x))(he:e=x∨H e=some (.own x))(k:∀b u,b≠e->h.get? b=some u->h'.get? b=some u)(heo:∃u,h'.get? e=some u)
  (new:ObjOk P w (upd H x o') h' x o'):HOk P w (upd H x o') h':=fun b u q=>by
 have nown:∀c y,H c=some (.own y)->c≠x:=fun c y r z=>by subst z;rw[r]at mu;exact mu
 have ntup:∀c xs,H c=some (.tup xs)->c≠x:=fun c xs r z=>by subst z;rw[r]at mu;exact mu
 by_cases hb:b=x
 ·subst hb;rw[upd_same]at q;cases q;exact new
 ·rw[upd_ne hb]at q
  by_cases hbe:b=e
  ·have q':H b=some (.own x):=by
    rcases he with z|z
    ·exact absurd (hbe.trans z) hb
    ·rw[hbe];exact z
   rw[q]at q';cases q'
   obtain⟨v,hv⟩:=heo
   exact⟨v,by rw[hbe];exact hv⟩
  ·refine(ok b u q).stay (fun c v hc r=>k c v ?_ r) (fun c r=>by rw[upd_ne (nown c b r)];exact r) fun c xs r=>by rw[upd_ne (ntup c xs r)];exact r
   rcases hc with rfl|hc
   ·exact hbe
   ·rintro rfl
    rcases he with z|z
    ·exact nown c b hc z
    ·rw[hc]at z;cases z;exact hb rfl
end
structure Un(fs ex:List Addr)(H H':Hp)(h h':Heap):Prop where
 keep:∀b o,h.get? b=some o->H b=none->b∉fs->b∉ex->h'.get? b=some o
 slot:∀b o,h.get? b=some o->H b=none->b∈fs->b∉ex->∃sl,h'.get? b=some {o with slots:=sl}
 free:∀b o,h.get? b=some o->H b=none->b∉ex->H' b=none
 there:∀b o,h.get? b=some o->b∉ex->∃o',h'.get? b=some o'
 tups:∀b xs,H b=some (.tup xs)->H' b=some (.tup xs)
 frzs:∀b o u,H b=some (.frz o u)->H' b=some (.frz o u)
 tbls:∀b ps,H b=some (.tbl ps)->∃more,H' b=some (.tbl (ps++more))
section
variable {fs fs' ex ex':List Addr} {H H1 H2:Hp} {h h1 h2 h':Heap} {a x e:Addr} {o:HO}
theorem Un.any(u:Un fs ex H H1 h h1){b:Addr}{ob:Obj}(q:h.get? b=some ob)(n:H b=none)(hx:b∉ex):∃sl,h1.get? b=some {ob with slots:=sl}:=by
 by_cases hb:b∈fs
 ·exact u.slot b ob q n hb hx
 ·exact⟨ob.slots,u.keep b ob q n hb hx⟩
theorem Un.trans(a:Un fs ex H H1 h h1)(b:Un fs ex H1 H2 h1 h2):Un fs ex H H2 h h2 where
 keep:=fun c ob q n hc hx=>b.keep c ob (a.keep c ob q n hc hx) (a.free c ob q n hx) hc hx
 slot:=fun c ob q n hc hx=>by
  obtain⟨sl,e1⟩:=a.slot c ob q n hc hx
  obtain⟨sl',e2⟩:=b.slot c _ e1 (a.free c ob q n hx) hc hx
  exact⟨sl',e2⟩
 free:=fun c ob q n hx=>by
  obtain⟨o',e1⟩:=a.there c ob q hx
  exact b.free c o' e1 (a.free c ob q n hx) hx
 there:=fun c ob q hx=>by
  obtain⟨o',e1⟩:=a.there c ob q hx
  exact b.there c o' e1 hx
 tups:=fun c xs q=>b.tups c xs (a.tups c xs q)
 frzs:=fun c ob xs q=>b.frzs c ob xs (a.frzs c ob xs q)
 tbls:=fun c ps q=>by
  obtain⟨m1,e1⟩:=a.tbls c ps q
  obtain⟨m2,e2⟩:=b.tbls c _ e1
  exact⟨m1++m2,by rw[e2,Array.append_assoc]⟩
theorem Un.kept(k:∀b u,h.get? b=some u->h'.get? b=some u):Un fs ex H H h h' :=
 ⟨fun b ob q _ _ _=>k b ob q,fun b ob q _ _ _=>⟨ob.slots,k b ob q⟩,fun _ _ _ n _=>n,fun b ob q _=>⟨ob,k b ob q⟩,fun _ _ q=>q,fun _ _ _ q=>q,fun _ ps q=>⟨#[],by rw[q];simp⟩⟩
theorem Un.refl:Un fs ex H H h h:=Un.kept fun _ _ q=>q
theorem Un.laid(k:∀b u,h.get? b=some u->h'.get? b=some u)(hp:h.objs.size<=a)(hn:H a=none):Un fs ex H (upd H a o) h h' where
 keep:=fun b u q _ _ _=>k b u q
 slot:=fun b u q _ _ _=>⟨u.slots,k b u q⟩
 free:=fun b u q n _=>by rw[upd_ne (Nat.ne_of_lt (Nat.lt_of_lt_of_le (Heap.lt_size q) hp))];exact n
 there:=fun b u q _=>⟨u,k b u q⟩
 tups:=fun b xs q=>by rw[upd_ne (ne_of_none q hn)];exact q
 frzs:=fun b u xs q=>by rw[upd_ne (ne_of_none q hn)];exact q
 tbls:=fun b ps q=>⟨#[],by rw[upd_ne (ne_of_none q hn),q];simp⟩
theorem Un.write(mu:Mut (H x))(he:e=x∨H e=some (.own x))(k:∀b u,b≠e->h.get? b=some u->h'.get? b=some u)(heo:∃u,h'.get? e=some u):Un fs ex H (upd H x o) h h':=by
 have hx:∀b,H b=none->b≠x:=fun b n z=>by subst z;rw[n]at mu;exact mu
 have hb:∀b,H b=none->b≠e:=fun b n z=>by
  subst z
  rcases he with r|r
  ·exact hx b n r
  ·rw[n]at r;cases r
 have hm:∀b u,H b=some u->¬ Mut (some u)->b≠x:=fun b u q nm z=>by subst z;rw[q]at mu;exact nm mu
 refine⟨fun b u q n _ _=>k b u (hb b n) q,fun b u q n _ _=>⟨u.slots,k b u (hb b n) q⟩,fun b u q n _=>by rw[upd_ne (hx b n)];exact n,fun b u q _=>?_,
  fun b xs q=>by rw[upd_ne (hm b _ q fun z=>z)];exact q,fun b u xs q=>by rw[upd_ne (hm b _ q fun z=>z)];exact q,fun b ps q=>⟨#[],by rw[upd_ne (hm b _ q fun z=>z),q];simp⟩⟩
 by_cases hbe:b=e
 ·subst hbe;exact heo
 ·exact⟨u,k b u hbe q⟩
theorem Un.mono(u:Un fs ex H H1 h h1)(hs:∀b∈fs,b∈fs')(hx:∀b∈ex,b∈ex'):Un fs' ex' H H1 h h1 :=
 ⟨fun b ob q n hb he=>u.keep b ob q n (fun z=>hb (hs b z)) fun z=>he (hx b z),fun _ _ q n _ he=>u.any q n fun z=>he (hx _ z),fun b ob q n he=>u.free b ob q n fun z=>he (hx b z),fun b ob q he=>u.there b ob q fun z=>he (hx b z),u.tups,u.frzs,u.tbls⟩
end
def trk(h:Heap)(H:Hp):List Addr:=(List.range h.objs.size).filter fun a=>(H a).isSome
def hidT(h:Heap)(H:Hp):Heap:=PySem.W.hideAll h (trk h H)
theorem hidT_size(h:Heap)(H:Hp):(hidT h H).objs.size=h.objs.size:=PySem.W.hideAll_size _ _
theorem hidT_get{h:Heap}{H:Hp}{b:Addr}{o:Obj}(e:h.get? b=some o)(n:H b=none):(hidT h H).get? b=some o :=
 PySem.W.hideAll_get _ e fun hm=>by
  have q:(H b).isSome=true:=(List.mem_filter.mp hm).2
  rw[n]at q;simp at q
theorem of_hidT{h:Heap}{H:Hp}{b:Addr}{o:Obj}(e:(hidT h H).get? b=some o):h.get? b=some o/\H b=none:=by
 have e':h.get? b=some o:=PySem.W.of_hideAll (trk h H) e
 refine⟨e',?_⟩
 cases q:H b with
 | none=>rfl
 | some x =>
  have hm:b∈trk h H:=List.mem_filter.mpr ⟨List.mem_range.mpr (Heap.lt_size e'),by simp[q]⟩
  have z:(hidT h H).get? b=none:=PySem.W.hideAll_none (trk h H) hm
  rw[z]at e;cases e
def allNews(g h:Heap)(L:Addr):List (Addr×Obj):=(List.range h.objs.size).filterMap fun a=>if a=L∨(g.get? a).isSome=true then none else (h.get? a).map fun o=>(a,o)
def rest(g h:Heap)(L d:Addr):List (Addr×Obj):=(allNews g h L).filter fun p=>decide (p.1≠d)
end L2
namespace L2
open PySem PySem.Spec PyProof.Rows
structure Mod(K:PySem.W.Frag)(mg:Str->Option Value)(base:Heap):Prop where
 kin:K.In base
 glob:base.Ns mainGlobals mg
 blt:∃mb,base.Ns builtinsNs mb/\∀x:Str,x ≠ "__name__" -> mb x=bootBuiltins x
 nolimit:base.NoLimit
structure Cx where
 prog:Program
 w:World
 K:PySem.W.Frag
 mg:Str->Option Value
 base:Heap
 A:Around
 N:List Str
 s₀:Shared
 H₀:Hp
 env:Env
 outer:List Env
 stack:List Env
 ex:List Addr
 fn:Str->Bool
 calm:Bool
 pn:List (Addr×Obj)
 xe:Value->Shared->Prop
def frs(l:List Env):List Addr:=l.filterMap (·.frame)
abbrev Cx.fs(X:Cx):List Addr:=frs X.outer
def Vis(sc:Scope)(x:Str):Prop:=sc.names.lookup x=some .local∨sc.names.lookup x=some .cell∨sc.names.lookup x=some .free
def Loc(sc:Scope)(x:Str):Prop:=sc.names.lookup x=some .local∨sc.names.lookup x=some .cell
def Look(env:Env)(h:Heap)(m:Str->Option Value)(x:Str)(u:Value):Prop :=
 (env.kindOf x=some .local/\m x=some u)∨((env.kindOf x=some .cell∨env.kindOf x=some .free)/\∃c,env.cells.lookup x=some c/\h.IsCell c (some u))
structure Cx.Ok(X:Cx):Prop where
 mod:Mod X.K X.mg X.base
 kind:X.env.scope.kind=.function
 glob:X.env.globals=mainGlobals
 blt:X.env.builtins=builtinsNs
 above:X.s₀.heap.objs.size<=X.env.locals
 inj:∀x y c,X.env.cells.lookup x=some c->X.env.cells.lookup y=some c->x=y
 has:∀x,(X.env.kindOf x=some .cell∨X.env.kindOf x=some .free)->∃c,X.env.cells.lookup x=some c
 cab:∀x c,X.fn x=true->X.env.cells.lookup x=some c->X.s₀.heap.objs.size<=c
 hd:X.calm=true->X.A.handled=none
 frames:X.A.frames=some X.stack
 stk:X.stack=X.outer∨(X.stack=X.env::X.outer/\X.env.frame=some X.env.locals)
 exf:∀b∈X.ex,b≠X.env.locals/\∀x c,X.env.cells.lookup x=some c->c≠b
 bs:∀b o,X.base.get? b=some o->X.s₀.heap.get? b=some o/\X.H₀ b=none
 bsz:X.base.objs.size<=X.s₀.heap.objs.size
 noex:∀b o,X.base.get? b=some o->b∉X.ex
 exfs:∀b∈X.ex,b∉X.fs
 funs:X.s₀.heap.FunFrames X.base X.outer
 frf:∀b∈X.fs,X.H₀ b=none
structure Inv(X:Cx)(pins:List (Addr×Obj))(σ:List (Option V))(H:Hp)(s:Shared):Prop where
 ok:X.Ok
 os:s.os=X.s₀.os
 bare:AllBare s.gens
 base:Un X.fs X.ex X.H₀ H X.s₀.heap s.heap
 loc:∃m,s.heap.Ns X.env.locals m/\∀(i:Nat)(x:Str)(v:V),X.N[i]?=some x->σ[i]?=some (some v)->Vis X.env.scope x->∃u,RelV v u/\Look X.env s.heap m x u
 cell:∀x c,X.env.cells.lookup x=some c->∃v,s.heap.IsCell c v
 free:H X.env.locals=none
 freeC:∀x c,X.env.cells.lookup x=some c->H c=none
 pin:∀p∈X.pn++pins,s.heap.get? p.1=some p.2/\H p.1=none/\p.1≠X.env.locals/\p.1∉X.fs/\∀v,p.2.data ≠ .cell v
 hok:HOk X.prog X.w H s.heap
 len:σ.length=X.N.length
section
variable {X:Cx} {pins:List (Addr×Obj)} {σ:List (Option V)} {H H':Hp} {s:Shared} {h':Heap}
theorem Cx.Ok.nofr(ok:X.Ok){b:Addr}{o:Obj}(e:X.base.get? b=some o):b∉X.fs:=fun hb=>by
 have:=(ok.funs.mem hb).1
 rw[e]at this;cases this
theorem Inv.bs(I:Inv X pins σ H s):∀b o,X.base.get? b=some o->s.heap.get? b=some o/\H b=none:=fun b o e =>
 ⟨I.base.keep b o (I.ok.bs b o e).1 (I.ok.bs b o e).2 (I.ok.nofr e) (I.ok.noex b o e),I.base.free b o (I.ok.bs b o e).1 (I.ok.bs b o e).2 (I.ok.noex b o e)⟩
theorem Inv.bk(I:Inv X pins σ H s):∀b o,X.base.get? b=some o->s.heap.get? b=some o:=fun b o e=>(I.bs b o e).1
theorem Inv.mod(I:Inv X pins σ H s):Mod X.K X.mg X.base:=I.ok.mod
theorem Inv.kIn(I:Inv X pins σ H s):X.K.In s.heap:=I.ok.mod.kin.keeps I.bk
theorem Inv.nolimit(I:Inv X pins σ H s):s.heap.NoLimit:=I.ok.mod.nolimit.keeps I.bk
theorem Inv.lt(I:Inv X pins σ H s):X.env.locals < s.heap.objs.size:=let ⟨_,hn,_⟩:=I.loc;hn.lt
theorem Inv.sz(I:Inv X pins σ H s):X.s₀.heap.objs.size<=s.heap.objs.size:=Nat.le_trans I.ok.above (Nat.le_of_lt I.lt)
theorem Inv.nofs(I:Inv X pins σ H s){a:Addr}(h:s.heap.objs.size<=a):a∉X.fs:=fun hb=>by
 obtain⟨_,o,ho,_⟩:=I.ok.funs.mem hb
 exact absurd (Nat.lt_of_lt_of_le (Heap.lt_size ho) (Nat.le_trans I.sz h)) (Nat.lt_irrefl _)
theorem Inv.cne(I:Inv X pins σ H s):∀x c,X.env.cells.lookup x=some c->c≠X.env.locals:=fun x c e z=>by
 obtain⟨v,o,ho,hd⟩:=I.cell x c e
 obtain⟨m,⟨o',es,ep,ho',hd',_⟩,_⟩:=I.loc
 rw[z,ho']at ho;cases ho;rw[hd']at hd;cases hd
theorem Inv.funs(I:Inv X pins σ H s):s.heap.FunFrames X.base X.outer:=by
 have all:∀(l:List Env),(∀b∈frs l,b∈X.fs)->X.s₀.heap.FunFrames X.base l->s.heap.FunFrames X.base l:=by
  intro l
  induction l with
  | nil=>intro _ _;trivial
  | cons env r ih =>
   intro hs hl
   obtain⟨hk,⟨L,o,hf,hn,ho,hd⟩,hr⟩:=hl
   have hL:L∈X.fs:=hs L (by unfold frs;rw[List.filterMap_cons,hf];exact List.mem_cons_self)
   obtain⟨sl,e⟩:=I.base.slot L o ho (I.ok.frf L hL) hL fun z=>I.ok.exfs L z hL
   exact⟨hk,⟨L,_,hf,hn,e,hd⟩,ih (fun b hb=>hs b (by unfold frs;rw[List.filterMap_cons,hf];exact List.mem_cons_of_mem _ hb)) hr⟩
 exact all X.outer (fun _ hb=>hb) I.ok.funs
theorem Inv.stack(I:Inv X pins σ H s):s.heap.FunFrames X.base X.stack:=by
 rcases I.ok.stk with e|⟨e,hf⟩
 ·rw[e];exact I.funs
 ·rw[e]
  obtain⟨m,hn,_⟩:=I.loc
  refine .cons (by rw[I.ok.kind];decide) hf hn ?_ I.funs
  exact Heap.get?_none_of_le (Nat.le_trans I.ok.bsz I.ok.above)
theorem Inv.stkSub(I:Inv X pins σ H s):∀b∈frs X.stack,b∈X.env.locals::X.fs:=fun b hb=>by
 rcases I.ok.stk with e|⟨e,hf⟩
 ·rw[e]at hb;exact List.mem_cons_of_mem _ hb
 ·rw[e]at hb
  unfold frs at hb
  rw[List.filterMap_cons,hf]at hb
  exact hb
theorem Inv.stkFree(I:Inv X pins σ H s):∀b∈frs X.stack,H b=none:=fun b hb=>by
 rcases List.mem_cons.mp (I.stkSub b hb) with e|hb
 ·rw[e];exact I.free
 ·obtain⟨_,o,ho,_⟩:=I.ok.funs.mem hb
  exact I.base.free b o ho (I.ok.frf b hb) fun z=>I.ok.exfs b z hb
theorem Inv.step{g':Array GenState}{t':Nat}{d':Drawn}{ch:List Addr}(I:Inv X pins σ H s)
  (hch:∀b∈ch,(b∈X.ex∨X.s₀.heap.objs.size<=b)/\b≠X.env.locals/\(∀x c,X.env.cells.lookup x=some c->c≠b)/\∀p∈X.pn++pins,p.1≠b)
  (keep:∀b o,b≠X.env.locals->b∉X.fs->b∉ch->s.heap.get? b=some o->H b=none->h'.get? b=some o)
  (slot:∀b o,b≠X.env.locals->b∈X.fs->b∉ch->s.heap.get? b=some o->H b=none->∃sl,h'.get? b=some {o with slots:=sl}) (free:∀b o,b∉ch->s.heap.get? b=some o->H b=none->H' b=none)
  (there:∀b o,b∉ch->s.heap.get? b=some o->∃o',h'.get? b=some o')
  (tups:∀b xs,H b=some (.tup xs)->H' b=some (.tup xs)) (frzs:∀b o u,H b=some (.frz o u)->H' b=some (.frz o u)) (tbls:∀b ps,H b=some (.tbl ps)->∃more,H' b=some (.tbl (ps++more)))
  (ns:∀m,s.heap.Ns X.env.locals m->h'.Ns X.env.locals m) (hok:HOk X.prog X.w H' h') (hg:AllBare g') :
  Inv X pins σ H' {s with heap:=h',gens:=g',drawn:=d',toks:=t' }:=by
 have neL:∀b o,X.s₀.heap.get? b=some o->b≠X.env.locals:=fun b o e=>Nat.ne_of_lt (Nat.lt_of_lt_of_le (Heap.lt_size e) I.ok.above)
 have neC:∀b o,X.s₀.heap.get? b=some o->b∉X.ex->b∉ch:=fun b o e hx hb=>by
  rcases (hch b hb).1 with z|z
  ·exact hx z
  ·exact absurd (Nat.lt_of_lt_of_le (Heap.lt_size e) z) (Nat.lt_irrefl _)
 have cellK:∀x c,X.env.cells.lookup x=some c->∀v,s.heap.IsCell c v->h'.IsCell c v:=fun x c e v ⟨o,ho,hd⟩=>by
  have nch:c∉ch:=fun z=>(hch c z).2.2.1 x c e rfl
  by_cases hc:c∈X.fs
  ·obtain⟨sl,q⟩:=slot c o (I.cne x c e) hc nch ho (I.freeC x c e)
   exact⟨_,q,hd⟩
  ·exact⟨o,keep c o (I.cne x c e) hc nch ho (I.freeC x c e),hd⟩
 refine⟨I.ok,I.os,hg,⟨fun b o e n hb hx=>?_,fun b o e n hb hx=>?_,fun b o e n hx=>?_,fun b o e hx=>?_,fun b xs e=>tups b xs (I.base.tups b xs e),fun b o xs e=>frzs b o xs (I.base.frzs b o xs e),fun b ps e=>?_⟩,?_,fun x c e=>?_,?_,fun x c e=>?_,fun p hp=>?_,hok,I.len⟩
 ·exact keep b o (neL b o e) hb (neC b o e hx) (I.base.keep b o e n hb hx) (I.base.free b o e n hx)
 ·obtain⟨sl,e1⟩:=I.base.slot b o e n hb hx
  obtain⟨sl',e2⟩:=slot b _ (neL b o e) hb (neC b o e hx) e1 (I.base.free b o e n hx)
  exact⟨sl',e2⟩
 ·obtain⟨o',e1⟩:=I.base.there b o e hx
  exact free b o' (neC b o e hx) e1 (I.base.free b o e n hx)
 ·obtain⟨o',e1⟩:=I.base.there b o e hx
  exact there b o' (neC b o e hx) e1
 ·obtain⟨m1,e1⟩:=I.base.tbls b ps e
  obtain⟨m2,e2⟩:=tbls b _ e1
  exact⟨m1++m2,by rw[e2,Array.append_assoc]⟩
 ·obtain⟨m,hn,hl⟩:=I.loc
  refine⟨m,ns m hn,fun i x v e1 e2 e3=>?_⟩
  obtain⟨u,r,l⟩:=hl i x v e1 e2 e3
  refine⟨u,r,?_⟩
  rcases l with l|⟨k,c,e,z⟩
  ·exact .inl l
  ·exact .inr ⟨k,c,e,cellK x c e _ z⟩
 ·obtain⟨v,z⟩:=I.cell x c e
  exact⟨v,cellK x c e v z⟩
 ·obtain⟨m,⟨o,_,_,ho,_⟩,_⟩:=I.loc
  exact free _ o (fun z=>(hch _ z).2.1 rfl) ho I.free
 ·obtain⟨v,o,ho,hd⟩:=I.cell x c e
  exact free c o (fun z=>(hch c z).2.2.1 x c e rfl) ho (I.freeC x c e)
 ·obtain⟨e,n,ne,nf,d⟩:=I.pin p hp
  have nch:p.1∉ch:=fun z=>(hch p.1 z).2.2.2 p hp rfl
  exact⟨keep p.1 p.2 ne nf nch e n,free p.1 p.2 nch e n,ne,nf,d⟩
theorem Inv.un{t':Nat}(I:Inv X pins σ H s)(u:Un X.fs [] H H' s.heap h')(hok:HOk X.prog X.w H' h'):Inv X pins σ H' {s with heap:=h',toks:=t' }:=by
 obtain⟨m,⟨o,es,ep,ho,r⟩,_⟩:=id I.loc
 obtain⟨sl,hL⟩:=u.any ho I.free (by simp)
 exact I.step (g':=s.gens) (d':=s.drawn) (ch:=[]) (fun _ z=>nomatch z) (fun b o _ hb _ e n=>u.keep b o e n hb (by simp)) (fun b o _ hb _ e n=>u.slot b o e n hb (by simp)) (fun b o _ e n=>u.free b o e n (by simp)) (fun b o _ e=>u.there b o e (by simp)) u.tups u.frzs u.tbls (fun m' hm=>by
  obtain⟨o',es',ep',ho',r'⟩:=hm
  rw[ho]at ho';cases ho'
  exact⟨_,es',ep',hL,r'⟩) hok I.bare
theorem Inv.call{g':Array GenState}{t':Nat}{d':Drawn}{ch:List Addr}(I:Inv X pins σ H s)(u:Un (frs X.stack) ch H H' s.heap h')(hok:HOk X.prog X.w H' h')(hg:AllBare g')
  (hch:∀b∈ch,(b∈X.ex∨X.s₀.heap.objs.size<=b)/\b≠X.env.locals/\(∀x c,X.env.cells.lookup x=some c->c≠b)/\∀p∈X.pn++pins,p.1≠b) :
  Inv X pins σ H' {s with heap:=h',gens:=g',drawn:=d',toks:=t' }:=by
 obtain⟨m,⟨o,es,ep,ho,r⟩,_⟩:=id I.loc
 obtain⟨sl,hL⟩:=u.any ho I.free fun z=>(hch _ z).2.1 rfl
 exact I.step (ch:=ch) hch (fun b o hL hb hc e n=>u.keep b o e n (fun z=>(List.mem_cons.mp (I.stkSub b z)).elim hL hb) hc) (fun b o _ _ hc e n=>u.any e n hc) (fun b o hc e n=>u.free b o e n hc) (fun b o hc e=>u.there b o e hc) u.tups u.frzs u.tbls (fun m' hm=>by
  obtain⟨o',es',ep',ho',r'⟩:=hm
  rw[ho]at ho';cases ho'
  exact⟨_,es',ep',hL,r'⟩) hok hg
theorem Inv.turned{t':Nat}{it:Addr}(I:Inv X pins σ H s)(k:∀b o,b≠it->s.heap.get? b=some o->h'.get? b=some o)(hn:H it=none)(hL:it≠X.env.locals)
  (h1:it∈X.ex∨X.s₀.heap.objs.size<=it) (h2:∀x c,X.env.cells.lookup x=some c->c≠it) (h3:∀p∈X.pn++pins,p.1≠it):Inv X pins σ H {s with heap:=h',toks:=t' }:=by
 have nit:∀b u,H b=some u->b≠it:=fun b u e z=>by rw[z,hn]at e;cases e
 refine I.step (g':=s.gens) (d':=s.drawn) (ch:=[it]) (fun b hb=>?_) (fun b o _ _ hc e _=>k b o (fun z=>hc (by simp[z])) e) (fun b o _ _ hc e _=>⟨o.slots,k b o (fun z=>hc (by simp[z])) e⟩) (fun _ _ _ _ n=>n)
  (fun b o hc e=>⟨o,k b o (fun z=>hc (by simp[z])) e⟩) (fun _ _ e=>e) (fun _ _ _ e=>e) (fun b ps e=>⟨#[],by rw[e];simp⟩) (fun m hm=>?_) (fun b u e=>?_) I.bare
 ·have e:b=it:=by simpa using hb
  subst e
  exact⟨h1,hL,h2,h3⟩
 ·obtain⟨o,es,ep,ho,r⟩:=hm
  exact⟨o,es,ep,k _ o (Ne.symm hL) ho,r⟩
 ·refine(I.hok b u e).stay (fun c v hc q=>k c v ?_ q) (fun _ q=>q) fun _ _ q=>q
  rcases hc with z|z
  ·rw[z];exact nit b u e
  ·exact nit c _ z
theorem Inv.tok(I:Inv X pins σ H s)(t:Nat):Inv X pins σ H {s with toks:=t}:=I.un (h':=s.heap) (t':=t) Un.refl I.hok
theorem Inv.kept{t':Nat}(I:Inv X pins σ H s)(k:∀b u,s.heap.get? b=some u->h'.get? b=some u):Inv X pins σ H {s with heap:=h',toks:=t' }:=I.un (Un.kept k) (I.hok.kept k)
theorem Inv.laid{a:Addr}{o:HO}{t':Nat}(I:Inv X pins σ H s)(k:∀b u,s.heap.get? b=some u->h'.get? b=some u)(hp:s.heap.objs.size<=a)(new:ObjOk X.prog X.w (upd H a o) h' a o) :
  Inv X pins σ (upd H a o) {s with heap:=h',toks:=t' }:=I.un (Un.laid k hp (I.hok.fresh hp)) (I.hok.laid k hp new)
theorem Inv.write{x e:Addr}{o:HO}{t':Nat}(I:Inv X pins σ H s)(mu:Mut (H x))(he:e=x∨H e=some (.own x))(k:∀b u,b≠e->s.heap.get? b=some u->h'.get? b=some u)(heo:∃u,h'.get? e=some u)
  (new:ObjOk X.prog X.w (upd H x o) h' x o):Inv X pins σ (upd H x o) {s with heap:=h',toks:=t' }:=I.un (Un.write mu he k heo) (I.hok.write mu he k heo new)
theorem Inv.pins_of{pins':List (Addr×Obj)}(I:Inv X pins σ H s)(h:∀p∈pins',s.heap.get? p.1=some p.2/\H p.1=none/\p.1≠X.env.locals/\p.1∉X.fs/\∀v,p.2.data ≠ .cell v):Inv X pins' σ H s :=
 ⟨I.ok,I.os,I.bare,I.base,I.loc,I.cell,I.free,I.freeC,fun p hp=>(List.mem_append.mp hp).elim (fun z=>I.pin p (List.mem_append_left _ z)) (h p),I.hok,I.len⟩
theorem nodup_ix{N:List Str}(hN:N.Nodup){i j:Nat}{x:Str}(a:N[i]?=some x)(b:N[j]?=some x):i=j:=by
 obtain⟨h1,e1⟩:=List.getElem?_eq_some_iff.mp a
 obtain⟨h2,e2⟩:=List.getElem?_eq_some_iff.mp b
 exact(List.getElem_inj hN).mp (e1.trans e2.symm)
theorem store_ok2{M:Model}{A:Around}{E:Value->Shared->Prop}{i:Nat}{x:Str}{v:V}{u:Value}{Q:Unit->Shared->Prop}(I:Inv X pins σ H s)(hN:X.N.Nodup)(hi:X.N[i]?=some x)(hx:Loc X.env.scope x)(r:RelV v u)
  (h:∀s',Inv X pins (σ.set i (some v)) H s'->(∃a,Heap.SameBut a s.heap s'.heap/\(a=X.env.locals∨X.env.cells.lookup x=some a))->Q () s') (hf:X.fn x=true∨X.env.scope.names.lookup x=some .local:=by first|exact .inl rfl|exact .inr rfl|assumption):wpAny M A (storeName X.env x u) Q E s:=by
 obtain⟨m,hn,hl⟩:=id I.loc
 have hcls:(X.env.scope.kind == .class||(X.env.scope.kind == .module&&X.env.locals != X.env.globals))=false:=by rw[I.ok.kind];rfl
 have hiσ:i < σ.length:=by rw[I.len];exact(List.getElem?_eq_some_iff.mp hi).1
 have cne:=I.cne
 have tracked:∀{a:Addr}{h':Heap},(∃o,s.heap.get? a=some o/\H a=none)->Heap.SameBut a s.heap h'->HOk X.prog X.w H h':=fun {a h'} ha hs b ob e=>by
  obtain⟨_,_,hfree⟩:=ha
  refine(I.hok b ob e).stay (fun c w' hc q=>(hs.2 c ?_).trans q) (fun _ q=>q) fun _ _ q=>q
  rintro rfl
  rcases hc with rfl|hc
  ·rw[hfree]at e;cases e
  ·rw[hfree]at hc;cases hc
 rcases hx with hk|hk
 ·refine wpAny_storeName_local hk hn (fun h' hn' hs=>?_) hcls
  obtain⟨oL,_,_,hoL,_⟩:=id hn
  refine h _ ⟨I.ok,I.os,I.bare,⟨fun b o e n hb hx=>?_,fun b o e n hb hx=>?_,I.base.free,fun b o e hx=>?_,I.base.tups,I.base.frzs,I.base.tbls⟩,⟨_,hn',fun j y v' e1 e2 e3=>?_⟩,fun y c e=>?_,I.free,I.freeC,fun p hp=>?_,tracked ⟨oL,hoL,I.free⟩ hs,by simpa using I.len⟩ ⟨_,hs,.inl rfl⟩
  ·exact(hs.2 b (Nat.ne_of_lt (Nat.lt_of_lt_of_le (Heap.lt_size e) I.ok.above))).trans (I.base.keep b o e n hb hx)
  ·obtain⟨sl,e1⟩:=I.base.slot b o e n hb hx
   exact⟨sl,(hs.2 b (Nat.ne_of_lt (Nat.lt_of_lt_of_le (Heap.lt_size e) I.ok.above))).trans e1⟩
  ·obtain⟨o',e1⟩:=I.base.there b o e hx
   exact⟨o',(hs.2 b (Nat.ne_of_lt (Nat.lt_of_lt_of_le (Heap.lt_size e) I.ok.above))).trans e1⟩
  ·by_cases hj:j=i
   ·subst hj
    rw[hi]at e1;cases e1
    rw[List.getElem?_set_self hiσ]at e2
    cases e2
    exact⟨u,r,.inl ⟨hk,by simp⟩⟩
   ·rw[List.getElem?_set_ne (Ne.symm hj)]at e2
    obtain⟨u',r',q⟩:=hl j y v' e1 e2 e3
    refine⟨u',r',?_⟩
    rcases q with ⟨k,e⟩|⟨k,c,e,z⟩
    ·refine .inl ⟨k,?_⟩
     have:y≠x:=fun e=>hj (nodup_ix hN e1 (e ▸ hi))
     simp[this,e]
    ·exact .inr ⟨k,c,e,z.sameBut hs (cne y c e)⟩
  ·obtain⟨w',z⟩:=I.cell y c e
   exact⟨w',z.sameBut hs (cne y c e)⟩
  ·obtain⟨e,n,ne,nf,d⟩:=I.pin p hp
   exact⟨(hs.2 p.1 ne).trans e,n,ne,nf,d⟩
 ·have hfn:X.fn x=true:=by
   rcases hf with z|z
   ·exact z
   ·rw[z]at hk;cases hk
  obtain⟨c,hc⟩:=I.ok.has x (.inl hk)
  obtain⟨w',z⟩:=I.cell x c hc
  refine wpAny_storeName_cell I.ok.kind hk hc z (fun h' hc' hs=>?_)
  obtain⟨oc,hoc,hocd⟩:=id z
  refine h {s with heap:=h' } ⟨I.ok,I.os,I.bare,⟨fun b o e n hb hx=>?_,fun b o e n hb hx=>?_,I.base.free,fun b o e hx=>?_,I.base.tups,I.base.frzs,I.base.tbls⟩,⟨m,hn.sameBut hs (Ne.symm (cne x c hc)),fun j y v' e1 e2 e3=>?_⟩,fun y c' e=>?_,I.free,I.freeC,fun p hp=>?_,tracked ⟨oc,hoc,I.freeC x c hc⟩ hs,by simpa using I.len⟩ ⟨c,hs,.inr hc⟩
  ·exact(hs.2 b (Nat.ne_of_lt (Nat.lt_of_lt_of_le (Heap.lt_size e) (I.ok.cab x c hfn hc)))).trans (I.base.keep b o e n hb hx)
  ·obtain⟨sl,e1⟩:=I.base.slot b o e n hb hx
   exact⟨sl,(hs.2 b (Nat.ne_of_lt (Nat.lt_of_lt_of_le (Heap.lt_size e) (I.ok.cab x c hfn hc)))).trans e1⟩
  ·obtain⟨o',e1⟩:=I.base.there b o e hx
   exact⟨o',(hs.2 b (Nat.ne_of_lt (Nat.lt_of_lt_of_le (Heap.lt_size e) (I.ok.cab x c hfn hc)))).trans e1⟩
  ·by_cases hj:j=i
   ·subst hj
    rw[hi]at e1;cases e1
    rw[List.getElem?_set_self hiσ]at e2
    cases e2
    exact⟨u,r,.inr ⟨.inl hk,c,hc,hc'⟩⟩
   ·rw[List.getElem?_set_ne (Ne.symm hj)]at e2
    obtain⟨u',r',q⟩:=hl j y v' e1 e2 e3
    refine⟨u',r',?_⟩
    rcases q with q|⟨k,c',e,z'⟩
    ·exact .inl q
    ·refine .inr ⟨k,c',e,z'.sameBut hs ?_⟩
     rintro rfl
     exact hj (nodup_ix hN e1 (I.ok.inj _ _ _ e hc ▸ hi))
  ·by_cases hcc:c'=c
   ·subst hcc;exact⟨_,hc'⟩
   ·obtain⟨w2,z2⟩:=I.cell y c' e
    exact⟨w2,z2.sameBut hs hcc⟩
  ·obtain⟨e,n,ne,nf,d⟩:=I.pin p hp
   refine⟨(hs.2 p.1 ?_).trans e,n,ne,nf,d⟩
   intro q
   rw[q,hoc]at e
   have q':oc=p.2:=Option.some.inj e
   exact d w' (by rw[← q'];exact hocd)
theorem store_ok{M:Model}{A:Around}{E:Value->Shared->Prop}{i:Nat}{x:Str}{v:V}{u:Value}{Q:Unit->Shared->Prop}(I:Inv X pins σ H s)(hN:X.N.Nodup)(hi:X.N[i]?=some x)(hx:Loc X.env.scope x)(r:RelV v u)
  (h:∀s',Inv X pins (σ.set i (some v)) H s'->Q () s') (hf:X.fn x=true∨X.env.scope.names.lookup x=some .local:=by first|exact .inl rfl|exact .inr rfl|assumption):wpAny M A (storeName X.env x u) Q E s :=
 store_ok2 I hN hi hx r (fun s' I' _=>h s' I') hf
theorem Inv.call'{s':Shared}{ch:List Addr}(I:Inv X pins σ H s)(ho:s'.os=s.os)(u:Un (frs X.stack) ch H H' s.heap s'.heap)(hok:HOk X.prog X.w H' s'.heap)(hg:AllBare s'.gens)
  (hch:∀b∈ch,(b∈X.ex∨X.s₀.heap.objs.size<=b)/\b≠X.env.locals/\(∀x c,X.env.cells.lookup x=some c->c≠b)/\∀p∈X.pn++pins,p.1≠b):Inv X pins σ H' s':=by
 obtain⟨h',g',d',t',o'⟩:=s'
 have e:o'=s.os:=ho
 subst e
 exact I.call (g':=g') (t':=t') (d':=d') u hok hg hch
end
abbrev XK:=Value->Option Addr->Hp->Prop
abbrev St:=List (Option V)
abbrev VK:=V->Hp->Prop
abbrev TE:=St->Hp->VK->Prop
abbrev TT:=St->Hp->(Bool->Hp->Prop)->Prop
abbrev TA:=St->Hp->(List V->Hp->Prop)->Prop
structure Ends where
 nx:St->Hp->Prop
 rt:VK
 bk:St->Hp->Prop:=fun _ _=>False
 ct:St->Hp->Prop:=fun _ _=>False
abbrev TS:=Ends->St->Hp->Prop
def EP(X:Cx)(pins:List (Addr×Obj))(σ:St)(Q:VK)(u:Value)(s':Shared):Prop:=∃v H',Inv X pins σ H' s'/\RelV v u/\Q v H'
def TP(X:Cx)(pins:List (Addr×Obj))(σ:St)(Q:Bool->Hp->Prop)(b:Bool)(s':Shared):Prop:=∃H',Inv X pins σ H' s'/\Q b H'
def AP(X:Cx)(pins:List (Addr×Obj))(σ:St)(Q:List V->Hp->Prop)(us:List Value)(s':Shared):Prop:=∃vs H',Inv X pins σ H' s'/\Vals vs us/\Q vs H'
def SP(X:Cx)(pins:List (Addr×Obj))(D:Ends)(f:Flow)(s':Shared):Prop :=
 match f with
 | .next=>∃σ' H',Inv X pins σ' H' s'/\D.nx σ' H'
 | .brk=>∃σ' H',Inv X pins σ' H' s'/\D.bk σ' H'
 | .cont=>∃σ' H',Inv X pins σ' H' s'/\D.ct σ' H'
 | .ret u=>∃v σ' H',Inv X pins σ' H' s'/\RelV v u/\D.rt v H'
def PE(X:Cx)(e:Expr)(t:TE):Prop :=
 ∀(pins:List (Addr×Obj))(s:Shared)(σ:St)(H:Hp)(Q:VK),Inv X pins σ H s->t σ H Q->wpAny (model X.prog X.w) X.A (eval e X.env) (EP X pins σ Q) X.xe s
def PT(X:Cx)(e:Expr)(t:TT):Prop :=
 ∀(pins:List (Addr×Obj))(s:Shared)(σ:St)(H:Hp)(Q:Bool->Hp->Prop),Inv X pins σ H s->t σ H Q->wpAny (model X.prog X.w) X.A (isTrue e X.env (eval e X.env)) (TP X pins σ Q) X.xe s
def PW(X:Cx)(e:Expr)(t:TT):Prop :=
 ∀(whole:Sem Value)(pins:List (Addr×Obj))(s:Shared)(σ:St)(H:Hp)(Q:Bool->Hp->Prop),Inv X pins σ H s->t σ H Q->wpAny (model X.prog X.w) X.A (isTrue e X.env whole) (TP X pins σ Q) X.xe s
theorem PW.pt{X:Cx}{e:Expr}{t:TT}(h:PW X e t):PT X e t:=h _
def PA(X:Cx)(es:List Expr)(t:TA):Prop :=
 ∀(pos:Pos)(pins:List (Addr×Obj))(s:Shared)(σ:St)(H:Hp)(Q:List V->Hp->Prop),Inv X pins σ H s->t σ H Q->wpAny (model X.prog X.w) X.A (spliced (backTo pos (starEach es X.env))) (AP X pins σ Q) X.xe s
def PS(X:Cx)(st:Stmt)(t:TS):Prop :=
 ∀(pins:List (Addr×Obj))(s:Shared)(σ:St)(H:Hp)(D:Ends),Inv X pins σ H s->t D σ H->wpAny (model X.prog X.w) X.A (exec st X.env) (SP X pins D) X.xe s
def PSs(X:Cx)(st:List Stmt)(t:TS):Prop :=
 ∀(pins:List (Addr×Obj))(s:Shared)(σ:St)(H:Hp)(D:Ends),Inv X pins σ H s->t D σ H->wpAny (model X.prog X.w) X.A (execs st X.env) (SP X pins D) X.xe s
theorem thn{α:Type}{t:Sem α}{Q Q':α->Shared->Prop}{M:Model}{A:Around}{E:Value->Shared->Prop}{s:Shared}(h:wpAny M A t Q E s)(hQ:∀a s,Q a s->Q' a s):wpAny M A t Q' E s:=wpAny_mono h hQ fun _ _ x=>x
end L2
namespace L2
open PySem PySem.Spec PyProof.Rows
section
variable {X:Cx}
def tVar(i:Nat):TE:=fun σ H Q=>∃v,σ[i]?=some (some v)/\Q v H
def tC(v:V):TE:=fun _ H Q=>Q v H
theorem pe_var{i:Nat}{x:Str}{pos:Pos}(hN:X.N[i]?=some x)(hv:Vis X.env.scope x) (hd:(x==("__debug__" : Str))=false:=by decide) (hcd:(x==("__classdict__" : Str))=false:=by decide):PE X (.Name x pos) (tVar i):=by
 intro pins s σ H Q I h
 obtain⟨v,e,h⟩:=h
 obtain⟨m,hn,hl⟩:=I.loc
 obtain⟨u,r,l⟩:=hl i x v hN e hv
 have fin:EP X pins σ Q u s:=⟨v,H,I,r,h⟩
 rcases l with ⟨hk,hm⟩|⟨hk,c,hc,hcell⟩
 ·exact wpAny_Name (wpAny_loadName_local I.ok.kind hk hn hm fin) hd
 ·rcases hk with hk|hk
  ·exact wpAny_Name (wpAny_loadName_cell I.ok.kind hk hc hcell fin) hd
  ·exact wpAny_Name (wpAny_loadName_free I.ok.kind hk hc hcell fin hcd) hd
theorem pe_int{i j pos}:PE X (.Constant (.int i) j pos) (tC (.int i)):=fun _ _ _ H _ I h=>wpAny_Constant_int ⟨.int i,H,I.tok _,⟨_,rfl⟩,h⟩
theorem pe_bl{b j pos}:PE X (.Constant (.bool b) j pos) (tC (.bl b)):=fun _ _ _ H _ I h=>Constant_bool ⟨.bl b,H,I,rfl,h⟩
theorem pe_non{j pos}:PE X (.Constant .none j pos) (tC .non):=fun _ _ _ H _ I h=>Constant_none ⟨.non,H,I,rfl,h⟩
theorem pe_str{x j pos}:PE X (.Constant (.str x) j pos) (tC (.str x)):=fun _ _ _ H _ I h=>Calls.Constant_str ⟨.str x,H,I.tok _,⟨_,rfl⟩,h⟩
def Gl(X:Cx)(x:Str):Prop:=X.env.kindOf x=some .globalImplicit
theorem ld_glob{E:Value->Shared->Prop}{pins:List (Addr×Obj)}{s:Shared}{σ:St}{H:Hp}{x:Str}{u:Value}{pos:Pos}{Q:Value->Shared->Prop}(I:Inv X pins σ H s)(hg:Gl X x)(hm:X.mg x=some u)(h:Q u s)
  (hd:(x==("__debug__" : Str))=false:=by decide):wpAny (model X.prog X.w) X.A (eval (.Name x pos) X.env) Q E s :=
 Calls.Name_function_global I.ok.kind hg (Calls.loadGlobal_global (by rw[I.ok.glob];exact I.mod.glob.keeps I.bk) hm h) hd
theorem ld_blt{E:Value->Shared->Prop}{pins:List (Addr×Obj)}{s:Shared}{σ:St}{H:Hp}{x:Str}{u:Value}{pos:Pos}{Q:Value->Shared->Prop}(I:Inv X pins σ H s)(hg:Gl X x)(hm:X.mg x=none)(hv:bootBuiltins x=some u)(h:Q u s)
  (hn:x ≠ "__name__" := by decide) (hd:(x==("__debug__" : Str))=false:=by decide):wpAny (model X.prog X.w) X.A (eval (.Name x pos) X.env) Q E s:=by
 obtain⟨mb,h1,h2⟩:=I.mod.blt
 exact Calls.Name_function_global I.ok.kind hg (Calls.loadGlobal_builtin (by rw[I.ok.glob];exact I.mod.glob.keeps I.bk) hm (by rw[I.ok.blt];exact h1.keeps I.bk) ((h2 x hn).trans hv) h) hd
theorem pe_bltn{x:Str}{v:V}{u:Value}{pos:Pos}(hg:Gl X x)(hm:X.mg x=none)(hv:bootBuiltins x=some u)(r:RelV v u) (hn:x ≠ "__name__" := by decide) (hd:(x==("__debug__" : Str))=false:=by decide):PE X (.Name x pos) (tC v) :=
 fun _ _ _ H _ I h=>ld_blt I hg hm hv ⟨v,H,I,r,h⟩ hn hd
variable {a b:Expr} {ta tb:TE} {pos:Pos}
def tB(t:TE):TT:=fun σ H Q=>t σ H fun x H1=>∃c,x=.bl c/\Q c H1
theorem pt_val{e:Expr}{t:TE}(h:PE X e t)(he:∀whole,isTrue e X.env whole=(do let v ← whole;standAt e.pos;holding [v] (truthy v)):=by intro _;rfl):PT X e (tB t):=by
 intro pins s σ H Q I hw
 refine isTrue_plain (thn (h pins s σ H _ I hw) fun v s1 ⟨x,H1,I1,r1,q1⟩=>?_) (he _)
 obtain⟨d,rfl,q⟩:=q1
 cases r1
 exact wpAny_truthy_bool ⟨H1,I1,q⟩
variable {tA tB':TT} {rest:List Expr}
def tAnd(t u:TT):TT:=fun σ H Q=>t σ H fun c H1=>if c=true then u σ H1 Q else Q false H1
def tOr(t u:TT):TT:=fun σ H Q=>t σ H fun c H1=>if c=true then Q true H1 else u σ H1 Q
def tNot(t:TT):TT:=fun σ H Q=>t σ H fun c H1=>Q (!c) H1
theorem pw_and1(ha:PT X a tA):PW X (.BoolOp .And [a] pos) tA:=by
 intro wh pins s σ H Q I h
 refine isTrue_and (thn (ha pins s σ H Q I h) fun c s1 e=>?_)
 cases c with
 | true=>exact isTrue_and_nil e
 | false=>exact e
theorem pw_or1(ha:PT X a tA):PW X (.BoolOp .Or [a] pos) tA:=by
 intro wh pins s σ H Q I h
 refine isTrue_or (thn (ha pins s σ H Q I h) fun c s1 e=>?_)
 cases c with
 | false=>exact isTrue_or_nil e
 | true=>exact e
theorem pw_and(ha:PT X a tA)(hb:PW X (.BoolOp .And (b::rest) pos) tB'):PW X (.BoolOp .And (a::b::rest) pos) (tAnd tA tB'):=by
 intro wh pins s σ H Q I h
 refine isTrue_and (thn (ha pins s σ H _ I h) fun c s1 ⟨H1,I1,q1⟩=>?_)
 cases c with
 | true=>exact hb wh pins s1 σ H1 Q I1 q1
 | false=>exact⟨H1,I1,q1⟩
theorem pw_or(ha:PT X a tA)(hb:PW X (.BoolOp .Or (b::rest) pos) tB'):PW X (.BoolOp .Or (a::b::rest) pos) (tOr tA tB'):=by
 intro wh pins s σ H Q I h
 refine isTrue_or (thn (ha pins s σ H _ I h) fun c s1 ⟨H1,I1,q1⟩=>?_)
 cases c with
 | true=>exact⟨H1,I1,q1⟩
 | false=>exact hb wh pins s1 σ H1 Q I1 q1
theorem pt_not(ha:PT X a tA):PT X (.UnaryOp .Not a pos) (tNot tA):=by
 intro pins s σ H Q I h
 exact isTrue_not (ha pins s σ H (fun c H1=>Q (!c) H1) I h)
def tAndV(ta tb:TE):TE:=fun σ H Q=>ta σ H fun x H1=>∃c,x=.bl c/\if c=true then tb σ H1 Q else Q (.bl false) H1
def tNotV(ta:TE):TE:=fun σ H Q=>ta σ H fun x H1=>∃c,x=.bl c/\Q (.bl (!c)) H1
theorem pe_one{op}{t:TE}(h:PE X a t):PE X (.BoolOp op [a] pos) t:=fun pins s σ H Q I hw=>BoolOp_one (h pins s σ H Q I hw)
theorem pe_and(ha:PE X a ta)(hb:PE X (.BoolOp .And (b::rest) pos) tb):PE X (.BoolOp .And (a::b::rest) pos) (tAndV ta tb):=by
 intro pins s σ H Q I h
 refine BoolOp_and (thn (ha pins s σ H _ I h) fun v s1 ⟨x,H1,I1,r1,q1⟩=>?_)
 obtain⟨c,rfl,q1⟩:=q1
 cases r1
 refine wpAny_truthy_bool ?_
 cases c with
 | true=>exact hb pins s1 σ H1 Q I1 q1
 | false=>exact⟨.bl false,H1,I1,rfl,q1⟩
theorem pe_not(ha:PE X a ta):PE X (.UnaryOp .Not a pos) (tNotV ta):=by
 intro pins s σ H Q I h
 refine UnaryOp_ (thn (ha pins s σ H _ I h) fun v s1 ⟨x,H1,I1,r1,q1⟩=>?_)
 obtain⟨c,rfl,q1⟩:=q1
 cases r1
 exact not_of (wpAny_truthy_bool ⟨.bl (!c),H1,I1,rfl,q1⟩)
def tIf(t:TT)(ta tb:TE):TE:=fun σ H Q=>t σ H fun c H1=>if c=true then ta σ H1 Q else tb σ H1 Q
theorem pe_ifExp{c:Expr}(hc:PT X c tA)(ha:PE X a ta)(hb:PE X b tb):PE X (.IfExp c a b pos) (tIf tA ta tb):=by
 intro pins s σ H Q I h
 refine wpAny_IfExp (thn (hc pins s σ H _ I h) fun d s1 ⟨H1,I1,q1⟩=>?_)
 cases d with
 | true=>exact ha pins s1 σ H1 Q I1 q1
 | false=>exact hb pins s1 σ H1 Q I1 q1
end
end L2
namespace L2
open PySem PySem.Spec PyProof.Rows
def SqL(K:PySem.W.Frag)(H:Hp)(a:Addr)(xs:List V):Prop :=
 Rd H a (.lst xs) ∨
  ∃(o:Obj) (its:Array Value) (n:Nat),K.lookup a=some o/\o.cls=.type "list" /\ o.dict=none/\o.data=.seq its n/\its.size<=sizeLine/\Vals xs its.toList
def SqT(K:PySem.W.Frag)(H:Hp)(a:Addr)(xs:List V):Prop :=
 Rd H a (.tup xs) ∨
  ∃(o:Obj) (its:Array Value) (n:Nat),K.lookup a=some o/\o.cls=.type "tuple" /\ o.data=.seq its n/\its.size<=sizeLine/\Vals xs its.toList
def absV:Value->Option V
 | .none=>some .non
 | .bool b=>some (.bl b)
 | .int i _=>some (.int i)
 | .str x _=>some (.str x)
 | .bytes b _=>some (.byt b)
 | .float b _=>some (.flt b)
 | .ref a=>some (.ref a)
 | .type n=>some (.ty n)
 | _=>none
theorem RelV.abs{x:V}{u:Value}(r:RelV x u):absV u=some x:=by
 cases x with
 | non=>cases r;rfl
 | bl _=>cases r;rfl
 | int _=>obtain⟨t,rfl⟩:=r;rfl
 | str _=>obtain⟨t,rfl⟩:=r;rfl
 | byt _=>obtain⟨t,rfl⟩:=r;rfl
 | flt _=>obtain⟨t,rfl⟩:=r;rfl
 | ref _=>cases r;rfl
 | ty _=>cases r;rfl
theorem RelV.inj{x y:V}{u:Value}(r:RelV x u)(q:RelV y u):x=y:=Option.some.inj (r.abs.symm.trans q.abs)
theorem Vals.inj:∀{xs ys:List V}{us:List Value},Vals xs us->Vals ys us->xs=ys
 | _,_,_,.nil,.nil=>rfl
 | _,_,_,.cons r t,.cons r' t'=>by rw[r.inj r',Vals.inj t t']
section
variable {X:Cx} {pins:List (Addr×Obj)} {σ:St} {H:Hp} {s:Shared} {a:Addr} {xs ys:List V}
theorem SqL.of{K:PySem.W.Frag}(h:H a=some (.lst xs)):SqL K H a xs:=.inl (.inl h)
theorem SqT.of{K:PySem.W.Frag}(h:H a=some (.tup xs)):SqT K H a xs:=.inl (.inl h)
theorem Inv.list(I:Inv X pins σ H s)(h:SqL X.K H a xs):∃its:List Value,Vals xs its/\PlainL s.heap a its.toArray/\xs.length<=sizeLine:=by
 rcases h with h|⟨o,its,n,hk,hc,hd,hs,hz,r⟩
 ·obtain⟨z,its,n,r,e⟩:=h.ok I.hok
  exact⟨its,r,⟨_,n,e,rfl,rfl,rfl⟩,z⟩
 ·refine⟨its.toList,r,⟨o,n,I.kIn a o hk,hc,hd,by simpa using hs⟩,?_⟩
  have e:=r.length
  simp only[Array.length_toList]at e
  omega
theorem Inv.tuple(I:Inv X pins σ H s)(h:SqT X.K H a xs):∃its:List Value,Vals xs its/\IsTup s.heap a its.toArray/\xs.length<=sizeLine:=by
 rcases h with h|⟨o,its,n,hk,hc,hs,hz,r⟩
 ·obtain⟨z,its,r,p⟩:=h.ok I.hok
  exact⟨its,r,p,z⟩
 ·refine⟨its.toList,r,⟨o,I.kIn a o hk,hc,n,by simpa using hs⟩,?_⟩
  have e:=r.length
  simp only[Array.length_toList]at e
  omega
theorem Inv.list_inj(I:Inv X pins σ H s)(h:SqL X.K H a xs)(h':SqL X.K H a ys):xs=ys:=by
 obtain⟨its,r,⟨o,n,e,_,_,d⟩,_⟩:=I.list h
 obtain⟨its',r',⟨o',n',e',_,_,d'⟩,_⟩:=I.list h'
 rw[e]at e';cases e'
 rw[d]at d'
 injection d' with d1 _
 have:its=its':=by simpa using congrArg Array.toList d1
 subst this
 exact r.inj r'
theorem Inv.tuple_inj(I:Inv X pins σ H s)(h:SqT X.K H a xs)(h':SqT X.K H a ys):xs=ys:=by
 obtain⟨its,r,⟨o,e,_,n,d⟩,_⟩:=I.tuple h
 obtain⟨its',r',⟨o',e',_,n',d'⟩,_⟩:=I.tuple h'
 rw[e]at e';cases e'
 rw[d]at d'
 injection d' with d1 _
 have:its=its':=by simpa using congrArg Array.toList d1
 subst this
 exact r.inj r'
end
abbrev Cx.wish(X:Cx)(E:Value->Shared->Prop):Cx:={X with xe:=E}
abbrev Cx.nox(X:Cx):Cx:=X.wish fun _ _=>False
theorem Cx.Ok.wish{X:Cx}(ok:X.Ok)(E:Value->Shared->Prop):(X.wish E).Ok :=
 ⟨ok.mod,ok.kind,ok.glob,ok.blt,ok.above,ok.inj,ok.has,ok.cab,ok.hd,ok.frames,ok.stk,ok.exf,ok.bs,ok.bsz,ok.noex,ok.exfs,ok.funs,ok.frf⟩
theorem Cx.Ok.unwish{X:Cx}{E:Value->Shared->Prop}(ok:(X.wish E).Ok):X.Ok :=
 ⟨ok.mod,ok.kind,ok.glob,ok.blt,ok.above,ok.inj,ok.has,ok.cab,ok.hd,ok.frames,ok.stk,ok.exf,ok.bs,ok.bsz,ok.noex,ok.exfs,ok.funs,ok.frf⟩
section
variable {X:Cx} {pins:List (Addr×Obj)} {σ:St} {H:Hp} {s:Shared} {E:Value->Shared->Prop}
theorem Inv.wish(I:Inv X pins σ H s)(E:Value->Shared->Prop):Inv (X.wish E) pins σ H s:=⟨I.ok.wish E,I.os,I.bare,I.base,I.loc,I.cell,I.free,I.freeC,I.pin,I.hok,I.len⟩
theorem Inv.unwish(I:Inv (X.wish E) pins σ H s):Inv X pins σ H s:=⟨I.ok.unwish,I.os,I.bare,I.base,I.loc,I.cell,I.free,I.freeC,I.pin,I.hok,I.len⟩
theorem SP.unwish{D:Ends}{f:Flow}{s':Shared}(h:SP (X.wish E) pins D f s'):SP X pins D f s':=by
 cases f with
 | next=>obtain⟨σ',H',I,q⟩:=h;exact⟨σ',H',I.unwish,q⟩
 | brk=>obtain⟨σ',H',I,q⟩:=h;exact⟨σ',H',I.unwish,q⟩
 | cont=>obtain⟨σ',H',I,q⟩:=h;exact⟨σ',H',I.unwish,q⟩
 | ret u=>obtain⟨v,σ',H',I,r,q⟩:=h;exact⟨v,σ',H',I.unwish,r,q⟩
theorem PE.nox{e:Expr}{t:TE}(h:PE X.nox e t):PE X e t:=fun pins s σ H Q I hw =>
 wpAny_mono (h pins s σ H Q (I.wish _) hw) (fun _ _ ⟨v,H',I',r,q⟩=>⟨v,H',I'.unwish,r,q⟩) fun _ _ z=>False.elim z
theorem PT.nox{e:Expr}{t:TT}(h:PT X.nox e t):PT X e t:=fun pins s σ H Q I hw =>
 wpAny_mono (h pins s σ H Q (I.wish _) hw) (fun _ _ ⟨H',I',q⟩=>⟨H',I'.unwish,q⟩) fun _ _ z=>False.elim z
theorem PSs.nox{st:List Stmt}{t:TS}(h:PSs X.nox st t):PSs X st t:=fun pins s σ H D I hw =>
 wpAny_mono (h pins s σ H D (I.wish _) hw) (fun _ _ q=>q.unwish) fun _ _ z=>False.elim z
end
section
variable {X:Cx} {st:Stmt} {rest:List Stmt} {t u:TS} {e:Expr} {te:TE} {pos:Pos}
def tNext:TS:=fun D σ H=>D.nx σ H
def tSeq(t u:TS):TS:=fun D σ H=>t {D with nx:=u D} σ H
theorem pss_nil:PSs X [] tNext:=fun _ _ σ H _ I h=>wpAny_execs_nil ⟨σ,H,I,h⟩
theorem pss_cons(h1:PS X st t)(h2:PSs X rest u):PSs X (st::rest) (tSeq t u):=by
 intro pins s σ H D I h
 refine wpAny_execs_cons (thn (h1 pins s σ H {D with nx:=u D} I h) fun f s1 q=>?_)
 cases f with
 | next =>
  obtain⟨σ',H',I',q⟩:=q
  exact h2 pins s1 σ' H' D I' q
 | ret v=>exact q
 | brk=>exact q
 | cont=>exact q
theorem pss_one(h1:PS X st t):PSs X [st] t:=by
 intro pins s σ H D I h
 refine wpAny_execs_cons (thn (h1 pins s σ H D I h) fun f s1 q=>?_)
 cases f with
 | next=>exact wpAny_execs_nil q
 | ret v=>exact q
 | brk=>exact q
 | cont=>exact q
theorem Inv.quiet{pins:List (Addr×Obj)}{σ:St}{H:Hp}{s:Shared}(I:Inv X pins σ H s):interactive X.env=false:=by simp[interactive,I.ok.kind]
def tDrop(te:TE):TS:=fun D σ H=>te σ H fun _ H1=>D.nx σ H1
theorem ps_expr(he:PE X e te)(hs:swapsWith e none pos.line X.env=pure false:=by rfl):PS X (.Expr e pos) (tDrop te):=by
 intro pins s σ H D I h
 exact wpAny_Expr_any (thn (he pins s σ H _ I h) fun v s1 ⟨x,H1,I1,r1,q1⟩=>⟨σ,H1,I1,q1⟩) I.quiet hs
def tRet(te:TE):TS:=fun D σ H=>te σ H D.rt
theorem ps_ret(he:PE X e te):PS X (.Return (some e) pos) (tRet te):=by
 intro pins s σ H D I h
 exact wpAny_Return_some (thn (he pins s σ H _ I h) fun v s1 ⟨x,H1,I1,r1,q1⟩=>⟨x,σ,H1,I1,r1,q1⟩)
def tIfS(c:TT)(t u:TS):TS:=fun D σ H=>c σ H fun b H1=>if b=true then t D σ H1 else u D σ H1
theorem ps_if{c:Expr}{a b:List Stmt}{tc:TT}(hc:PT X c tc)(ha:PSs X a t)(hb:PSs X b u):PS X (.If c a b pos) (tIfS tc t u):=by
 intro pins s σ H D I h
 refine wpAny_If (thn (hc pins s σ H _ I h) fun d s1 ⟨H1,I1,q1⟩=>?_)
 cases d with
 | true=>exact ha pins s1 σ H1 D I1 q1
 | false=>exact hb pins s1 σ H1 D I1 q1
def tNever:TS:=fun _ _ _=>False
theorem ps_never:PS X st tNever:=fun _ _ _ _ _ _ h=>h.elim
end
abbrev TG:=V->St->Hp->(St->Hp->Prop)->Prop
abbrev TGs:=List V->St->Hp->(St->Hp->Prop)->Prop
def PG(X:Cx)(target:Expr)(t:TG):Prop :=
 ∀(pins:List (Addr×Obj))(s:Shared)(σ:St)(H:Hp)(v:V)(u:Value)(Q:St->Hp->Prop),Inv X pins σ H s->RelV v u->t v σ H Q →
  wpAny (model X.prog X.w) X.A (assign target X.env u) (fun _ s'=>∃σ' H',Inv X pins σ' H' s'/\Q σ' H') X.xe s
def PGs(X:Cx)(ts:List Expr)(t:TGs):Prop :=
 ∀(pins:List (Addr×Obj))(s:Shared)(σ:St)(H:Hp)(vs:List V)(us:List Value)(Q:St->Hp->Prop),Inv X pins σ H s->Vals vs us->t vs σ H Q →
  wpAny (model X.prog X.w) X.A (assignInOrder ((assignEach ts X.env).map (·.2)) us) (fun _ s'=>∃σ' H',Inv X pins σ' H' s'/\Q σ' H') X.xe s
abbrev TIp:=V->V->Hp->VK->Prop
def PIp(X:Cx)(op:Operator)(t:TIp):Prop :=
 ∀(pins:List (Addr×Obj))(s:Shared)(σ:St)(H:Hp)(x y:V)(v u:Value)(Q:VK),Inv X pins σ H s->RelV x v->RelV y u->t x y H Q →
  wpAny (model X.prog X.w) X.A (inplaceOp op v u) (EP X pins σ Q) X.xe s
section
variable {X:Cx} {pos:Pos}
def gName(i:Nat):TG:=fun v σ H Q=>Q (σ.set i (some v)) H
theorem pg_name{i:Nat}{x:Str}(hN:X.N.Nodup)(hi:X.N[i]?=some x)(hx:Loc X.env.scope x)(hf:X.fn x=true∨X.env.scope.names.lookup x=some .local:=by first|exact .inl rfl|exact .inr rfl|assumption):PG X (.Name x pos) (gName i):=by
 intro pins s σ H v u Q I r h
 exact wpAny_assign_Name (store_ok I hN hi hx r (fun s' I'=>⟨_,H,I',h⟩) hf)
def gNil:TGs:=fun vs σ H Q=>vs=[]/\Q σ H
def gCons(t:TG)(u:TGs):TGs:=fun vs σ H Q=>∃v r,vs=v::r/\t v σ H fun σ' H'=>u r σ' H' Q
theorem pgs_nil:PGs X [] gNil:=by
 intro pins s σ H vs us Q I r h
 obtain⟨e,h⟩:=h
 subst e
 cases r
 exact assignInOrder_nil ⟨σ,H,I,h⟩
theorem pgs_cons{e:Expr}{es:List Expr}{t:TG}{u:TGs}(h1:PG X e t)(h2:PGs X es u)
  (hs:(assignEach (e::es) X.env).map (·.2)=assign e X.env::(assignEach es X.env).map (·.2):=by rfl):PGs X (e::es) (gCons t u):=by
 intro pins s σ H vs us Q I r h
 obtain⟨v,vr,e1,h⟩:=h
 subst e1
 cases r with
 | cons r rr =>
  rw[hs]
  refine assignInOrder_cons (thn (h1 pins s σ H _ _ _ I r h) fun _ s1 ⟨σ1,H1,I1,q1⟩=>?_)
  exact h2 pins s1 σ1 H1 _ _ Q I1 rr q1
def gTup(K:PySem.W.Frag)(n:Nat)(t:TGs):TG:=fun v σ H Q=>∃a xs,v=.ref a/\SqT K H a xs/\xs.length=n/\t xs σ H Q
theorem pg_tup{es:List Expr}{k:Nat}{t:TGs}{n:Nat}(hc:X.calm=true)(h:PGs X es t)
  (hn:(assignEach es X.env).length=n:=by rfl) (hst:(assignEach es X.env).findIdx? (·.1)=none:=by rfl):PG X (.Tuple es k pos) (gTup X.K n t):=by
 intro pins s σ H v u Q I r hw
 obtain⟨a,xs,e1,hq,hl,hw⟩:=hw
 subst e1
 cases r
 obtain⟨its,rv,ht,hz⟩:=I.tuple hq
 refine assign_Tuple_tuple (I.ok.hd hc) ht (by simp[hn,← hl,rv.length]) hst fun h' hx=>?_
 have I1:Inv X pins σ H {s with heap:=h' }:=I.kept (t':=s.toks) fun b o e=>hx b o (Nat.ne_of_lt (Heap.lt_size e)) e
 exact h pins _ σ H xs _ Q I1 (by simpa using rv) hw
def tAsg(te:TE)(g:TG):TS:=fun D σ H=>te σ H fun x H1=>g x σ H1 D.nx
theorem ps_asg{tg e:Expr}{te:TE}{g:TG}(he:PE X e te)(hg:PG X tg g)(hs:swapsWithSole [tg] e pos.line X.env=pure false:=by rfl)(hw:swappedStores [tg] e X.env=pure none:=by rfl)
  (h1:(assignEach [tg] X.env).map (·.2)=[assign tg X.env]:=by rfl):PS X (.Assign [tg] e pos) (tAsg te g):=by
 intro pins s σ H D I h
 refine wpAny_Assign_stores (thn (he pins s σ H _ I h) fun v s1 ⟨x,H1,I1,r1,q1⟩=>?_) hs hw
 rw[h1]
 exact thn (hg pins s1 σ H1 x v _ I1 r1 q1) fun _ s2 q=>q
theorem ps_set{i:Nat}{x:Str}{e:Expr}{te:TE}{pos':Pos}(hN:X.N.Nodup)(hi:X.N[i]?=some x)(hx:Loc X.env.scope x)(he:PE X e te)(hs:swapsWith e (some (.Name x pos')) pos.line X.env=pure false:=by rfl)(hf:X.fn x=true∨X.env.scope.names.lookup x=some .local:=by first|exact .inl rfl|exact .inr rfl|assumption) :
  PS X (.Assign [.Name x pos'] e pos) (tAsg te (gName i)):=by
 intro pins s σ H D I h
 refine wpAny_Assign_Name (thn (he pins s σ H _ I h) fun v s1 ⟨y,H1,I1,r1,q1⟩=>?_) hs
 exact store_ok I1 hN hi hx r1 (fun s2 I2=>⟨_,H1,I2,q1⟩) hf
def tPar(i j:Nat)(ta:TA):TS:=fun D σ H=>ta σ H fun vs H1=>∃v w,vs=[v,w]/\D.nx ((σ.set i (some v)).set j (some w)) H1
theorem ps_par{i j:Nat}{x y:Str}{a b:Expr}{ta:TA}{px py pt:Pos}{kt k2 pt2}(hc:X.calm=true)(hN:X.N.Nodup)(hi:X.N[i]?=some x)(hj:X.N[j]?=some y)(hij:i≠j)
  (hx:X.env.scope.names.lookup x=some .local) (hy:X.env.scope.names.lookup y=some .local) (ha:PA X [a,b] ta)
  (hw:swappedStores [.Tuple [.Name x px,.Name y py] kt pt] (.Tuple [a,b] k2 pt2) X.env=pure (some [x,y]))
  (hs:swapsWithSole [.Tuple [.Name x px,.Name y py] kt pt] (.Tuple [a,b] k2 pt2) pos.line X.env=pure false:=by rfl) :
  PS X (.Assign [.Tuple [.Name x px,.Name y py] kt pt] (.Tuple [a,b] k2 pt2) pos) (tPar i j ta):=by
 intro pins s σ H D I h
 rw[exec_Assign_arm]
 refine wpAny_bind (wpAny_standAt ?_)
 rw[hs]
 refine wpAny_bind (wpAny_pure ?_)
 rw[if_neg (by decide)]
 refine wpAny_bind (Tuple_ (thn (ha _ pins s σ H _ I h) fun us s1 ⟨vs,H1,I1,r1,q1⟩=>?_))
 obtain⟨v,w,e1,q1⟩:=q1
 subst e1
 obtain⟨u1,u2,rfl,rv,rw'⟩:∃u1 u2,us=[u1,u2]/\RelV v u1/\RelV w u2:=by
  cases r1 with
  | cons p q =>
   cases q with
   | cons p' q' =>
    cases q'
    exact⟨_,_,rfl,p,p'⟩
 refine wpAny_newObj_type ?_ (by show 2<=sizeLine;decide)
 have I2:Inv X pins σ H1 {s1 with heap:=s1.heap.push {cls:=.type "tuple", data:=.seq [u1,u2].toArray} }:=I1.kept (t':=s1.toks) fun b o e=>Heap.get?_push_of_some _ e
 rw[hw]
 refine wpAny_bind (wpAny_pure ?_)
 show wpAny (model X.prog X.w) X.A (do rule "assign.swapped-stores"; let items ← unpackItems (.ref s1.heap.objs.size) 2 none;assignInOrder [fun v=>bindName X.env y v,fun v=>bindName X.env x v] items.reverse;pure Flow.next) _ _ _
 refine wpAny_bind (wpAny_rule (wpAny_bind (unpackItems_tuple (items:=#[u1,u2]) (I.ok.hd hc) (IsTup.new s1.heap _) fun h' hx'=>?_)))
 have I3:=I2.kept (h':=h') (t':=s1.toks) fun b o e=>hx' b o (Nat.ne_of_lt (Heap.lt_size e)) e
 show wpAny _ _ (assignInOrder [fun v=>bindName X.env y v,fun v=>bindName X.env x v] [u2,u1] >>= fun _=>pure Flow.next) _ _ _
 refine wpAny_bind (assignInOrder_cons (wpAny_bindName (store_ok I3 hN hj (.inl hy) rw' (fun s2 I4=>?_) (.inr hy))))
 refine assignInOrder_cons (wpAny_bindName (store_ok I4 hN hi (.inl hx) rv (fun s3 I5=>assignInOrder_nil (wpAny_pure ?_)) (.inr hx)))
 rw[List.set_comm _ _ (Ne.symm hij)]at I5
 exact⟨_,H1,I5,q1⟩
def tAug(i:Nat)(te:TE)(ti:TIp):TS:=fun D σ H=>∃x,σ[i]?=some (some x)/\te σ H fun y H1=>ti x y H1 fun z H2=>D.nx (σ.set i (some z)) H2
theorem ps_aug{i:Nat}{x:Str}{e:Expr}{te:TE}{op:Operator}{ti:TIp}{pos':Pos}(hN:X.N.Nodup)(hi:X.N[i]?=some x)(hx:Loc X.env.scope x)(he:PE X e te)(ho:PIp X op ti)(hf:X.fn x=true∨X.env.scope.names.lookup x=some .local:=by first|exact .inl rfl|exact .inr rfl|assumption) :
  PS X (.AugAssign (.Name x pos') op e pos) (tAug i te ti):=by
 intro pins s σ H D I h
 obtain⟨v,e1,h⟩:=h
 obtain⟨m,hn,hl⟩:=I.loc
 have vis:Vis X.env.scope x:=by rcases hx with k|k;exact .inl k;exact .inr (.inl k)
 obtain⟨u,r,l⟩:=hl i x v hi e1 vis
 refine wpAny_AugAssign_Name ?_
 have go:wpAny (model X.prog X.w) X.A (eval e X.env) (fun w s₂=>wpAny (model X.prog X.w) X.A (inplaceOp op u w) (fun r s₃=>wpAny (model X.prog X.w) X.A (storeName X.env x r) (fun _=>SP X pins D .next) X.xe s₃) X.xe s₂) X.xe s:=by
  refine thn (he pins s σ H _ I h) fun w s1 ⟨y,H1,I1,r1,q1⟩=>?_
  refine thn (ho pins s1 σ H1 v y u w _ I1 r r1 q1) fun z s2 ⟨zv,H2,I2,r2,q2⟩=>?_
  exact store_ok I2 hN hi hx r2 (fun s3 I3=>⟨_,H2,I3,q2⟩) hf
 rcases l with ⟨hk,hm⟩|⟨hk,c,hc,hcell⟩
 ·exact wpAny_loadName_local I.ok.kind hk hn hm go
 ·rcases hk with hk|hk
  ·exact wpAny_loadName_cell I.ok.kind hk hc hcell go
  ·rcases hx with k|k
   ·have:X.env.scope.names.lookup x=some .free:=hk
    rw[k]at this;cases this
   ·have:X.env.scope.names.lookup x=some .free:=hk
    rw[k]at this;cases this
def ipI(f:Int->Int->Int):TIp:=fun x y H Q=>∃i j,x=.int i/\y=.int j/\Q (.int (f i j)) H
theorem ip_add:PIp X .Add (ipI fun i j=>i + j):=by
 intro pins s σ H x y v u Q I r1 r2 h
 obtain⟨i,j,e1,e2,q⟩:=h
 subst e1;subst e2
 obtain⟨t,rfl⟩:=r1
 obtain⟨t',rfl⟩:=r2
 exact iadd_int ⟨.int _,H,I.tok _,⟨_,rfl⟩,q⟩
end
section
variable {X:Cx} {pos:Pos}
def tWhile(c:TT)(tb:TS):TS:=fun D σ H=>∃W:Nat->St->Hp->Prop,(∃m,W m σ H)/\∀m σ H,W m σ H →
 c σ H fun b H1=>if b=true then ∃N:St->Hp->Prop,(∀σ' H',N σ' H'->∃m',m' < m/\W m' σ' H')/\tb {D with nx:=N,ct:=N,bk:=D.nx} σ H1 else D.nx σ H1
theorem ps_while{c:Expr}{body:List Stmt}{tc:TT}{tb:TS}(hp:PassesOwn (model X.prog X.w) X.A X.env X.xe)(hc:PT X c tc)(hb:PSs X body tb):PS X (.While c body [] pos) (tWhile tc tb):=by
 intro pins s σ H D I h
 obtain⟨W,⟨m0,w0⟩,turn⟩:=h
 refine wpAny_While (codeAny_whileLoop (fun n s'=>∃σ' H',Inv X pins σ' H' s'/\W n σ' H') ?_ m0 ⟨σ,H,I,w0⟩)
 rintro n s1 ⟨σ1,H1,I1,w1⟩
 refine wpAny_passesOwn hp (thn (hc pins s1 σ1 H1 _ I1 (turn n σ1 H1 w1)) fun b s2 ⟨H2,I2,q2⟩=>?_)
 cases b with
 | true =>
  obtain⟨N,hN,q2⟩:=q2
  rw[if_pos rfl]
  refine wpAny_passesOwn hp (thn (hb pins s2 σ1 H2 _ I2 q2) fun f s3 q3=>?_)
  cases f with
  | next =>
   obtain⟨σ3,H3,I3,n3⟩:=q3
   obtain⟨m',hm,w3⟩:=hN σ3 H3 n3
   exact⟨m',hm,σ3,H3,I3,w3⟩
  | cont =>
   obtain⟨σ3,H3,I3,n3⟩:=q3
   obtain⟨m',hm,w3⟩:=hN σ3 H3 n3
   exact⟨m',hm,σ3,H3,I3,w3⟩
  | brk=>exact q3
  | ret v=>exact q3
 | false =>
  rw[if_neg Bool.false_ne_true]
  exact wpAny_execs_nil ⟨σ1,H2,I2,q2⟩
end
structure It where
 go:Nat->Hp->Prop
 yld:Nat->Hp->V->Hp->Prop
 stop:Nat->Hp->Prop
def FpOk(X:Cx)(pins:List (Addr×Obj))(H:Hp)(b:Addr):Prop :=
 H b=none/\b≠X.env.locals/\b∉X.fs/\(b∈X.ex∨X.s₀.heap.objs.size<=b)/\(∀x c,X.env.cells.lookup x=some c->c≠b)/\∀p∈X.pn++pins,p.1≠b
theorem Inv.fpOk{X:Cx}{pins:List (Addr×Obj)}{σ:St}{H H':Hp}{s:Shared}{b:Addr}(I:Inv X pins σ H s)(hb:s.heap.objs.size<=b)(hn:H' b=none):FpOk X pins H' b:=by
 refine⟨hn,Nat.ne_of_gt (Nat.lt_of_lt_of_le I.lt hb),I.nofs hb,.inr (Nat.le_trans I.sz hb),fun x c e z=>?_,fun p hp z=>?_⟩
 ·obtain⟨v,q⟩:=I.cell x c e
  exact absurd (Nat.lt_of_lt_of_le q.lt (by rw[z];exact hb)) (Nat.lt_irrefl _)
 ·exact absurd (Nat.lt_of_lt_of_le (Heap.lt_size (I.pin p hp).1) (by rw[z];exact hb)) (Nat.lt_irrefl _)
structure Turn(P:Program)(w:World)(K:PySem.W.Frag)(tg:Expr)(J:It)(fp:List Addr)(it:Addr)(tn:Nat->Heap->Prop):Prop where
 mem:it∈fp
 obj:∀i h,tn i h->∀b∈fp,∃o,h.get? b=some o/\∀v,o.data ≠ .cell v
 keep:∀i h h',tn i h->(∀b∈fp,∀o,h.get? b=some o->h'.get? b=some o)->tn i h'
 item:∀(X:Cx),X.prog=P->X.w=w->X.K=K->X.calm=true->∀(i:Nat)(pins:List (Addr×Obj))(s:Shared)(σ:St)(H:Hp)(E:Value->Shared->Prop),Inv X pins σ H s->(∀b∈fp,FpOk X pins H b)->tn i s.heap->J.go i H →
  wpAny (model P w) X.A (pyNext (.ref it)) (fun r s1=>∃u,r=some u ∧
   wpAny (model P w) X.A (letOwnedTupleGo tg (.ref it) u) (fun _ s2=>∃x H',Inv X pins σ H' s2/\RelV x u/\J.yld i H x H'/\tn (i + 1) s2.heap/\∀b∈fp,H' b=none) E s1) E s
 done:∀(X:Cx),X.prog=P->X.w=w->X.K=K->X.calm=true->∀(i:Nat)(pins:List (Addr×Obj))(s:Shared)(σ:St)(H:Hp)(E:Value->Shared->Prop),Inv X pins σ H s->(∀b∈fp,FpOk X pins H b)->tn i s.heap->J.stop i H →
  wpAny (model P w) X.A (pyNext (.ref it)) (fun r s1=>r=none/\Inv X pins σ H s1) E s
 self:∀(A:Around)(i:Nat)(s:Shared)(Q:Value->Shared->Prop)(E:Value->Shared->Prop),tn i s.heap->Q (.ref it) s->wpAny (model P w) A (pyIter (.ref it)) Q E s
abbrev TI:=St->Hp->(It->Hp->Prop)->Prop
def PIE(X:Cx)(pins:List (Addr×Obj))(σ:St)(tg:Expr)(R:It->Hp->Prop)(itv:Value)(s2:Shared):Prop :=
 ∃(it:Addr) (fp:List Addr) (tn:Nat->Heap->Prop) (J:It) (H':Hp),itv=.ref it/\Inv X pins σ H' s2/\Turn X.prog X.w X.K tg J fp it tn/\tn 0 s2.heap/\(∀b∈fp,FpOk X pins H' b)/\R J H'
def PI(X:Cx)(tg iter:Expr)(wi:TI):Prop :=
 ∀(pins:List (Addr×Obj))(s:Shared)(σ:St)(H:Hp)(R:It->Hp->Prop),Inv X pins σ H s->wi σ H R →
  wpAny (model X.prog X.w) X.A (eval iter X.env) (fun v s1=>wpAny (model X.prog X.w) X.A (pyIter v) (PIE X pins σ tg R) X.xe s1) X.xe s
theorem go_of {M:Model} {A:Around} {E:Value->Shared->Prop} {s:Shared} {tg:Expr} {it:Addr} {u:Value} {o:Obj} {n:String} {vs:Array Value} {Q:Unit->Shared->Prop} (ho:s.heap.get? it=some o) (hc:o.cls=.type n) (hd:o.data=.fields vs)
    (hn:["enumerate", "zip", "dict_itemiterator", "dict_reverseitemiterator", "odict_iterator", "itertools.zip_longest", "itertools.pairwise"].contains n=false) (hQ:Q () s):wpAny M A (letOwnedTupleGo tg (.ref it) u) Q E s:=by
  unfold letOwnedTupleGo
  cases tg <;> first
    | exact wpAny_pure hQ
    | (cases u<;>first
        | exact wpAny_pure hQ
        | (refine wpAny_bind (wpAny_load ho ?_)
           rw[hc,hd]
           show wpAny M A (if (["enumerate", "zip", "dict_itemiterator", "dict_reverseitemiterator", "odict_iterator", "itertools.zip_longest", "itertools.pairwise"].contains n&&vs[0]?==some (rawInt _))=true then _ else _) Q E s
           rw[if_neg (by intro h;rw[hn,Bool.false_and]at h;cases h)]
           exact wpAny_pure hQ))
def Itl(K:PySem.W.Frag)(a:Addr):It :=
 ⟨fun i H=>∃xs x,SqL K H a xs/\xs[i]?=some x,fun i H x H'=>H'=H/\∀xs,SqL K H a xs->xs[i]?=some x,fun i H=>∃xs,SqL K H a xs/\xs.length<=i⟩
def Itt(K:PySem.W.Frag)(a:Addr):It :=
 ⟨fun i H=>∃xs x,SqT K H a xs/\xs[i]?=some x,fun i H x H'=>H'=H/\∀xs,SqT K H a xs->xs[i]?=some x,fun i H=>∃xs,SqT K H a xs/\xs.length<=i⟩
def Itr(lo:Int)(n:Nat):It:=⟨fun i _=>i < n,fun i H x H'=>H'=H/\x=.int (lo + i),fun i _=>n<=i⟩
theorem turn_list{P:Program}{w:World}{K:PySem.W.Frag}{tg:Expr}(a it:Addr):Turn P w K tg (Itl K a) [it] it (fun i h=>h.IsListIter it a i) where
 mem:=by simp
 obj:=fun i h st b hb=>by
  have e:b=it:=by simpa using hb
  subst e
  obtain⟨o,e,c,d⟩:=st
  exact⟨o,e,fun v z=>by rw[d]at z;cases z⟩
 keep:=fun i h h' st k=>st.at fun o e=>k it (by simp) o e
 item:=by
  intro X hP hw hK hc i pins s σ H E I hf st hg
  subst hP hw hK
  obtain⟨xs,x,hq,hx⟩:=hg
  obtain⟨its,rv,p,hz⟩:=I.list hq
  obtain⟨u,hu,ru⟩:=rv.get hx
  obtain⟨f0,f1,f2,f3,f4,f5⟩:=hf it (by simp)
  refine wpAny_pyNext_list_item st p.isList (x:=u) (by simpa using hu) fun h' st' sb=>?_
  have I1:Inv X pins σ H {s with heap:=h' }:=I.turned (t':=s.toks) (fun b o hb e=>(sb.2 b hb).trans e) f0 f1 f3 f4 f5
  obtain⟨o,e,c,d⟩:=id st'
  exact⟨u,rfl,go_of (s:={s with heap:=h' }) e c d (by decide) ⟨x,H,I1,ru,⟨rfl,fun ys hy=>by rw[I.list_inj hy hq];exact hx⟩,st',fun b hb=>(hf b hb).1⟩⟩
 done:=by
  intro X hP hw hK hc i pins s σ H E I hf st hg
  subst hP hw hK
  obtain⟨xs,hq,hx⟩:=hg
  obtain⟨its,rv,p,hz⟩:=I.list hq
  obtain⟨f0,f1,f2,f3,f4,f5⟩:=hf it (by simp)
  have hl:=rv.length
  exact wpAny_pyNext_list_end (I.ok.hd hc) st p.isList (by simp;omega) fun h' eb=>⟨rfl,I.turned (t':=s.toks) (fun b o hb e=>eb b o hb e) f0 f1 f3 f4 f5⟩
 self:=fun _ _ _ _ _ st h=>wpAny_pyIter_listiter st h
theorem turn_tuple{P:Program}{w:World}{K:PySem.W.Frag}{tg:Expr}(a it:Addr):Turn P w K tg (Itt K a) [it] it (fun i h=>h.IsTupleIter it a i) where
 mem:=by simp
 obj:=fun i h st b hb=>by
  have e:b=it:=by simpa using hb
  subst e
  obtain⟨o,e,c,d⟩:=st
  exact⟨o,e,fun v z=>by rw[d]at z;cases z⟩
 keep:=fun i h h' st k=>st.at fun o e=>k it (by simp) o e
 item:=by
  intro X hP hw hK hc i pins s σ H E I hf st hg
  subst hP hw hK
  obtain⟨xs,x,hq,hx⟩:=hg
  obtain⟨its,rv,p,hz⟩:=I.tuple hq
  obtain⟨u,hu,ru⟩:=rv.get hx
  obtain⟨f0,f1,f2,f3,f4,f5⟩:=hf it (by simp)
  refine wpAny_pyNext_tuple_item st (show s.heap.IsTuple a its.toArray from p) (x:=u) (by simpa using hu) fun h' st' sb=>?_
  have I1:Inv X pins σ H {s with heap:=h' }:=I.turned (t':=s.toks) (fun b o hb e=>(sb.2 b hb).trans e) f0 f1 f3 f4 f5
  obtain⟨o,e,c,d⟩:=id st'
  exact⟨u,rfl,go_of (s:={s with heap:=h' }) e c d (by decide) ⟨x,H,I1,ru,⟨rfl,fun ys hy=>by rw[I.tuple_inj hy hq];exact hx⟩,st',fun b hb=>(hf b hb).1⟩⟩
 done:=by
  intro X hP hw hK hc i pins s σ H E I hf st hg
  subst hP hw hK
  obtain⟨xs,hq,hx⟩:=hg
  obtain⟨its,rv,p,hz⟩:=I.tuple hq
  obtain⟨f0,f1,f2,f3,f4,f5⟩:=hf it (by simp)
  have hl:=rv.length
  exact wpAny_pyNext_tuple_end (I.ok.hd hc) st (show s.heap.IsTuple a its.toArray from p) (by simp;omega) fun h' eb=>⟨rfl,I.turned (t':=s.toks) (fun b o hb e=>eb b o hb e) f0 f1 f3 f4 f5⟩
 self:=fun _ _ _ _ _ st h=>wpAny_pyIter_tupleiter st h
theorem turn_range{P:Program}{w:World}{K:PySem.W.Frag}{tg:Expr}(it:Addr)(lo:Int)(n:Nat):Turn P w K tg (Itr lo n) [it] it (fun i h=>IsRangeIter h it (lo + (i:Nat) * 1) ((n:Int) - (i:Nat)) 1) where
 mem:=by simp
 obj:=fun i h st b hb=>by
  have e:b=it:=by simpa using hb
  subst e
  exact⟨_,st,fun v z=>by
   have z':Data.fields _=Data.cell v:=z
   cases z'⟩
 keep:=fun i h h' st k=>k it (by simp) _ st
 item:=by
  intro X hP hw hK hc i pins s σ H E I hf st hg
  subst hP hw hK
  obtain⟨f0,f1,f2,f3,f4,f5⟩:=hf it (by simp)
  have W:=Walks.range (prog:=X.prog) (w:=X.w) (I.ok.hd hc) it lo 1 n
  refine W.item i s _ _ hg st fun v h' tk hv st' kk=>?_
  obtain⟨t,rfl⟩:=hv
  have I1:Inv X pins σ H {s with heap:=h',toks:=tk}:=I.turned (fun b o hb e=>kk b o (by simpa using hb) e) f0 f1 f3 f4 f5
  refine⟨_,rfl,go_of (s:={s with heap:=h',toks:=tk}) (n := "range_iterator") st' rfl rfl (by decide) ⟨.int (lo + i),H,I1,⟨t,?_⟩,⟨rfl,rfl⟩,st',fun b hb=>(hf b hb).1⟩⟩
  rw[Int.mul_one]
 done:=by
  intro X hP hw hK hc i pins s σ H E I hf st hg
  subst hP hw hK
  obtain⟨f0,f1,f2,f3,f4,f5⟩:=hf it (by simp)
  exact wpAny_pyNext_range_end (I.ok.hd hc) st (by have:n<=i:=hg;omega) fun h' eb=>⟨rfl,I.turned (t':=s.toks) (fun b o hb e=>eb b o hb e) f0 f1 f3 f4 f5⟩
 self:=fun _ _ _ _ _ st h=>wpAny_pyIter_rangeiter st h
end L2
namespace L2
open PySem PySem.Spec PyProof.Rows
section
variable {X:Cx} {tg:Expr}
theorem range_it{pins:List (Addr×Obj)}{σ:St}{H:Hp}{s:Shared}{R:It->Hp->Prop}{E:Value->Shared->Prop}{lo hi:Int}{t u v:Tok}{tk:Nat}(I:Inv X pins σ H s)(h1:-(2 ^ 62)<=lo)(h2:lo < 2 ^ 62)(h3:-(2 ^ 62)<=hi)(h4:hi < 2 ^ 62)
  (q:R (Itr lo (hi - lo).toNat) H):wpAny (model X.prog X.w) X.A (pyIter (.ref s.heap.objs.size)) (PIE X pins σ tg R) E {s with heap:=s.heap.push {cls:=.type "range", data:=.fields #[.int lo t,.int hi u,.int 1 v]},toks:=tk}:=by
 refine wpAny_pyIter_range (IsRange.new ..) (small_one h1 h2 h3 h4) ?_
 have I1:Inv X pins σ H {s with heap:=s.heap.push {cls:=.type "range", data:=.fields #[.int lo t,.int hi u,.int 1 v]},toks:=tk}:=I.kept fun b o e=>Heap.get?_push_of_some _ e
 refine⟨(s.heap.push {cls:=.type "range", data:=.fields #[.int lo t,.int hi u,.int 1 v]}).objs.size,[(s.heap.push {cls:=.type "range", data:=.fields #[.int lo t,.int hi u,.int 1 v]}).objs.size],_,_,H,rfl,
  I1.kept (t':=tk) fun b o e=>Heap.get?_push_of_some _ e,turn_range _ lo (hi - lo).toNat,?_,fun b hb=>?_,q⟩
 ·have e1:lo + ((0:Nat):Int) * 1=lo:=by simp
  have e2:(((hi - lo).toNat:Nat):Int) - ((0:Nat):Int)=Builtin.Range.rangeSize lo hi 1:=by rw[rangeSize_one];split<;>omega
  show IsRangeIter _ _ (lo + ((0:Nat):Int) * 1) ((((hi - lo).toNat:Nat):Int) - ((0:Nat):Int)) 1
  rw[e1,e2]
  exact Heap.get?_push_size _ rfl
 ·have e:b=(s.heap.push {cls:=.type "range", data:=.fields #[.int lo t,.int hi u,.int 1 v]}).objs.size:=by simpa using hb
  subst e
  exact I1.fpOk (Nat.le_refl _) (I1.hok.fresh (Nat.le_refl _))
def iRng1(ta:TA):TI:=fun σ H R=>ta σ H fun vs H1=>∃j:Int,vs=[.int j] /\ -(2 ^ 62)<=j/\j < 2 ^ 62/\R (Itr 0 j.toNat) H1
def iRng2(ta:TA):TI:=fun σ H R=>ta σ H fun vs H1=>∃i j:Int,vs=[.int i,.int j]/\(-(2 ^ 62)<=i/\i < 2 ^ 62 /\ -(2 ^ 62)<=j/\j < 2 ^ 62)/\R (Itr i (j - i).toNat) H1
theorem pi_range1{a:Expr}{ta:TA}{p pos:Pos} (hg:Gl X "range") (hm:X.mg "range" = none) (ha:PA X [a] ta) (hs:starEach [a] X.env=[(false,eval a X.env)]:=by rfl):PI X tg (.Call (.Name "range" p) [a] [] pos) (iRng1 ta):=by
 intro pins s σ H R I h
 refine Call_ (ld_blt I hg hm boot_range (PyProof.Rows.callWith_type1 (thn (ha pos pins s σ H _ I h) fun us s1 ⟨vs,H1,I1,r1,q1⟩=>?_) hs rfl))
 obtain⟨j,e,q1,q2,q⟩:=q1
 subst e
 cases r1 with
 | cons r rr =>
  cases rr
  obtain⟨t,rfl⟩:=r
  exact call_range_1 (range_it I1 (by omega) (by omega) q1 q2 (by simpa using q))
theorem pi_range2{a b:Expr}{ta:TA}{p pos:Pos} (hg:Gl X "range") (hm:X.mg "range" = none) (ha:PA X [a,b] ta) (hs:starEach [a,b] X.env=[(false,eval a X.env),(false,eval b X.env)]:=by rfl) (hs2:starEach [b] X.env=[(false,eval b X.env)]:=by rfl) :
  PI X tg (.Call (.Name "range" p) [a,b] [] pos) (iRng2 ta):=by
 intro pins s σ H R I h
 refine Call_ (ld_blt I hg hm boot_range (PyProof.Rows.callWith_type1 (thn (ha pos pins s σ H _ I h) fun us s1 ⟨vs,H1,I1,r1,q1⟩=>?_) (by rw[hs,hs2]) (by rw[hs2];rfl)))
 obtain⟨i,j,e,⟨q1,q2,q3,q4⟩,q⟩:=q1
 subst e
 cases r1 with
 | cons r rr =>
  cases rr with
  | cons r' rr =>
   cases rr
   obtain⟨t,rfl⟩:=r
   obtain⟨t',rfl⟩:=r'
   exact call_range_2 (range_it I1 q1 q2 q3 q4 q)
def tFor(wi:TI)(g:TG)(tb:TS):TS:=fun D σ H=>wi σ H fun J H1=>∃W:Nat->Nat->St->Hp->Prop,(∃m,W 0 m σ H1)/\∀i m σ H,W i m σ H →
 (J.stop i H/\D.nx σ H)∨(J.go i H/\∃N:St->Hp->Prop,(∀σ' H',N σ' H'->∃m',m' < m/\W (i + 1) m' σ' H')/\∀x H',J.yld i H x H'->g x σ H' fun σ2 H2=>tb {D with nx:=N,ct:=N,bk:=D.nx} σ2 H2)
def pinsAt(fp:List Addr)(h:Heap):List (Addr×Obj):=fp.filterMap fun b=>(h.get? b).map fun o=>(b,o)
theorem mem_pinsAt{fp:List Addr}{h:Heap}{b:Addr}{o:Obj}(hb:b∈fp)(e:h.get? b=some o):(b,o)∈pinsAt fp h:=List.mem_filterMap.mpr ⟨b,hb,by rw[e];rfl⟩
theorem of_pinsAt{fp:List Addr}{h:Heap}{p:Addr×Obj}(hp:p∈pinsAt fp h):p.1∈fp/\h.get? p.1=some p.2:=by
 obtain⟨b,hb,e⟩:=List.mem_filterMap.mp hp
 cases q:h.get? b with
 | none=>rw[q]at e;cases e
 | some o =>
  rw[q]at e
  have e':(b,o)=p:=Option.some.inj e
  subst e'
  exact⟨hb,q⟩
theorem Inv.pinned{pins:List (Addr×Obj)}{σ:St}{H:Hp}{s:Shared}{fp:List Addr}(I:Inv X pins σ H s)(hf:∀b∈fp,FpOk X pins H b)(ho:∀b∈fp,∃o,s.heap.get? b=some o/\∀v,o.data ≠ .cell v):Inv X (pins++pinsAt fp s.heap) σ H s :=
 I.pins_of fun p hp=>(List.mem_append.mp hp).elim (fun z=>I.pin p (List.mem_append_right _ z)) fun z=>by
  obtain⟨hb,e⟩:=of_pinsAt z
  obtain⟨f0,f1,f2,_⟩:=hf p.1 hb
  obtain⟨o,e',d⟩:=ho p.1 hb
  rw[e]at e';cases e'
  exact⟨e,f0,f1,f2,d⟩
theorem Inv.unpinned{pins pl:List (Addr×Obj)}{σ:St}{H:Hp}{s:Shared}(I:Inv X (pins++pl) σ H s):Inv X pins σ H s:=I.pins_of fun p hp=>I.pin p (List.mem_append_right _ (List.mem_append_left _ hp))
theorem ps_for{iter:Expr}{body:List Stmt}{wi:TI}{g:TG}{tb:TS}{pos:Pos}(hp:PassesOwn (model X.prog X.w) X.A X.env X.xe)(hc:X.calm=true)(hi:PI X tg iter wi)(hg:PG X tg g)(hb:PSs X body tb)
  (hs:∀x,foldedSetIterable iter X.env x=pure x:=by intro _;rfl):PS X (.For tg iter body [] pos) (tFor wi g tb):=by
 intro pins s σ H D I h
 refine wpAny_For (thn (hi pins s σ H _ I h) fun v s1 h1=>thn h1 fun itv s2 h2=>?_) hs
 obtain⟨it,fp,tn,J,H2,e,I2,T,st2,f2,W,⟨m0,w0⟩,turn⟩:=h2
 subst e
 have stat:∀{H':Hp},(∀b∈fp,H' b=none)->∀b∈fp,FpOk X pins H' b:=fun hn b hb=>⟨hn b hb,(f2 b hb).2⟩
 refine codeAny_forLoop_any (fun n s'=>∃i σ' H',Inv X pins σ' H' s'/\tn i s'.heap/\(∀b∈fp,H' b=none)/\W i n σ' H') ?_ m0 ⟨0,σ,H2,I2,st2,fun b hb=>(f2 b hb).1,w0⟩
 rintro n s3 ⟨i,σ3,H3,I3,st3,fr3,w3⟩
 rcases turn i n σ3 H3 w3 with ⟨stop,qn⟩|⟨go,N,hN,step⟩
 ·refine wpAny_passesOwn hp (thn (T.done X rfl rfl rfl hc i pins s3 σ3 H3 X.xe I3 (stat fr3) st3 stop) fun r s4 ⟨hr,I4⟩=>?_)
  subst hr
  exact wpAny_execs_nil ⟨σ3,H3,I4,qn⟩
 ·refine wpAny_passesOwn hp (thn (T.item X rfl rfl rfl hc i pins s3 σ3 H3 X.xe I3 (stat fr3) st3 go) fun r s4 ⟨u,hr,h4⟩=>?_)
  subst hr
  refine wpAny_passesOwn hp (thn h4 fun _ s5 ⟨x,H5,I5,r5,y5,st5,fr5⟩=>?_)
  have I5':=I5.pinned (stat fr5) (T.obj _ _ st5)
  refine wpAny_passesOwn hp (thn (hg _ s5 σ3 H5 x u _ I5' r5 (step x H5 y5)) fun _ s6 ⟨σ6,H6,I6,q6⟩=>?_)
  refine wpAny_passesOwn hp (thn (hb _ s6 σ6 H6 _ I6 q6) fun f s7 q7=>?_)
  have again:∀{σ7:St}{H7:Hp},Inv X (pins++pinsAt fp s5.heap) σ7 H7 s7->N σ7 H7->∃m,m < n/\∃i σ' H',Inv X pins σ' H' s7/\tn i s7.heap/\(∀b∈fp,H' b=none)/\W i m σ' H':=fun {σ7 H7} I7 n7=>by
   obtain⟨m',hm,w7⟩:=hN σ7 H7 n7
   refine⟨m',hm,i + 1,σ7,H7,I7.unpinned,T.keep _ _ _ st5 fun b hb o e=>(I7.pin (b,o) (List.mem_append_right _ (List.mem_append_right _ (mem_pinsAt hb e)))).1,fun b hb=>?_,w7⟩
   obtain⟨o,e,d⟩:=T.obj _ _ st5 b hb
   exact(I7.pin (b,o) (List.mem_append_right _ (List.mem_append_right _ (mem_pinsAt hb e)))).2.1
  cases f with
  | next=>obtain⟨σ7,H7,I7,n7⟩:=q7;exact again I7 n7
  | cont=>obtain⟨σ7,H7,I7,n7⟩:=q7;exact again I7 n7
  | brk=>obtain⟨σ7,H7,I7,q7⟩:=q7;exact⟨σ7,H7,I7.unpinned,q7⟩
  | ret v=>obtain⟨x7,σ7,H7,I7,r7,q7⟩:=q7;exact⟨x7,σ7,H7,I7.unpinned,r7,q7⟩
end
end L2
namespace L2
open PySem PySem.Spec PyProof.Rows
abbrev R2:=V->V->Hp->VK->Prop
def OpR(X:Cx)(f:Value->Value->Sem Value)(r:R2):Prop :=
 ∀(pins:List (Addr×Obj))(s:Shared)(σ:St)(H:Hp)(x y:V)(v u:Value)(Q:VK),Inv X pins σ H s->RelV x v->RelV y u->r x y H Q →
  wpAny (model X.prog X.w) X.A (f v u) (EP X pins σ Q) X.xe s
def UnR(X:Cx)(f:Value->Sem Value)(r:V->Hp->VK->Prop):Prop :=
 ∀(pins:List (Addr×Obj))(s:Shared)(σ:St)(H:Hp)(x:V)(v:Value)(Q:VK),Inv X pins σ H s->RelV x v->r x H Q →
  wpAny (model X.prog X.w) X.A (f v) (EP X pins σ Q) X.xe s
def CallR(X:Cx)(f:Value)(r:List V->Hp->VK->Prop):Prop :=
 ∀(pins:List (Addr×Obj))(s:Shared)(σ:St)(H:Hp)(xs:List V)(us:List Value)(Q:VK),Inv X pins σ H s->Vals xs us->r xs H Q →
  wpAny (model X.prog X.w) X.A (call f us) (EP X pins σ Q) X.xe s
def TruR(X:Cx)(r:V->Hp->(Bool->Hp->Prop)->Prop):Prop :=
 ∀(pins:List (Addr×Obj))(s:Shared)(σ:St)(H:Hp)(x:V)(v:Value)(Q:Bool->Hp->Prop),Inv X pins σ H s->RelV x v->r x H Q →
  wpAny (model X.prog X.w) X.A (truthy v) (TP X pins σ Q) X.xe s
def tOp(r:R2)(ta tb:TE):TE:=fun σ H Q=>ta σ H fun x H1=>tb σ H1 fun y H2=>r x y H2 Q
def tUn(r:V->Hp->VK->Prop)(ta:TE):TE:=fun σ H Q=>ta σ H fun x H1=>r x H1 Q
def rI(C:Int->Int->Prop)(g:Int->Int->V):R2:=fun x y H Q=>∃i j,x=.int i/\y=.int j/\C i j/\Q (g i j) H
def rI0(g:Int->Int->V):R2:=fun x y H Q=>∃i j,x=.int i/\y=.int j/\Q (g i j) H
def rU(g:Int->V):V->Hp->VK->Prop:=fun x H Q=>∃i,x=.int i/\Q (g i) H
section
variable {X:Cx} {a b c:Expr} {ta tb tc:TE} {pos:Pos}
theorem binT(ha:PE X a ta)(hb:PE X b tb){pins:List (Addr×Obj)}{s:Shared}{σ:St}{H:Hp}{R:V->V->Hp->Prop}(I:Inv X pins σ H s)
  (h:ta σ H fun x H1=>tb σ H1 fun y H2=>R x y H2) {Q:Value->Shared->Prop} {f:Value->Value->Sem Value}
  (hf:∀v u s2 x y H2,Inv X pins σ H2 s2->RelV x v->RelV y u->R x y H2->wpAny (model X.prog X.w) X.A (f v u) Q X.xe s2) :
  wpAny (model X.prog X.w) X.A (eval a X.env) (fun v s₁=>wpAny (model X.prog X.w) X.A (eval b X.env) (fun u s₂=>wpAny (model X.prog X.w) X.A (f v u) Q X.xe s₂) X.xe s₁) X.xe s:=by
 refine thn (ha pins s σ H _ I h) fun v s1 ⟨x,H1,I1,r1,q1⟩=>?_
 refine thn (hb pins s1 σ H1 _ I1 q1) fun u s2 ⟨y,H2,I2,r2,q2⟩=>?_
 exact hf v u s2 x y H2 I2 r1 r2 q2
theorem pe_op{op:Operator}{r:R2}(ho:OpR X (binaryOp op) r)(ha:PE X a ta)(hb:PE X b tb):PE X (.BinOp a op b pos) (tOp r ta tb):=by
 intro pins s σ H Q I h
 exact wpAny_BinOp (binT ha hb I h fun v u s2 x y H2 I2 rx ry q=>ho pins s2 σ H2 x y v u Q I2 rx ry q)
theorem pe_un{op:UnaryOp}{r:V->Hp->VK->Prop}(ho:UnR X (unaryOp op) r)(ha:PE X a ta):PE X (.UnaryOp op a pos) (tUn r ta):=by
 intro pins s σ H Q I h
 exact UnaryOp_ (thn (ha pins s σ H _ I h) fun v s1 ⟨x,H1,I1,r1,q1⟩=>ho pins s1 σ H1 x v Q I1 r1 q1)
theorem opI{f:Value->Value->Sem Value}{C:Int->Int->Prop}{g:Int->Int->Int}
  (rule:∀(i j:Int)(t u:Tok)(s:Shared)(Q:Value->Shared->Prop)(E:Value->Shared->Prop),C i j->Q (.int (g i j) s.toks) {s with toks:=s.toks + 1}->wpAny (model X.prog X.w) X.A (f (.int i t) (.int j u)) Q E s) :
  OpR X f (rI C fun i j=>.int (g i j)):=by
 intro pins s σ H x y v u Q I rx ry h
 obtain⟨i,j,rfl,rfl,hc,q⟩:=h
 obtain⟨t,rfl⟩:=rx
 obtain⟨t',rfl⟩:=ry
 exact rule i j t t' s _ _ hc ⟨.int (g i j),H,I.tok _,⟨_,rfl⟩,q⟩
theorem opI0{f:Value->Value->Sem Value}{g:Int->Int->Int}
  (rule:∀(i j:Int)(t u:Tok)(s:Shared)(Q:Value->Shared->Prop)(E:Value->Shared->Prop),Q (.int (g i j) s.toks) {s with toks:=s.toks + 1}->wpAny (model X.prog X.w) X.A (f (.int i t) (.int j u)) Q E s) :
  OpR X f (rI0 fun i j=>.int (g i j)):=by
 intro pins s σ H x y v u Q I rx ry h
 obtain⟨i,j,rfl,rfl,q⟩:=h
 obtain⟨t,rfl⟩:=rx
 obtain⟨t',rfl⟩:=ry
 exact rule i j t t' s _ _ ⟨.int (g i j),H,I.tok _,⟨_,rfl⟩,q⟩
theorem opB0{f:Value->Value->Sem Value}{g:Int->Int->Bool}
  (rule:∀(i j:Int)(t u:Tok)(s:Shared)(Q:Value->Shared->Prop)(E:Value->Shared->Prop),Q (.bool (g i j)) s->wpAny (model X.prog X.w) X.A (f (.int i t) (.int j u)) Q E s) :
  OpR X f (rI0 fun i j=>.bl (g i j)):=by
 intro pins s σ H x y v u Q I rx ry h
 obtain⟨i,j,rfl,rfl,q⟩:=h
 obtain⟨t,rfl⟩:=rx
 obtain⟨t',rfl⟩:=ry
 exact rule i j t t' s _ _ ⟨.bl (g i j),H,I,rfl,q⟩
def CPow(i j:Int):Prop:=0<=j/\j<=1000000/\i.natAbs < 2 ^ 64
def CMul(i j:Int):Prop:=(-(2 ^ 64) < i/\i < 2 ^ 64)∨(-(2 ^ 64) < j/\j < 2 ^ 64)
theorem CMul.ok{i j:Int}(h:CMul i j):IntMulOk i j:=by
 rcases h with ⟨h1,h2⟩|⟨h1,h2⟩
 ·exact .of_left (intBits_le_64 h1 h2)
 ·exact .of_right (intBits_le_64 h1 h2)
theorem op_add:OpR X (binaryOp .Add) (rI0 fun i j=>.int (i + j)):=opI0 fun _ _ _ _ _ _ _ q=>add_int q
theorem op_sub:OpR X (binaryOp .Sub) (rI0 fun i j=>.int (i - j)):=opI0 fun _ _ _ _ _ _ _ q=>sub_int q
theorem op_modN:OpR X (binaryOp .Mod) (rI (fun _ j=>j≠0) fun i j=>.int (i.fmod j)):=opI fun _ _ _ _ _ _ _ hc q=>mod_int' hc q
theorem op_pow:OpR X (binaryOp .Pow) (rI CPow fun i j=>.int (i ^ j.toNat)):=opI fun _ _ _ _ _ _ _ hc q=>pow_int_small hc.1 hc.2.1 hc.2.2 q
theorem unI{f:Value->Sem Value}{g:Int->Int}
  (rule:∀(i:Int)(t:Tok)(s:Shared)(Q:Value->Shared->Prop)(E:Value->Shared->Prop),Q (.int (g i) s.toks) {s with toks:=s.toks + 1}->wpAny (model X.prog X.w) X.A (f (.int i t)) Q E s) :
  UnR X f (rU fun i=>.int (g i)):=by
 intro pins s σ H x v Q I rx h
 obtain⟨i,rfl,q⟩:=h
 obtain⟨t,rfl⟩:=rx
 exact rule i t s _ _ ⟨.int (g i),H,I.tok _,⟨_,rfl⟩,q⟩
theorem un_neg:UnR X (unaryOp .USub) (rU fun i=>.int (-i)):=unI fun _ _ _ _ _ q=>neg_int q
end
section
variable {X:Cx} {a b c:Expr} {ta tb tc:TE} {pos:Pos}
theorem fin_bl{pins:List (Addr×Obj)}{σ:St}{H:Hp}{s:Shared}{Q:VK}{k k':Bool}(I:Inv X pins σ H s)(q:Q (.bl k) H)(e:k=k'):EP X pins σ Q (.bool k') s:=by
 subst e
 exact⟨.bl k,H,I,rfl,q⟩
theorem op_lt:OpR X (compareOp .Lt) (rI0 fun i j=>.bl (decide (i < j))):=opB0 fun _ _ _ _ _ _ _ q=>lt_int q
theorem op_le:OpR X (compareOp .LtE) (rI0 fun i j=>.bl (decide (i<=j))):=opB0 fun _ _ _ _ _ _ _ q=>le_int q
theorem op_gt:OpR X (compareOp .Gt) (rI0 fun i j=>.bl (decide (j < i))):=opB0 fun _ _ _ _ _ _ _ q=>gt_int q
theorem op_ge:OpR X (compareOp .GtE) (rI0 fun i j=>.bl (decide (j<=i))):=opB0 fun _ _ _ _ _ _ _ q=>ge_int q
theorem op_isN:OpR X (compareOp .Is) (fun x y H Q=>y=.non/\Q (.bl (decide (x=.non))) H):=by
 intro pins s σ H x y v u Q I rx ry h
 obtain⟨rfl,q⟩:=h
 cases ry
 refine is_none_gen (fin_bl I q ?_)
 cases x<;>first
  | (cases rx;rfl)
  | (obtain⟨t,rfl⟩:=rx;rfl)
theorem op_notN:OpR X (compareOp .IsNot) (fun x y H Q=>y=.non/\Q (.bl (!decide (x=.non))) H):=by
 intro pins s σ H x y v u Q I rx ry h
 obtain⟨rfl,q⟩:=h
 cases ry
 refine isnot_none_gen (fin_bl I q ?_)
 cases x<;>first
  | (cases rx;rfl)
  | (obtain⟨t,rfl⟩:=rx;rfl)
theorem OpR.or{f:Value->Value->Sem Value}{r r':R2}(h:OpR X f r)(h':OpR X f r'):OpR X f (fun x y H Q=>r x y H Q∨r' x y H Q):=by
 intro pins s σ H x y v u Q I rx ry q
 rcases q with q|q
 ·exact h pins s σ H x y v u Q I rx ry q
 ·exact h' pins s σ H x y v u Q I rx ry q
theorem nomark(b:Expr){op:CmpOp}(h:op ≠ .In:=by decide)(h2:op ≠ .NotIn:=by decide):behindInMarks op b=false:=by
 have e1:(op==CmpOp.In)=false:=by cases op<;>first|rfl|exact absurd rfl h
 have e2:(op==CmpOp.NotIn)=false:=by cases op<;>first|rfl|exact absurd rfl h2
 cases b<;>simp[behindInMarks,e1,e2]
theorem pe_cmpR{op:CmpOp}{r:R2}(ho:OpR X (compareOp op) r)(ha:PE X a ta)(hb:PE X b tb)(hm:behindInMarks op b=false):PE X (.Compare a [op] [b] pos) (tOp r ta tb):=by
 intro pins s σ H Q I h
 exact wpAny_Compare1 (binT ha hb I h fun v u s2 x y H2 I2 rx ry q=>ho pins s2 σ H2 x y v u Q I2 rx ry q) hm
def tTest(t:TE):TT:=fun σ H Q=>t σ H fun x H'=>∃k,x=.bl k/\Q k H'
theorem pt_cmpR{op:CmpOp}{r:R2}(ho:OpR X (compareOp op) r)(ha:PE X a ta)(hb:PE X b tb)(hm:behindInMarks op b=false):PT X (.Compare a [op] [b] pos) (tTest (tOp r ta tb)):=by
 intro pins s σ H Q I h
 refine wpAny_isTrue_Compare1 (thn (ha pins s σ H _ I h) fun v s1 ⟨x,H1,I1,r1,q1⟩=>thn (hb pins s1 σ H1 _ I1 q1) fun u s2 ⟨y,H2,I2,r2,q2⟩ =>
  thn (ho pins s2 σ H2 x y v u _ I2 r1 r2 q2) fun c s3 ⟨z,H3,I3,r3,k,e,q3⟩=>?_) hm
 subst e
 cases r3
 exact wpAny_truthy_bool ⟨H3,I3,q3⟩
def tChain(r r':R2)(ta tb tc:TE):TE:=fun σ H Q=>ta σ H fun x H1=>tb σ H1 fun y H2=>r x y H2 fun z H3=>∃k,z=.bl k ∧
 (if k=true then tc σ H3 fun w' H4=>r' y w' H4 Q else Q (.bl false) H3)
theorem pe_chain{op op':CmpOp}{r r':R2}(ho:OpR X (compareOp op) r)(ho':OpR X (compareOp op') r')(ha:PE X a ta)(hb:PE X b tb)(hc:PE X c tc)
  (hm:lastMarks [op,op'] [b,c]=false:=by with_unfolding_all rfl):PE X (.Compare a [op,op'] [b,c] pos) (tChain r r' ta tb tc):=by
 intro pins s σ H Q I h
 refine Compare_chain (thn (ha pins s σ H _ I h) fun v s1 ⟨x,H1,I1,r1,q1⟩=>chain_link (thn (hb pins s1 σ H1 _ I1 q1) fun u s2 ⟨y,H2,I2,r2,q2⟩ =>
  thn (ho pins s2 σ H2 x y v u _ I2 r1 r2 q2) fun d s3 ⟨z,H3,I3,r3,k,e,q3⟩=>?_)) hm
 subst e
 cases r3
 refine wpAny_truthy_bool ?_
 cases k with
 | false=>exact ite_ff ⟨.bl false,H3,I3,rfl,q3⟩
 | true=>exact ite_tt (chain_last (thn (hc pins s3 σ H3 _ I3 q3) fun w' s4 ⟨z',H4,I4,r4,q4⟩=>ho' pins s4 σ H4 y z' u w' Q I4 r2 r4 q4))
def TruV(K:PySem.W.Frag)(x:V)(H:Hp)(k:Bool):Prop :=
 match x with
 | .non=>k=false
 | .bl b=>k=b
 | .int i=>k=(i != 0)
 | .str y=>y.length<=sizeLine/\k=((y.length:Int) != 0)
 | .byt y=>y.size<=sizeLine/\k=((y.size:Int) != 0)
 | .ref p=>(∃xs,SqL K H p xs/\k=!xs.isEmpty)∨(∃xs,SqT K H p xs/\k=!xs.isEmpty)∨∃kvs,H p=some (.dK kvs)/\k=!kvs.isEmpty
 | _=>False
theorem isEmpty_kv{κ:Type}{kvs:List (κ×V)}{vs:List (κ×Value)}(r:KV kvs vs):(!vs.isEmpty)=!kvs.isEmpty:=by
 cases r<;>rfl
theorem isEmpty_of{xs:List V}{its:List Value}(r:Vals xs its):(!its.toArray.isEmpty)=!xs.isEmpty:=by
 cases r<;>simp
theorem line63:(sizeLine:Nat) < 2 ^ 63:=by rw[sizeLine_eq];decide
theorem tru_ok:TruR X (fun x H Q=>∃k,TruV X.K x H k/\Q k H):=by
 intro pins s σ H x v Q I rx h
 obtain⟨k,e,q⟩:=h
 have hl:=line63
 have hs:sizeLine=16777216:=sizeLine_eq
 cases x with
 | non =>
  cases rx
  have e':k=false:=e
  subst e'
  exact truthy_none ⟨H,I,q⟩
 | bl b =>
  cases rx
  have e':k=b:=e
  subst e'
  exact wpAny_truthy_bool ⟨H,I,q⟩
 | int i =>
  obtain⟨t,rfl⟩:=rx
  have e':k=(i != 0):=e
  subst e'
  exact PySem.P.truthy_int ⟨H,I,q⟩
 | str y =>
  obtain⟨t,rfl⟩:=rx
  obtain⟨hy,e'⟩:y.length<=sizeLine/\k=((y.length:Int) != 0):=e
  subst e'
  exact PySem.P.truthy_str (by omega) ⟨H,I.tok _,q⟩
 | byt y =>
  obtain⟨t,rfl⟩:=rx
  obtain⟨hy,e'⟩:y.size<=sizeLine/\k=((y.size:Int) != 0):=e
  subst e'
  exact PySem.W.truthy_bytes (by omega) ⟨H,I.tok _,q⟩
 | ref p =>
  cases rx
  have e':(∃xs,SqL X.K H p xs/\k=!xs.isEmpty)∨(∃xs,SqT X.K H p xs/\k=!xs.isEmpty)∨∃kvs,H p=some (.dK kvs)/\k=!kvs.isEmpty:=e
  rcases e' with ⟨xs,hx,e'⟩|⟨xs,hx,e'⟩|⟨kvs,hx,e'⟩
  ·subst e'
   obtain⟨its,r,pl,hz⟩:=I.list hx
   have hlen:=r.length
   exact wpAny_truthy_list pl.isList (by simp only[List.size_toArray];omega) ⟨H,I.tok _,by rw[isEmpty_of r];exact q⟩
  ·subst e'
   obtain⟨its,r,pl,hz⟩:=I.tuple hx
   have hlen:=r.length
   exact truthy_tuple pl (by simp only[List.size_toArray];omega) ⟨H,I.tok _,by rw[isEmpty_of r];exact q⟩
  ·subst e'
   obtain⟨hz,hS,vs,r,m⟩:kvs.length<=sizeLine/\(p==sysModules)=false/\∃vs,KV kvs vs/\s.heap.DictOf (mixKind X.prog X.w) p vs:=I.hok p _ hx
   have hlen:kvs.length=vs.length:=Paired.length r
   exact wpAny_truthy_dict hS m (by omega) ⟨H,I.tok _,by rw[isEmpty_kv r];exact q⟩
 | _=>exact(show False from e).elim
theorem pt_truth(ha:PE X a ta)(he:∀whole,isTrue a X.env whole=(do let v ← whole;standAt a.pos;holding [v] (truthy v))) :
  PT X a (fun σ H Q=>ta σ H fun x H'=>∃k,TruV X.K x H' k/\Q k H'):=by
 intro pins s σ H Q I h
 exact isTrue_plain (thn (ha pins s σ H _ I h) fun v s1 ⟨x,H1,I1,r1,q1⟩=>tru_ok pins s1 σ H1 x v Q I1 r1 q1) (he _)
theorem op_add_str:OpR X (binaryOp .Add) (fun x y H Q=>∃i j,x=.str i/\y=.str j/\i.length + j.length<=sizeLine/\Q (.str (i++j)) H):=by
 intro pins s σ H x y v u Q I rx ry h
 obtain⟨i,j,rfl,rfl,hz,q⟩:=h
 obtain⟨t,rfl⟩:=rx
 obtain⟨t',rfl⟩:=ry
 exact add_str (fun t' tk=>⟨.str (i++j),H,I.tok _,⟨_,rfl⟩,q⟩) hz
theorem vals1{x:V}{us:List Value}(r:Vals [x] us):∃u,us=[u]/\RelV x u:=by
 cases r with
 | cons r1 r2=>cases r2;exact⟨_,rfl,r1⟩
theorem vals2{x y:V}{us:List Value}(r:Vals [x,y] us):∃u w',us=[u,w']/\RelV x u/\RelV y w':=by
 cases r with
 | cons r1 r2 =>
  cases r2 with
  | cons r3 r4=>cases r4;exact⟨_,_,rfl,r1,r3⟩
theorem call_abs:CallR X (.builtin "abs") (fun xs H Q=>∃i,xs=[.int i]/\Q (.int (if i < 0 then -i else i)) H):=by
 intro pins s σ H xs us Q I r h
 obtain⟨i,rfl,q⟩:=h
 obtain⟨u,rfl,t,rfl⟩:=vals1 r
 exact call_abs_int fun u tk=>⟨.int (if i < 0 then -i else i),H,I.tok _,⟨_,rfl⟩,q⟩
end
end L2
namespace L2
open PySem PySem.Spec PyProof.Rows
structure ObjM(h:Heap)(x dx C:Addr)(mA:Str->Option Value):Prop where
 obj:h.get? x=some (PySem.W.instObj C dx)
 ns:h.Ns1 dx mA
 ne:dx≠x
theorem lookIn_ns{h:Heap}{dx:Addr}{mA:Str->Option Value}(n:h.Ns1 dx mA):∃od,h.get? dx=some od/\∀name,PySem.W.lookIn name od=some (mA name):=by
 obtain⟨o,es,ep,ho,hd,hk,_,hm⟩:=n
 refine⟨o,ho,fun name=>?_⟩
 have e:=hm name
 unfold nsFind findBy at e
 rw[← Array.find?_toList]at e
 unfold PySem.W.lookIn
 rw[hd]
 dsimp only
 split
 ·rename_i y q
  rw[q]at e
  exact congrArg some e
 ·rename_i q
  rw[q]at e
  have a:es.toList.any (·.refKey)=false:=by
   rw[List.any_eq_false]
   intro y hy
   obtain⟨z,t,hkey⟩:=hk y (Array.mem_toList_iff.mp hy)
   simp[DictEntry.refKey,hkey]
  have a':¬ es.toList.any (·.refKey)=true:=by rw[a];exact Bool.false_ne_true
  rw[if_neg a']
  exact congrArg some e
theorem ObjM.look{h:Heap}{x dx C:Addr}{mA:Str->Option Value}(I:ObjM h x dx C mA):∃od,PySem.W.InstAt h x (PySem.W.instObj C dx) C (some od)/\∀name,PySem.W.lookIn name od=some (mA name) :=
 let ⟨od,ho,hl⟩:=lookIn_ns I.ns
 ⟨od,⟨I.obj,rfl,rfl,ho⟩,hl⟩
section
variable {prog:Program} {w:World} {A:Around} {E:Value->Shared->Prop} {s:Shared} {K:PySem.W.Frag} {x dx C f:Addr} {mA:Str->Option Value} {name:Str} {v:Value}
end
theorem RelO.some_of{v:V}{o:Option Value}(r:RelO (some v) o):∃u,o=some u/\RelV v u:=by
 cases o with
 | none=>exact(show False from r).elim
 | some u=>exact⟨u,rfl,r⟩
section
variable {P:Program} {w:World} {H H':Hp} {h h':Heap} {a C dx:Addr} {fs fs':List (Str×V)}
end
structure Cls(K:PySem.W.Frag)(C:Addr):Prop where
 pg:PySem.W.plainGet K C Str.empty=true
 hd:PySem.W.hasDictIn K C=true
 po:PySem.W.plainOver K C=true
 sa:PySem.W.findIn K (.ref C) "__setattr__" = some (some (.builtin "object.__setattr__"))
theorem Cls.get{K:PySem.W.Frag}{C:Addr}(c:Cls K C)(f:Str):PySem.W.plainGet K C f=true:=c.pg
structure Con(K:PySem.W.Frag)(C:Addr)(f:Str)(v:V)(u:Value):Prop where
 at_:PySem.W.findIn K (.ref C) f=some (some u)
 rel:RelV v u
 get:PySem.W.specialIn K u "__get__" = some none
 cp:PySem.W.copiedNames.contains f=false
structure Meth(K:PySem.W.Frag)(C:Addr)(m:Str)(f:Addr):Prop where
 at_:PySem.W.findIn K (.ref C) m=some (some (.ref f))
 fn:PySem.W.isFn K (.ref f)=true
 kp:PySem.W.keepIn K (.ref f)=true
section
variable {X:Cx} {pins:List (Addr×Obj)} {σ:St} {H:Hp} {s:Shared} {a C dx:Addr} {fs:List (Str×V)} {f:Str} {v:V} {A:Around} {E:Value->Shared->Prop}
end
section
variable {X:Cx} {o e value:Expr} {f:Str} {pos pos' tpos:Pos} {ta tv:TE}
end
section
variable {X:Cx} {pins:List (Addr×Obj)} {σ:St} {H:Hp} {s:Shared} {A:Around} {E:Value->Shared->Prop} {Q:Value->Shared->Prop} {c:Value} {b:Bool}
inductive TyOf (K:PySem.W.Frag) (H:Hp):V->Value->Prop where
 | non:TyOf K H .non (.type "NoneType")
 | bl (x:Bool):TyOf K H (.bl x) (.type "bool")
 | int (i:Int):TyOf K H (.int i) (.type "int")
 | str (x:Str):TyOf K H (.str x) (.type "str")
 | flt (x:UInt64):TyOf K H (.flt x) (.type "float")
 | lst {a:Addr} {xs:List V} (e:H a=some (.lst xs)):TyOf K H (.ref a) (.type "list")
 | frz {a:Addr} {o:Obj} {xs:List V} (e:H a=some (.frz o (.lst xs))):TyOf K H (.ref a) (.type "list")
 | tup {a:Addr} {xs:List V} (e:H a=some (.tup xs)):TyOf K H (.ref a) (.type "tuple")
 | dK {a:Addr} {kvs:List (Key×V)} (e:H a=some (.dK kvs)):TyOf K H (.ref a) (.type "dict")
 | dT {a:Addr} {kvs:List (List Key×V)} (e:H a=some (.dT kvs)):TyOf K H (.ref a) (.type "dict")
 | ins {a C dx:Addr} {fs:List (Str×V)} (e:H a=some (.ins C dx fs)) (cl:Cls K C) (ha:PySem.W.findIn K (.ref C) "__class__" = some (some (.builtin "object.__class__")))
   (hn:PySem.W.specialIn K (.builtin "object.__class__") "__get__" = some (some (.builtin "getset_descriptor.__get__"))) (htk:PySem.W.takesIn K (.builtin "object.__class__")=some true)
   (hm:PySem.W.mroIn K C (.type "object")=some true):TyOf K H (.ref a) (.ref C)
end
end L2
namespace L2
open PySem PySem.Spec PyProof.Rows
structure Room(k:Nat)(A:Around):Prop where
 hd:A.handled=none
 dp:A.depth + 3 * k + 5 < recursionLimit
 un:A.units + 16 * k + 200 < cLine
theorem Room.mono{j k:Nat}{A:Around}(r:Room k A)(h:j<=k):Room j A:=⟨r.hd,by have:=r.dp;omega,by have:=r.un;omega⟩
theorem Room.deeper{k:Nat}{A:Around}(r:Room (k + 1) A)(env:Env):Room k (A.deeper env) :=
 ⟨r.hd,by have:=r.dp;show A.depth + 1 + 3 * k + 5 < _;omega,by have:=r.un;show A.units + 3 + 16 * k + 200 < _;omega⟩
theorem Room.in1{k:Nat}{A:Around}(r:Room (k + 1) A):Room k A.in1 :=
 ⟨r.hd,by have:=r.dp;show A.depth + 3 * k + 5 < _;omega,by have:=r.un;show A.units + 1 + 16 * k + 200 < _;omega⟩
theorem Room.depth{k:Nat}{A:Around}(r:Room k A):A.depth < recursionLimit:=by have:=r.dp;omega
theorem Room.units{k:Nat}{A:Around}(r:Room k A):A.units + 64 < cLine:=by have:=r.un;omega
def tNil:TA:=fun _ H Q=>Q [] H
def tCons(ta:TE)(tr:TA):TA:=fun σ H Q=>ta σ H fun x H1=>tr σ H1 fun xs H2=>Q (x::xs) H2
section
variable {X:Cx} {e:Expr} {es:List Expr} {te:TE} {t:TA} {pos:Pos}
theorem pa_nil:PA X [] tNil:=fun _ _ _ _ H Q I h=>Calls.spliced_nil ⟨[],H,I,.nil,h⟩
theorem pa_cons(ha:PE X e te)(hr:PA X es t)(hs:starEach (e::es) X.env=(false,eval e X.env)::starEach es X.env:=by rfl):PA X (e::es) (tCons te t):=by
 intro pos pins s σ H Q I h
 rw[hs]
 show wpAny _ _ (spliced ((false,eval e X.env)::backTo pos (starEach es X.env))) _ _ s
 refine Calls.spliced_cons (thn (ha pins s σ H _ I h) fun u s1 ⟨x,H1,I1,r1,q1⟩=>?_)
 exact thn (hr pos pins s1 σ H1 _ I1 q1) fun us s2 ⟨xs,H2,I2,r2,q2⟩=>⟨x::xs,H2,I2,.cons r1 r2,q2⟩
def tTup(t:TA):TE:=fun σ H Q=>t σ H fun xs H1=>xs.length<=sizeLine/\∀p,H1 p=none->Q (.ref p) (upd H1 p (.tup xs))
def tLst(t:TA):TE:=fun σ H Q=>t σ H fun xs H1=>xs.length<=sizeLine/\∀p,H1 p=none->Q (.ref p) (upd H1 p (.lst xs))
theorem pe_tup{x1}(h:PA X es t):PE X (.Tuple es x1 pos) (tTup t):=by
 intro pins s σ H Q I hq
 refine wpAny_Tuple_spliced (thn (h pos pins s σ H _ I hq) fun us s1 ⟨xs,H1,I1,r,z,q⟩=>⟨by rw[← r.length];exact z,?_⟩)
 have hf:H1 s1.heap.objs.size=none:=I1.hok.fresh (Nat.le_refl _)
 refine⟨.ref s1.heap.objs.size,upd H1 s1.heap.objs.size (.tup xs),I1.laid (t':=s1.toks) (fun b u e=>Heap.get?_push_of_some _ e) (Nat.le_refl _) ?_,rfl,q _ hf⟩
 exact⟨z,us,r,⟨_,Heap.get?_push_size _ rfl,rfl,_,rfl⟩⟩
theorem pe_lst(h:PA X es t):PE X (.List es pos) (tLst t):=by
 intro pins s σ H Q I hq
 refine wpAny_List_spliced (thn (h pos pins s σ H _ I hq) fun us s1 ⟨xs,H1,I1,r,z,q⟩=>⟨by rw[← r.length];exact z,?_⟩)
 have hf:H1 s1.heap.objs.size=none:=I1.hok.fresh (Nat.le_refl _)
 refine⟨.ref s1.heap.objs.size,upd H1 s1.heap.objs.size (.lst xs),I1.laid (t':=s1.toks) (fun b u e=>Heap.get?_push_of_some _ e) (Nat.le_refl _) ?_,rfl,q _ hf⟩
 exact⟨z,us,0,r,Heap.get?_push_size _ rfl⟩
end
abbrev Sp:=List V->Hp->VK->XK->Prop
abbrev CXT:=List Env->Hp->Shared->XK->Value->Shared->Prop
structure Env0(P:Program)(w:World)(K:PySem.W.Frag)(mg:Str->Option Value)(base:Heap)(A:Around)(outer:List Env)(s:Shared)(H:Hp):Prop where
 frames:A.frames=some outer
 mod:Mod K mg base
 bs:∀b o,base.get? b=some o->s.heap.get? b=some o/\H b=none
 bsz:base.objs.size<=s.heap.objs.size
 funs:s.heap.FunFrames base outer
 frf:∀b∈frs outer,H b=none
 hok:HOk P w H s.heap
 bare:AllBare s.gens
def CE(outer:List Env)(P:Program)(w:World)(H:Hp)(s:Shared)(Q:VK)(u:Value)(s':Shared):Prop :=
 ∃v H',s'.os=s.os/\AllBare s'.gens/\Un (frs outer) [] H H' s.heap s'.heap/\HOk P w H' s'.heap/\RelV v u/\Q v H'
def CR(CX:CXT)(outer:List Env)(P:Program)(w:World)(H:Hp)(s:Shared)(Q:VK)(E:XK)(r:Result)(s':Shared):Prop :=
 match r with
 | .ok (.ret u)=>CE outer P w H s Q u s'
 | .ok _=>False
 | .error e=>CX outer H s E e s'
structure FnOk(P:Program)(w:World)(K:PySem.W.Frag)(mg:Str->Option Value)(base:Heap)(CX:CXT)(k:Nat)(f:Addr)(fd:FuncData)(ps:List Str)(sp:Sp):Prop where
 len:∀vs H Q E,sp vs H Q E->vs.length=ps.length
 run:∀(A:Around)(outer:List Env)(s:Shared)(H:Hp)(args:Args)(us:List Value)(vs:List V)(Q:VK)(E:XK),Room k A->Env0 P w K mg base A outer s H->BindsTo s fd args (ps.zip us)->Vals vs us->sp vs H Q E →
  codeAny (model P w) A (.call (.ref f) args) (CR CX outer P w H s Q E) s
theorem FnOk.mono{P:Program}{w:World}{K:PySem.W.Frag}{mg:Str->Option Value}{base:Heap}{CX:CXT}{j k:Nat}{f:Addr}{fd:FuncData}{ps:List Str}{sp:Sp}(F:FnOk P w K mg base CX j f fd ps sp)(h:j<=k) :
  FnOk P w K mg base CX k f fd ps sp:=⟨F.len,fun A outer s H args us vs Q E hr=>F.run A outer s H args us vs Q E (hr.mono h)⟩
theorem FnOk.imp{P:Program}{w:World}{K:PySem.W.Frag}{mg:Str->Option Value}{base:Heap}{CX:CXT}{k:Nat}{f:Addr}{fd:FuncData}{ps:List Str}{sp sp':Sp}(F:FnOk P w K mg base CX k f fd ps sp)
  (h:∀vs H Q E,sp' vs H Q E->sp vs H Q E):FnOk P w K mg base CX k f fd ps sp' :=
 ⟨fun vs H Q E q=>F.len vs H Q E (h _ _ _ _ q),fun A outer s H args us vs Q E hr he hb hv hs=>F.run A outer s H args us vs Q E hr he hb hv (h _ _ _ _ hs)⟩
theorem Env0.in1{P:Program}{w:World}{K:PySem.W.Frag}{mg:Str->Option Value}{base:Heap}{A:Around}{outer:List Env}{s:Shared}{H:Hp}(e:Env0 P w K mg base A outer s H) :
  Env0 P w K mg base A.in1 outer s H:=⟨e.frames,e.mod,e.bs,e.bsz,e.funs,e.frf,e.hok,e.bare⟩
section
variable {X:Cx} {pins:List (Addr×Obj)} {σ:St} {H:Hp} {s s':Shared}
theorem Inv.env0(I:Inv X pins σ H s):Env0 X.prog X.w X.K X.mg X.base X.A X.stack s H :=
 ⟨I.ok.frames,I.ok.mod,I.bs,Nat.le_trans I.ok.bsz I.sz,I.stack,I.stkFree,I.hok,I.bare⟩
theorem Inv.after{Q:VK}{u:Value}(I:Inv X pins σ H s)(h:CE X.stack X.prog X.w H s Q u s'):EP X pins σ Q u s':=by
 obtain⟨v,H',os,bare,un,hok,r,q⟩:=h
 obtain⟨hh,g,d,t,os'⟩:=s'
 obtain rfl:os'=s.os:=os
 exact⟨v,H',I.call (h':=hh) (g':=g) (d':=d) (t':=t) (ch:=[]) un hok bare (fun b z=>absurd z (by simp)),r,q⟩
end
def tCall(sp:Sp)(dvs:List V)(E:XK)(t:TA):TE:=fun σ H Q=>t σ H fun vs H1=>sp (vs++dvs) H1 Q E
def Binds(K:PySem.W.Frag)(fd:FuncData)(ps:List Str)(ds:List Value):Prop :=
 ∀(s:Shared)(us:List Value),K.In s.heap->(us++ds).length=ps.length->BindsTo s fd ⟨us,[]⟩ (ps.zip (us++ds))
theorem Binds.all{K:PySem.W.Frag}{fd:FuncData}{ps:List Str}(h:∀us:List Value,us.length=ps.length->bindArgs fd ⟨us,[]⟩=pure (ps.zip us)):Binds K fd ps []:=fun s us _ hl=>by
 rw[List.append_nil]at hl ⊢
 exact .of_eq (h us hl)
def Passes(CX:CXT)(X:Cx)(E:XK):Prop:=∀(pins:List (Addr×Obj))(σ:St)(H:Hp)(s:Shared)(e:Value)(s':Shared),Inv X pins σ H s->CX X.stack H s E e s'->X.xe e s'
section
variable {X:Cx} {CX:CXT} {k:Nat} {f C:Addr} {fd:FuncData} {ps:List Str} {sp:Sp} {dvs:List V} {ds:List Value} {E:XK} {x m:Str} {p pos apos:Pos} {e o:Expr} {es:List Expr} {ta:TE} {t:TA}
theorem run_fn{pins:List (Addr×Obj)}{σ:St}{H:Hp}{s:Shared}{Q:VK}{us:List Value}{vs:List V}(F:FnOk X.prog X.w X.K X.mg X.base CX k f fd ps sp)(hr:Room k X.A)(hb:Binds X.K fd ps ds)(hd:Vals dvs ds)(hx:Passes CX X E)
  (I:Inv X pins σ H s) (r:Vals vs us) (h:sp (vs++dvs) H Q E):wpAny (model X.prog X.w) X.A (call (.ref f) us) (EP X pins σ Q) X.xe s:=by
 have r2:Vals (vs++dvs) (us++ds):=r.append hd
 have hl:(us++ds).length=ps.length:=by rw[← r2.length];exact F.len _ _ _ _ h
 refine wpAny_call (codeAny_mono (F.run X.A X.stack s H ⟨us,[]⟩ (us++ds) (vs++dvs) Q E hr I.env0 (hb s us I.kIn hl) r2 h) fun r s' hq=>?_)
 cases r with
 | error e=>exact hx pins σ H s e s' I hq
 | ok fl =>
  cases fl with
  | ret u=>exact I.after hq
  | next=>exact False.elim hq
  | brk=>exact False.elim hq
  | cont=>exact False.elim hq
theorem pe_call(F:FnOk X.prog X.w X.K X.mg X.base CX k f fd ps sp)(hr:Room k X.A)(hg:Gl X x)(hm:X.mg x=some (.ref f))(hk:PySem.W.keepIn X.K (.ref f)=true)(hb:Binds X.K fd ps ds)(hd:Vals dvs ds)(hx:Passes CX X E)
  (ha:PA X (e::es) t) (hdb:(x==("__debug__" : Str))=false:=by decide) (he:starEach (e::es) X.env=(false,eval e X.env)::starEach es X.env:=by rfl) (hpl:(backTo pos (starEach es X.env)).any (·.1)=false:=by rfl) :
  PE X (.Call (.Name x p) (e::es) [] pos) (tCall sp dvs E t):=by
 intro pins s σ H Q I h
 refine wpAny_Call_Name_kw (ld_glob I hg hm ?_ hdb)
 refine PySem.W.callWith_K (h₀:=X.base) I.ok.mod.kin hk (thn (ha pos pins s σ H _ I h) fun us s1 ⟨vs,H1,I1,r,q⟩=>⟨I1.kIn,?_⟩) he hpl
 exact run_fn F hr hb hd hx I1 r q
structure Mk(K:PySem.W.Frag)(C f:Addr):Prop where
 makes:PySem.W.makesIn K C=true
 init:PySem.W.findIn K (.ref C) "__init__" = some (some (.ref f))
 fn:PySem.W.isFn K (.ref f)=true
 kp:PySem.W.keepIn K (.ref C)=true
end
section
variable {X:Cx} {CX:CXT} {k:Nat} {f C:Addr} {fd:FuncData} {ps ks:List Str} {sp:Sp} {E:XK} {x m:Str} {p pos apos kpos:Pos} {e o:Expr} {es:List Expr} {kws:List Keyword} {te ta:TE} {t tk:TA} {nm:Option Str}
structure KBinds(K:PySem.W.Frag)(fd:FuncData)(ps ks:List Str)(g:List Value->List Value->List Value)(gV:List V->List V->List V):Prop where
 to:∀(s:Shared)(us ws:List Value),K.In s.heap->(g us ws).length=ps.length->BindsTo s fd ⟨us,ks.zip ws⟩ (ps.zip (g us ws))
 rel:∀{vs:List V}{us:List Value}{zs:List V}{ws:List Value},Vals vs us->Vals zs ws->Vals (gV vs zs) (g us ws)
variable {g:List Value->List Value->List Value} {gV:List V->List V->List V}
end
structure FnScope(N P:List Str)(sc:Scope):Prop where
 kind:sc.kind=.function
 co:sc.isCoroutine=false
 gen:sc.isGenerator=false
 nd:N.Nodup
 pre:N.take P.length=P
 par:∀x∈P,sc.names.lookup x=some .local∨sc.names.lookup x=some .cell
 nofree:∀y∈sc.names,y.2 ≠ .free
theorem bindL_out{kindOf:Str->Option NameKind}{x:Str}:∀{binds:List (Str×Value)}{m:Str->Option Value},(∀v,(x,v)∉binds)->bindL kindOf binds m x=m x
 | [],_,_=>rfl
 | (n,v)::r,m,h=>by
  unfold bindL
  rw[bindL_out fun w hw=>h w (List.mem_cons_of_mem _ hw)]
  split
  ·have:x≠n:=by rintro rfl;exact h v List.mem_cons_self
   simp[this]
  ·rfl
theorem bindC_out{kindOf:Str->Option NameKind}{x:Str}:∀{binds:List (Str×Value)}{m:Str->Option Value},(∀v,(x,v)∉binds)->bindC kindOf binds m x=m x
 | [],_,_=>rfl
 | (n,v)::r,m,h=>by
  unfold bindC
  rw[bindC_out fun w hw=>h w (List.mem_cons_of_mem _ hw)]
  split
  ·rfl
  ·have:x≠n:=by rintro rfl;exact h v List.mem_cons_self
   simp[this]
theorem bindL_get{kindOf:Str->Option NameKind}{x:Str}{v:Value}:∀{P:List Str}{vs:List Value}{i:Nat}{m:Str->Option Value},P.Nodup->P[i]?=some x->vs[i]?=some v->kindOf x=some .local →
  bindL kindOf (P.zip vs) m x=some v
 | [],_,_,_,_,h,_,_=>by simp at h
 | _::_,[],_,_,_,_,h,_=>by simp at h
 | p::P,w::vs,0,m,nd,h1,h2,hk=>by
  simp at h1 h2;subst h1;subst h2
  show bindL kindOf ((p,w)::P.zip vs) m p=_
  unfold bindL
  rw[bindL_out fun v hv=>(List.nodup_cons.mp nd).1 (List.of_mem_zip hv).1,if_pos hk]
  simp
 | p::P,w::vs,i + 1,m,nd,h1,h2,hk=>by
  show bindL kindOf ((p,w)::P.zip vs) m x=_
  unfold bindL
  exact bindL_get (i:=i) (List.nodup_cons.mp nd).2 (by simpa using h1) (by simpa using h2) hk
theorem bindC_get{kindOf:Str->Option NameKind}{x:Str}{v:Value}:∀{P:List Str}{vs:List Value}{i:Nat}{m:Str->Option Value},P.Nodup->P[i]?=some x->vs[i]?=some v->kindOf x≠some .local →
  bindC kindOf (P.zip vs) m x=some v
 | [],_,_,_,_,h,_,_=>by simp at h
 | _::_,[],_,_,_,_,h,_=>by simp at h
 | p::P,w::vs,0,m,nd,h1,h2,hk=>by
  simp at h1 h2;subst h1;subst h2
  show bindC kindOf ((p,w)::P.zip vs) m p=_
  unfold bindC
  rw[bindC_out fun v hv=>(List.nodup_cons.mp nd).1 (List.of_mem_zip hv).1,if_neg hk]
  simp
 | p::P,w::vs,i + 1,m,nd,h1,h2,hk=>by
  show bindC kindOf ((p,w)::P.zip vs) m x=_
  unfold bindC
  exact bindC_get (i:=i) (List.nodup_cons.mp nd).2 (by simpa using h1) (by simpa using h2) hk
def start(N:List Str)(vs:List V):St:=vs.map some++List.replicate (N.length - vs.length) none
def cxOf(CX:CXT)(P:Program)(w:World)(K:PySem.W.Frag)(mg:Str->Option Value)(base:Heap)(N:List Str)(qual:Str)(scope:Scope)(f:Addr)(cd:Value)(A:Around)(outer:List Env)(s:Shared)(H:Hp)(E:XK):Cx where
 prog:=P
 w:=w
 K:=K
 mg:=mg
 base:=base
 A:=A.deeper (envOfC qual scope s.heap.objs.size f cd)
 N:=N
 s₀:=s
 H₀:=H
 env:=envOfC qual scope s.heap.objs.size f cd
 outer:=outer
 stack:=envOfC qual scope s.heap.objs.size f cd::outer
 ex:=[]
 calm:=true
 fn:=fun _=>true
 pn:=[]
 xe:=fun e s'=>wpAny (model P w) (A.deeper (envOfC qual scope s.heap.objs.size f cd)) (leaving (envOfC qual scope s.heap.objs.size f cd) e) (fun _ s''=>CX outer H s E e s'') (fun e' s''=>CX outer H s E e' s'') s'
theorem cell_has{sc:Scope}{n:Nat}{x:Str}(h:sc.names.lookup x=some .cell):∃c,(cellsFrom n sc.names []).lookup x=some c:=by
 have q:=PySem.W.cellsFrom_some sc.names n [] (.inl h)
 exact Option.isSome_iff_exists.mp q
theorem inv_start{CX:CXT}{P:Program}{w:World}{K:PySem.W.Frag}{mg:Str->Option Value}{base:Heap}{N ps:List Str}{qual:Str}{scope:Scope}{f:Addr}{cd:Value}{A:Around}{outer:List Env}{s s1:Shared}{H:Hp}{E:XK}{us:List Value}{vs:List V}
  (S:FnScope N ps scope) (hd:A.handled=none) (e0:Env0 P w K mg base A outer s H) (hl:vs.length=ps.length) (r:Vals vs us)
  (x:InCallC s s.heap.objs.size (bindL (envOfC qual scope s.heap.objs.size f cd).kindOf (ps.zip us) fun _=>none) (cellsFrom (s.heap.objs.size + 1) scope.names []) (bindC (envOfC qual scope s.heap.objs.size f cd).kindOf (ps.zip us) fun _=>none) s1) :
  Inv (cxOf CX P w K mg base N qual scope f cd A outer s H E) [] (start N vs) H s1:=by
 have hpl:ps.length<=N.length:=by have:=congrArg List.length S.pre;rw[List.length_take]at this;omega
 obtain⟨h1,tk,rfl,hk⟩:=x.done
 have noA:∀b:Addr,b∉(cxOf CX P w K mg base N qual scope f cd A outer s H E).ex:=fun b z=>absurd (show b∈([]:List Addr) from z) (by simp)
 refine⟨⟨e0.mod,S.kind,rfl,rfl,Nat.le_refl _,fun y z c h1 h2=>?_,fun y hy=>?_,fun y c _ h=>?_,fun _=>hd,Around.frames_deeper e0.frames,.inr ⟨rfl,rfl⟩,fun b z=>absurd z (noA b),e0.bs,e0.bsz,fun b _ _=>noA b,fun b z=>absurd z (noA b),e0.funs,e0.frf⟩,
  rfl,e0.bare,Un.kept hk,⟨_,x.toInCall.ns,fun i y v h1 h2 h3=>?_⟩,fun y c h=>⟨_,x.cell y c h⟩,e0.hok.fresh (Nat.le_refl _),fun y c h=>?_,fun p hp=>absurd (show p∈([]:List (Addr×Obj)) from hp) (by simp),e0.hok.kept hk,?_⟩
 ·exact name_of_addr x.apart (PySem.mem_of_lookup h1) (PySem.mem_of_lookup h2)
 ·have hy:scope.names.lookup y=some .cell∨scope.names.lookup y=some .free:=hy
  rcases hy with hy|hy
  ·exact cell_has hy
  ·exact absurd rfl (S.nofree _ (PySem.mem_of_lookup hy))
 ·exact Nat.le_of_lt (x.above y c (PySem.mem_of_lookup h))
 ·have hi:i < vs.length:=by
   unfold start at h2
   by_cases hi:i < vs.length
   ·exact hi
   ·rw[List.getElem?_append_right (by simpa using hi)]at h2
    rw[List.getElem?_replicate]at h2
    split at h2<;>cases h2
  have ha:vs[i]?=some v:=by
   unfold start at h2
   rw[List.getElem?_append_left (by simpa using hi),List.getElem?_map]at h2
   cases e:vs[i]? with
   | none=>rw[e]at h2;cases h2
   | some a=>rw[e]at h2;cases h2;rfl
  obtain⟨u,hu,rv⟩:=r.get ha
  have hp:ps[i]?=some y:=by
   rw[← S.pre,List.getElem?_take_of_lt (by omega)];exact h1
  have ndP:ps.Nodup:=by rw[← S.pre];exact S.nd.sublist (List.take_sublist _ _)
  refine⟨u,rv,?_⟩
  rcases S.par y (List.mem_of_getElem? hp) with k|k
  ·exact .inl ⟨k,bindL_get ndP hp hu k⟩
  ·obtain⟨c,e⟩:=cell_has (n:=s.heap.objs.size + 1) k
   refine .inr ⟨.inl k,c,e,?_⟩
   have q:=x.cell y c e
   rw[bindC_get ndP hp hu (by show scope.names.lookup y≠_;rw[k];decide)]at q
   exact q
 ·exact e0.hok.fresh (Nat.le_of_lt (x.above y c (PySem.mem_of_lookup h)))
 ·unfold start
  show _=N.length
  rw[List.length_append,List.length_map,List.length_replicate]
  omega
theorem fn_of{CX:CXT}{P:Program}{w:World}{K:PySem.W.Frag}{mg:Str->Option Value}{base:Heap}{k:Nat}{f:Addr}{name qual:Str}{params:Arguments}{body:List Stmt}{scope:Scope}{dV kV doc pm cdv ct oc:Value}{an od:Option Addr}
  {osl:Array (Option Value)} {N ps:List Str} {sp:Sp} (lk:K.lookup f=some ⟨oc,od,.func (PySem.W.fnOf name qual params body scope dV kV doc pm an cdv ct),osl⟩) (hcd:PySem.W.codeIn K cdv qual=true) (S:FnScope N ps scope)
  (len:∀vs H Q E,sp vs H Q E->vs.length=ps.length)
  (hbody:∀(A:Around)(outer:List Env)(s:Shared)(H:Hp)(vs:List V)(Q:VK)(E:XK),Room k (A.deeper (envOfC qual scope s.heap.objs.size f cdv))->sp vs H Q E →
   ∃t,PSs (cxOf CX P w K mg base N qual scope f cdv A outer s H E) body t/\t {nx:=fun _ H'=>Q .non H',rt:=Q} (start N vs) H) :
  FnOk P w K mg base CX (k + 1) f (PySem.W.fnOf name qual params body scope dV kV doc pm an cdv ct) ps sp:=by
 refine⟨len,fun A outer s H args us vs Q E hr e0 hb r hsp=>?_⟩
 have hl:=len _ _ _ _ hsp
 have KX:K.In s.heap:=e0.mod.kin.keeps fun b o e=>(e0.bs b o e).1
 have lim:s.heap.NoLimit:=e0.mod.nolimit.keeps fun b o e=>(e0.bs b o e).1
 have hkind:∀y∈ps.zip us,scope.names.lookup y.1=some .local∨(scope.names.lookup y.1=some .cell/\((cellsFrom (s.heap.objs.size + 1) scope.names []).lookup y.1).isSome=true):=fun ⟨n,v⟩ hy=>by
  rcases S.par n (List.of_mem_zip hy).1 with q|q
  ·exact .inl q
  ·exact .inr ⟨q,PySem.W.cellsFrom_some _ _ _ (.inl q)⟩
 refine codeAny_call_function hr.depth (KX _ _ lk) rfl S.co S.gen rfl (PySem.W.codeRec_of KX hcd) (hb _ _ _ _ ?_)
 refine wpAny_newFunctionEnv_cells S.kind hkind fun env he s1 x=>?_
 subst he
 refine⟨lim.keeps x.toInCall.keep,codeAny_func ?_⟩
 obtain⟨t,ht,hq⟩:=hbody A outer s H vs Q E (hr.deeper _) hsp
 have I:Inv (cxOf CX P w K mg base N qual scope f cdv A outer s H E) [] (start N vs) H s1:=inv_start S hr.hd e0 hl r x
 refine wpAny_mono (ht [] s1 (start N vs) H _ I hq) (fun fl s' hs=>?_) fun e s' hs=>hs
 have fin:∀{σ':St}{H':Hp}{v:V}{u:Value},Inv (cxOf CX P w K mg base N qual scope f cdv A outer s H E) [] σ' H' s'->RelV v u->Q v H'->CE outer P w H s Q u s' :=
  fun {σ' H' v u} J rv q=>⟨v,H',J.os,J.bare,J.base,J.hok,rv,q⟩
 cases fl with
 | ret u =>
  obtain⟨v,σ',H',J,rv,q⟩:=hs
  exact fin J rv q
 | next =>
  obtain⟨σ',H',J,q⟩:=hs
  exact fin (v:=V.non) (u:=Value.none) J rfl q
 | brk =>
  obtain⟨_,_,_,q⟩:=hs
  exact False.elim q
 | cont =>
  obtain⟨_,_,_,q⟩:=hs
  exact False.elim q
end L2
namespace L2
open PySem PySem.Spec PyProof.Rows
section
variable {X:Cx} {x:Str} {p pos:Pos} {e:Expr} {es:List Expr} {t:TA} {id T:String} {r:List V->Hp->VK->Prop}
def tCB(r:List V->Hp->VK->Prop)(t:TA):TE:=fun σ H Q=>t σ H fun vs H1=>r vs H1 Q
theorem pe_callB(hc:CallR X (.builtin id) r)(hg:Gl X x)(hm:X.mg x=none)(hv:bootBuiltins x=some (.builtin id))(ha:PA X (e::es) t) (hn:x ≠ "__name__" := by decide) (hdb:(x==("__debug__" : Str))=false:=by decide)
  (he:starEach (e::es) X.env=(false,eval e X.env)::starEach es X.env:=by rfl) (hpl:(backTo pos (starEach es X.env)).any (·.1)=false:=by rfl):PE X (.Call (.Name x p) (e::es) [] pos) (tCB r t):=by
 intro pins s σ H Q I h
 refine wpAny_Call_Name_kw (ld_blt I hg hm hv ?_ hn hdb)
 exact PyProof.Rows.callWith_builtin1 (thn (ha pos pins s σ H _ I h) fun us s1 ⟨vs,H1,I1,r1,q1⟩=>hc pins s1 σ H1 vs us Q I1 r1 q1) he hpl
theorem pe_callTy(hc:CallR X (.type T) r)(hg:Gl X x)(hm:X.mg x=none)(hv:bootBuiltins x=some (.type T))(ha:PA X (e::es) t) (hn:x ≠ "__name__" := by decide) (hdb:(x==("__debug__" : Str))=false:=by decide)
  (he:starEach (e::es) X.env=(false,eval e X.env)::starEach es X.env:=by rfl) (hpl:(backTo pos (starEach es X.env)).any (·.1)=false:=by rfl):PE X (.Call (.Name x p) (e::es) [] pos) (tCB r t):=by
 intro pins s σ H Q I h
 refine wpAny_Call_Name_kw (ld_blt I hg hm hv ?_ hn hdb)
 exact PyProof.Rows.callWith_type1 (thn (ha pos pins s σ H _ I h) fun us s1 ⟨vs,H1,I1,r1,q1⟩=>hc pins s1 σ H1 vs us Q I1 r1 q1) he hpl
end
end L2
namespace HT
open PySem PyProof.Rows
section
open PySem.SeqAt
open PySem.AutoSeq1 (wpAny_loadPart')
open PySem.MeetsSeq PySem.MeetsSeq2 PySem.MeetsSeq3
end
section
variable {prog:Program} {w:World} {A:Around} {E:Value->Shared->Prop} {s:Shared}
theorem cat_tup{t b:Addr}{vs ws:List Value}{Q:Value->Shared->Prop}(ht:IsTup s.heap t vs.toArray)(hb:IsTup s.heap b ws.toArray)(hv:vs≠[])
  (h1:ws=[]->Q (.ref t) s) (h2:ws≠[]->Q (.ref s.heap.objs.size) {s with heap:=s.heap.push {cls:=.type "tuple", data:=.seq (vs++ws).toArray} })
  (hsz:vs.length + ws.length<=sizeLine):wpAny (model prog w) A (binaryOp .Add (.ref t) (.ref b)) Q E s:=by
 obtain⟨⟨cls,dd,data,sl⟩,ho,hc,n,hd⟩:=id ht
 obtain⟨⟨cls2,dd2,data2,sl2⟩,ho2,hc2,n2,hd2⟩:=id hb
 simp only at hc hd hc2 hd2
 subst hc hd hc2 hd2
 have e:vs.toArray++ws.toArray=(vs++ws).toArray:=by simp
 by_cases hw:ws=[]
 ·exact concat_meets ⟨_,ho,rfl⟩ ⟨_,ho2,rfl⟩ noFill_tuple_add seq_tuple_add PySem.F.slot_tuple_add PySem.F.entry_tuple_add (PySem.F.args_tuple_add_2 _ _)
   (tuple_addW1 t b vs.toArray ws.toArray n n2 dd dd2 sl sl2 (by simpa using hv) (by simp[hw])) ⟨ho,ho2,h1 hw⟩
 ·refine concat_meets ⟨_,ho,rfl⟩ ⟨_,ho2,rfl⟩ noFill_tuple_add seq_tuple_add PySem.F.slot_tuple_add PySem.F.entry_tuple_add (PySem.F.args_tuple_add_2 _ _)
   (tuple_addW2 t b vs.toArray ws.toArray n n2 dd dd2 sl sl2 (by simpa using hv) (by simpa using hw) (by rw[List.size_toArray,List.size_toArray];exact hsz)) ⟨ho,ho2,?_⟩
  rw[e]
  exact h2 hw
def sIx(n d:Nat):Option Int->Nat
 | none=>d
 | some v=>if v < 0 then (v + (n:Int)).toNat else min v.toNat n
theorem sIx_nat(n d k:Nat):sIx n d (some (k:Int))=min k n:=by
 show (if (k:Int) < 0 then ((k:Int) + (n:Int)).toNat else min (k:Int).toNat n)=min k n
 rw[if_neg (by omega),Int.toNat_natCast]
theorem sIx_le(n d:Nat)(hd:d<=n)(o:Option Int):sIx n d o<=n:=by
 cases o with
 | none=>exact hd
 | some v =>
  show (if v < 0 then (v + (n:Int)).toNat else min v.toNat n)<=n
  by_cases hv:v < 0
  ·rw[if_pos hv];omega
  ·rw[if_neg hv];exact Nat.min_le_right _ _
theorem clip_eq(v:Int)(n d:Nat):(if v < 0 then max (v + (n:Int)) 0 else min v (n:Int))=((sIx n d (some v):Nat):Int):=by
 show (if v < 0 then max (v + (n:Int)) 0 else min v (n:Int))=(((if v < 0 then (v + (n:Int)).toNat else min v.toNat n):Nat):Int)
 by_cases hv:v < 0
 ·simp only[if_pos hv];omega
 ·simp only[if_neg hv];omega
theorem adjust_gen(lo hi:Option Int)(n:Nat):Builtin.Slice.sliceAdjust lo hi 1 (n:Int)=(((sIx n 0 lo:Nat):Int),((sIx n n hi:Nat):Int)):=by
 have h1:¬ ((1:Int) < 0):=by omega
 unfold Builtin.Slice.sliceAdjust
 simp only[h1,if_false]
 refine Prod.ext ?_ ?_
 ·cases lo with
  | none=>rfl
  | some v=>exact clip_eq v n 0
 ·cases hi with
  | none=>rfl
  | some v=>exact clip_eq v n n
theorem places_gen(i j:Nat):Builtin.Slice.slicePlaces (i:Int) (j:Int) 1=j - i:=by
 unfold Builtin.Slice.slicePlaces
 have h1:(1:Int) > 0:=by omega
 simp only[h1,if_true,Int.ediv_one]
 split<;>omega
theorem slicePart_{v:Value}{o:Option Int}{Q:Option Int->Shared->Prop}(p:IsPart v o)(h:Q o s):wpAny (model prog w) A (Builtin.Slice.slicePartIndex v) Q E s:=by
 cases p with
 | none=>exact slicePart_none h
 | int i t=>exact slicePart_int h
theorem sliceApplied_gen{sl:Addr}{vl vu:Value}{lo hi:Option Int}{n:Nat}{Q:Int×Int×Nat->Shared->Prop}(hs:s.heap.IsSliceOf sl vl vu .none)(pl:IsPart vl lo)(pu:IsPart vu hi)
  (h:Q (((sIx n 0 lo:Nat):Int),1,sIx n n hi - sIx n 0 lo) s):wpAny (model prog w) A (Builtin.Slice.sliceApplied (.ref sl) (pure (n:Int))) Q E s:=by
 obtain⟨os,hos,hcs,hds⟩:=id hs
 unfold Builtin.Slice.sliceApplied Builtin.Slice.sliceFields
 refine wpAny_bind (wpAny_bind (wpAny_field hos hds (x:=vl) rfl (wpAny_bind (wpAny_field hos hds (x:=vu) rfl (wpAny_bind (wpAny_field hos hds (x:=.none) rfl (wpAny_pure ?_)))))))
 refine wpAny_bind (slicePart_none ?_)
 show wpAny _ _ (if ((1:Int)==0)=true then _ else _) _ _ s
 rw[if_neg (by decide)]
 refine wpAny_bind (slicePart_ pl (wpAny_bind (slicePart_ pu (wpAny_bind (wpAny_pure ?_)))))
 show wpAny _ _ (match Builtin.Slice.sliceAdjust lo hi 1 (n:Int) with|(lo,hi)=>pure (lo,(1:Int),Builtin.Slice.slicePlaces lo hi 1)) _ _ s
 rw[adjust_gen lo hi n]
 show wpAny _ _ (pure (((sIx n 0 lo:Nat):Int),(1:Int),Builtin.Slice.slicePlaces ((sIx n 0 lo:Nat):Int) ((sIx n n hi:Nat):Int) 1)) _ _ s
 rw[places_gen]
 exact wpAny_pure h
theorem pick_gen(xs:Array Value)(i k:Nat):((List.range k).filterMap fun (m:Nat)=>xs[((i:Int) + (m:Int) * 1).toNat]?).toArray=((xs.toList.drop i).take k).toArray:=by
 have e:(fun (m:Nat)=>xs[((i:Int) + (m:Int) * 1).toNat]?)=fun m=>xs[i + m]?:=by
  funext m
  have:((i:Int) + (m:Int) * 1).toNat=i + m:=by omega
  rw[this]
 rw[e]
 have:=pick_run xs i k
 rw[List.filterMap_map]at this
 have e2:((fun x=>xs[x]?) ∘ fun x=>i + x)=fun m=>xs[i + m]?:=rfl
 rw[e2]at this
 rw[this]
theorem getItem_tuple_cut{t sl:Addr}{items:Array Value}{vl vu:Value}{lo hi:Option Int}{Q:Value->Shared->Prop}(ht:IsTup s.heap t items)(hs:s.heap.IsSliceOf sl vl vu .none)(pl:IsPart vl lo)(pu:IsPart vu hi)
  (hw:¬ (sIx items.size 0 lo=0/\sIx items.size items.size hi=items.size))
  (h:Q (.ref s.heap.objs.size) {s with heap:=s.heap.push {cls:=.type "tuple", data:=.seq ((items.toList.drop (sIx items.size 0 lo)).take (sIx items.size items.size hi - sIx items.size 0 lo)).toArray} })
  (hsz:items.size<=sizeLine):wpAny (model prog w) A (getItem (.ref t) (.ref sl)) Q E s:=by
 have htake:sizeOk (.seq ((items.toList.drop (sIx items.size 0 lo)).take (sIx items.size items.size hi - sIx items.size 0 lo)).toArray):=by
  show ((items.toList.drop (sIx items.size 0 lo)).take (sIx items.size items.size hi - sIx items.size 0 lo)).toArray.size<=sizeLine
  rw[List.size_toArray,List.length_take,List.length_drop,Array.length_toList]
  omega
 have hj:sIx items.size items.size hi<=items.size:=sIx_le _ _ (Nat.le_refl _) hi
 obtain⟨os,hos,hcs,hds⟩:=id hs
 have hTs:s.TypeIs (.ref sl) "slice" := ⟨os,hos,hcs⟩
 unfold getItem
 try with_reducible refine wpAny_holding ?_
 first|refine wpAny_bind (wpAny_pure ?_)|skip
 refine wpAny_bind (wpAny_sequenceKey ht.typeIs (by decide) ?_)
 refine wpAny_bind (wpAny_callSpecial?_slot (name:=Str.ofString "__getitem__") ht.typeIs PyProof.Rows.slot_tuple_getitem
  (wpAny_call_entry PyProof.Rows.slot_tuple_getitem ht.typeIs entry_tuple_getitem ?_ (args_tuple_getitem _ _)))
 show wpAny _ _ (Builtin.Tuple.tupleItemsOf (.ref t) >>= _) _ _ s
 refine wpAny_bind (tupleItemsOf_ ht ?_)
 refine wpAny_bind (wpAny_typeOf hTs ?_)
 rw[if_pos (by decide)]
 refine wpAny_bind (sliceApplied_gen hs pl pu ?_)
 have hno:¬ ((((sIx items.size 0 lo:Nat):Int)==0&&(1:Int)==1&&(sIx items.size items.size hi - sIx items.size 0 lo)==items.size)=true):=by
  intro q
  rw[Bool.and_eq_true,Bool.and_eq_true]at q
  have q1:((sIx items.size 0 lo:Nat):Int)=0:=eq_of_beq q.1.1
  have q2:sIx items.size items.size hi - sIx items.size 0 lo=items.size:=eq_of_beq q.2
  exact hw ⟨by omega,by omega⟩
 show wpAny _ _ (if (((sIx items.size 0 lo:Nat):Int)==0&&(1:Int)==1&&(sIx items.size items.size hi - sIx items.size 0 lo)==items.size)=true then _ else _) _ _ s
 rw[if_neg hno,pick_gen]
 first
  | exact wpAny_bind (m:=Builtin.Tuple.tupleExact _) (wpAny_newObj_type (wpAny_pure ⟨_,rfl,wpAny_pure h⟩) htake)
  | exact wpAny_bind (m:=Builtin.Tuple.tupleExact _) (wpAny_newObj_type (wpAny_bind (wpAny_pure (wpAny_pure ⟨_,rfl,wpAny_pure h⟩))) htake)
  | exact wpAny_bind (wpAny_bind (m:=Builtin.Tuple.tupleExact _) (wpAny_newObj_type (wpAny_pure (wpAny_pure ⟨_,rfl,wpAny_pure h⟩)) htake))
  | exact wpAny_bind (wpAny_bind (m:=Builtin.Tuple.tupleExact _) (wpAny_newObj_type (wpAny_pure ⟨_,rfl,wpAny_pure h⟩) htake))
end
end HT
namespace L2
open PySem PySem.Spec PyProof.Rows
abbrev TO:=St->Hp->(Option Int->Hp->Prop)->Prop
def PO(X:Cx)(e:Option Expr)(t:TO):Prop :=
 ∀(pins:List (Addr×Obj))(s:Shared)(σ:St)(H:Hp)(Q:Option Int->Hp->Prop),Inv X pins σ H s->t σ H Q →
  wpAny (model X.prog X.w) X.A (evalPart e X.env) (fun u s'=>∃o H',Inv X pins σ H' s'/\IsPart u o/\Q o H') X.xe s
def tNoPart:TO:=fun _ H Q=>Q none H
def tPart(t:TE):TO:=fun σ H Q=>t σ H fun x H1=>∃i,x=.int i/\Q (some i) H1
theorem intsAre_of{ns:List Int}:∀{us:List Value},Vals (ns.map V.int) us->IntsAre us ns:=by
 induction ns with
 | nil=>intro us r;rw[List.map_nil]at r;cases r;exact .nil
 | cons n ns ih =>
  intro us r
  rw[List.map_cons]at r
  cases r with
  | cons r1 r2 =>
   obtain⟨t,e⟩:=r1
   subst e
   exact .cons n t (ih r2)
section
variable {X:Cx} {e:Expr} {te:TE} {lo hi:Option Expr} {tl th:TO} {pos p2:Pos}
theorem po_none:PO X none tNoPart:=by
 intro pins s σ H Q I h
 rw[evalPart_none]
 exact wpAny_pure ⟨none,H,I,.none,h⟩
theorem po_some(h:PE X e te):PO X (some e) (tPart te):=by
 intro pins s σ H Q I hw
 rw[evalPart_some]
 refine thn (h pins s σ H _ I hw) fun u s1 ⟨x,H1,I1,r1,q1⟩=>?_
 obtain⟨i,rfl,q⟩:=q1
 obtain⟨t,rfl⟩:=r1
 exact⟨some i,H1,I1,.int i t,q⟩
def SlR(X:Cx)(r:V->Option Int->Option Int->Hp->VK->Prop):Prop :=
 ∀(pins:List (Addr×Obj))(s:Shared)(σ:St)(H:Hp)(x:V)(v vl vu:Value)(lo hi:Option Int)(sl:Addr)(Q:VK),Inv X pins σ H s->RelV x v->s.heap.IsSliceOf sl vl vu .none->IsPart vl lo->IsPart vu hi->r x lo hi H Q →
  ∃T id,typeLookup (.type T) "__getitem__" = pure (some (.builtin id))/\s.TypeIs v T/\wpAny (model X.prog X.w) X.A (getItem v (.ref sl)) (EP X pins σ Q) X.xe s
theorem SlR.or{r r':V->Option Int->Option Int->Hp->VK->Prop}(h:SlR X r)(h':SlR X r'):SlR X (fun x lo hi H Q=>r x lo hi H Q∨r' x lo hi H Q):=by
 intro pins s σ H x v vl vu lo hi sl Q I rx hs pl pu q
 rcases q with q|q
 ·exact h pins s σ H x v vl vu lo hi sl Q I rx hs pl pu q
 ·exact h' pins s σ H x v vl vu lo hi sl Q I rx hs pl pu q
def tSl(r:V->Option Int->Option Int->Hp->VK->Prop)(te:TE)(tl th:TO):TE:=fun σ H Q=>te σ H fun x H1=>tl σ H1 fun l H2=>th σ H2 fun u H3=>r x l u H3 Q
theorem pe_slice{r:V->Option Int->Option Int->Hp->VK->Prop}(hr:SlR X r)(he:PE X e te)(hl:PO X lo tl)(hu:PO X hi th):PE X (.Subscript e (.Slice lo hi none p2) pos) (tSl r te tl th):=by
 intro pins s σ H Q I h
 refine Subscript_ (thn (he pins s σ H _ I h) fun v s1 ⟨x,H1,I1,r1,q1⟩=>?_)
 refine wpAny_Slice (thn (hl pins s1 σ H1 _ I1 q1) fun vl s2 ⟨l,H2,I2,pl,q2⟩=>thn (hu pins s2 σ H2 _ I2 q2) fun vu s3 ⟨u,H3,I3,pu,q3⟩=>?_)
 rw[evalPart_none]
 refine wpAny_pure ?_
 have I4:Inv X pins σ H3 {s3 with heap:=s3.heap.push {cls:=.type "slice", data:=.fields #[vl,vu,.none]} }:=I3.kept (t':=s3.toks) fun b ob q=>Heap.get?_push_of_some _ q
 obtain⟨T,id,hT,ht,hg⟩:=hr pins {s3 with heap:=s3.heap.push {cls:=.type "slice", data:=.fields #[vl,vu,.none]} } σ H3 x v vl vu l u s3.heap.objs.size Q I4 r1 (Heap.IsSliceOf.new ..) pl pu q3
 show wpAny (model X.prog X.w) X.A (subscriptTail e (.Slice lo hi none p2) v (.ref s3.heap.objs.size)) (EP X pins σ Q) X.xe {s3 with heap:=s3.heap.push {cls:=.type "slice", data:=.fields #[vl,vu,.none]} }
 exact tail_any (ops:=[.ref s3.heap.objs.size,v]) ht hT hg (by with_unfolding_all rfl)
def cutV(xs:List V)(lo hi:Option Int):List V:=(xs.drop (HT.sIx xs.length 0 lo)).take (HT.sIx xs.length xs.length hi - HT.sIx xs.length 0 lo)
theorem cutV_length(xs:List V)(lo hi:Option Int):(cutV xs lo hi).length<=xs.length:=by
 unfold cutV
 rw[List.length_take,List.length_drop]
 omega
def rSlT(K:PySem.W.Frag):V->Option Int->Option Int->Hp->VK->Prop:=fun x lo hi H Q=>∃a xs,x=.ref a/\SqT K H a xs ∧
 ¬ (HT.sIx xs.length 0 lo=0/\HT.sIx xs.length xs.length hi=xs.length)/\∀p,H p=none->Q (.ref p) (upd H p (.tup (cutV xs lo hi)))
theorem sl_tup:SlR X (rSlT X.K):=by
 intro pins s σ H x v vl vu lo hi sl Q I rx hs pl pu h
 obtain⟨a,xs,rfl,hx,hw,q⟩:=h
 cases rx
 obtain⟨its,r,ht,hz⟩:=I.tuple hx
 have hlen:its.toArray.size=xs.length:=by rw[List.size_toArray];exact r.length.symm
 refine⟨"tuple", _,PyProof.Rows.slot_tuple_getitem.lookup,ht.typeIs,?_⟩
 refine HT.getItem_tuple_cut ht hs pl pu (by rw[hlen];exact hw) ?_ (by rw[hlen];exact hz)
 rw[hlen]
 refine⟨.ref s.heap.objs.size,_,I.laid (t':=s.toks) (o:=.tup (cutV xs lo hi)) (fun b ob q=>Heap.get?_push_of_some _ q) (Nat.le_refl _) ?_,rfl,q _ (I.hok.fresh (Nat.le_refl _))⟩
 exact⟨Nat.le_trans (cutV_length xs lo hi) hz,_,(r.drop (HT.sIx xs.length 0 lo)).take (HT.sIx xs.length xs.length hi - HT.sIx xs.length 0 lo),IsTup.new _ _⟩
theorem Vals.nil_iff{xs:List V}{us:List Value}(r:Vals xs us):us=[] ↔ xs=[]:=by
 cases r with
 | nil=>simp
 | cons _ _=>simp
end
end L2
namespace L2
open PySem PySem.Spec PyProof.Rows
def ixN(n:Nat)(i:Int):Option Nat:=if 0<=i then (if i < n then some i.toNat else none) else if -(n:Int)<=i then some (i + n).toNat else none
def atI{α:Type}(xs:List α)(i:Int):Option α:=(ixN xs.length i).bind fun j=>xs[j]?
theorem ixN_seq{n:Nat}{i:Int}{j:Nat}(h:ixN n i=some j):seqIndex? i n=some j/\j < n /\ -(n:Int)<=i/\i < n:=by
 unfold ixN at h
 by_cases h0:0<=i
 ·rw[if_pos h0]at h
  by_cases h1:i < n
  ·rw[if_pos h1]at h
   have e:i.toNat=j:=Option.some.inj h
   exact⟨by rw[seqIndex_of h0 h1,e],by omega,by omega,h1⟩
  ·rw[if_neg h1]at h;cases h
 ·rw[if_neg h0]at h
  by_cases h1:-(n:Int)<=i
  ·rw[if_pos h1]at h
   have e:(i + n).toNat=j:=Option.some.inj h
   exact⟨by rw[seqIndex_neg (by omega) h1,e],by omega,h1,by omega⟩
  ·rw[if_neg h1]at h;cases h
theorem atI_get{α:Type}{xs:List α}{i:Int}{v:α}(h:atI xs i=some v):∃j,seqIndex? i xs.length=some j/\xs[j]?=some v/\j < xs.length /\ -(xs.length:Int)<=i/\i < xs.length:=by
 unfold atI at h
 cases e:ixN xs.length i with
 | none=>rw[e]at h;cases h
 | some j =>
  rw[e]at h
  obtain⟨h1,h2,h3,h4⟩:=ixN_seq e
  exact⟨j,h1,h,h2,h3,h4⟩
theorem atI_last{α:Type}(xs:List α)(v:α):atI (xs++[v]) (-1)=some v:=by
 have hl:(xs++[v]).length=xs.length + 1:=by simp
 have e:ixN (xs++[v]).length (-1)=some xs.length:=by
  unfold ixN
  rw[hl,if_neg (by decide),if_pos (by omega)]
  congr 1
  omega
 unfold atI
 rw[e]
 show (xs++[v])[xs.length]?=some v
 simp
def PlainIx(b:Expr):Prop:=∀o i,subscripted b false o i=operate [o,i] (getItem o i)
def IxR(X:Cx)(r:R2):Prop :=
 ∀(value slice:Expr)(pins:List (Addr×Obj))(s:Shared)(σ:St)(H:Hp)(x y:V)(v u:Value)(Q:VK),Inv X pins σ H s->RelV x v->RelV y u->r x y H Q →
  subscripted slice false v u=operate [v,u] (getItem v u)->wpAny (model X.prog X.w) X.A (subscriptTail value slice v u) (EP X pins σ Q) X.xe s
def MtR(X:Cx)(id:String)(r:V->List V->Hp->VK->Prop):Prop :=
 ∀(pins:List (Addr×Obj))(s:Shared)(σ:St)(H:Hp)(x:V)(xs:List V)(v:Value)(us:List Value)(Q:VK),Inv X pins σ H s->RelV x v->Vals xs us->r x xs H Q →
  wpAny (model X.prog X.w) X.A (call (.builtin id) (v::us)) (EP X pins σ Q) X.xe s
section
variable {X:Cx} {a b:Expr} {ta tb:TE} {pos:Pos}
theorem IxR.or{r r':R2}(h:IxR X r)(h':IxR X r'):IxR X (fun x y H Q=>r x y H Q∨r' x y H Q):=by
 intro value slice pins s σ H x y v u Q I rx ry q hs
 rcases q with q|q
 ·exact h value slice pins s σ H x y v u Q I rx ry q hs
 ·exact h' value slice pins s σ H x y v u Q I rx ry q hs
theorem MtR.or{id:String}{r r':V->List V->Hp->VK->Prop}(h:MtR X id r)(h':MtR X id r'):MtR X id (fun x xs H Q=>r x xs H Q∨r' x xs H Q):=by
 intro pins s σ H x xs v us Q I rx rs q
 rcases q with q|q
 ·exact h pins s σ H x xs v us Q I rx rs q
 ·exact h' pins s σ H x xs v us Q I rx rs q
theorem pe_ix{r:R2}(hr:IxR X r)(ha:PE X a ta)(hb:PE X b tb)(hs:PlainIx b):PE X (.Subscript a b pos) (tOp r ta tb):=by
 intro pins s σ H Q I h
 exact Subscript_ (binT ha hb I h fun v u s2 x y H2 I2 rx ry q=>hr a b pins s2 σ H2 x y v u Q I2 rx ry q (hs _ _))
def rIxL(K:PySem.W.Frag):R2:=fun x y H Q=>∃p xs i v,x=.ref p/\y=.int i/\SqL K H p xs/\atI xs i=some v/\Q v H
def rIxT(K:PySem.W.Frag):R2:=fun x y H Q=>∃p xs i v,x=.ref p/\y=.int i/\SqT K H p xs/\atI xs i=some v/\Q v H
def rIxS:R2:=fun x y H Q=>∃z i c,x=.str z/\y=.int i/\z.length<=sizeLine/\atI z.cps.toList i=some c/\Q (.str ⟨#[c]⟩) H
theorem ix_list:IxR X (rIxL X.K):=by
 intro value slice pins s σ H x y v u Q I rx ry h hs
 obtain⟨p,xs,i,z,rfl,rfl,hq,he,q⟩:=h
 cases rx
 obtain⟨t,rfl⟩:=ry
 obtain⟨its,r,pl,hz⟩:=I.list hq
 obtain⟨j,h1,h2,h3,h4,h5⟩:=atI_get he
 obtain⟨w,ew,rw'⟩:=r.get h2
 have hl:=r.length
 have hn:=line63
 have fin:EP X pins σ Q w s:=⟨z,H,I,rw',q⟩
 by_cases h0:0<=i
 ·have hj:i.toNat=j:=by
   rw[seqIndex_of h0 h5]at h1
   exact Option.some.inj h1
  exact item_listR pl.isList h0 (by omega) (by rw[hj];simpa using ew) fin hs
 ·have hj:(i + (its.toArray.size:Int)).toNat=j:=by
   rw[seqIndex_neg (by omega) h4]at h1
   rw[List.size_toArray,← hl]
   exact Option.some.inj h1
  exact subscriptTail_builtinR (x:=w) pl.isList.typeIs slot_list_getitem.lookup
   (wpAny_getItem_list_neg (Q:=fun r s'=>r=w/\EP X pins σ Q r s') pl.isList (by omega) (by rw[List.size_toArray]<;>omega) (by omega) (by rw[hj];simpa using ew) ⟨rfl,fin⟩) hs
theorem ix_tup:IxR X (rIxT X.K):=by
 intro value slice pins s σ H x y v u Q I rx ry h hs
 obtain⟨p,xs,i,z,rfl,rfl,hq,he,q⟩:=h
 cases rx
 obtain⟨t,rfl⟩:=ry
 obtain⟨its,r,pl,hz⟩:=I.tuple hq
 obtain⟨j,h1,h2,h3,h4,h5⟩:=atI_get he
 obtain⟨w,ew,rw'⟩:=r.get h2
 have hl:=r.length
 have hn:=line63
 have fin:EP X pins σ Q w s:=⟨z,H,I,rw',q⟩
 exact subscriptTail_builtinR (x:=w) pl.typeIs slot_tuple_getitem.lookup
  (getItem_tuple (j:=j) (Q:=fun r s'=>r=w/\EP X pins σ Q r s') pl (by omega) (by omega) (by rw[List.size_toArray,← hl];exact h1) (by simpa using ew) ⟨rfl,fin⟩) hs
theorem ix_str:IxR X rIxS:=by
 intro value slice pins s σ H x y v u Q I rx ry h hs
 obtain⟨z,i,c,rfl,rfl,hz,he,q⟩:=h
 obtain⟨t,rfl⟩:=rx
 obtain⟨t',rfl⟩:=ry
 obtain⟨j,h1,h2,h3,h4,h5⟩:=atI_get he
 have hl:z.cps.toList.length=z.length:=by simp[Str.length]
 rw[hl]at h1 h4 h5
 have hn:=line63
 exact tail_any (typeIs_str s z t) slot_str_getitem.lookup (getItem_str (c:=c) (by
  have e1:decide (i < -(2 ^ 63:Int))=false:=decide_eq_false (by omega)
  have e2:decide (i ≥ 2 ^ 63)=false:=decide_eq_false (by omega)
  rw[e1,e2,Bool.or_false]) (by rw[h1];simpa using h2) ⟨.str ⟨#[c]⟩,H,I.tok _,⟨_,rfl⟩,q⟩) hs
def rIx(K:PySem.W.Frag):R2:=fun x y H Q=>rIxL K x y H Q∨rIxT K x y H Q∨rIxS x y H Q
theorem ix_seq:IxR X (rIx X.K):=ix_list.or (ix_tup.or ix_str)
theorem Inv.lst{pins:List (Addr×Obj)}{σ:St}{H:Hp}{s:Shared}{p:Addr}{xs:List V}(I:Inv X pins σ H s)(h:H p=some (.lst xs)) :
  ∃(its:List Value) (n:Nat),Vals xs its/\s.heap.get? p=some {cls:=.type "list", data:=.seq its.toArray n}/\xs.length<=sizeLine:=by
 obtain⟨z,its,n,r,e⟩:=I.hok p _ h
 exact⟨its,n,r,e,z⟩
theorem slice_bounds(lo hi:Option Int)(n:Nat):(sliceBounds lo hi none n).1=((HT.sIx n 0 lo:Nat):Int)/\(sliceBounds lo hi none n).2.1=((HT.sIx n n hi:Nat):Int)/\(sliceBounds lo hi none n).2.2=1:=by
 refine⟨?_,?_,rfl⟩
 ·cases lo with
  | none=>simp[sliceBounds,HT.sIx]
  | some i =>
   simp only[sliceBounds,HT.sIx,Option.getD_none,show (1:Int) > 0 by decide,if_true]
   by_cases h:i < 0
   ·simp only[h,if_true]<;>omega
   ·simp only[h,if_false]<;>omega
 ·cases hi with
  | none=>simp[sliceBounds,HT.sIx]
  | some i =>
   simp only[sliceBounds,HT.sIx,Option.getD_none,show (1:Int) > 0 by decide,if_true]
   by_cases h:i < 0
   ·simp only[h,if_true]<;>omega
   ·simp only[h,if_false]<;>omega
theorem slicePick_cut(its:List Value)(lo hi:Option Int):slicePick its.toArray lo hi none=((its.drop (HT.sIx its.length 0 lo)).take (HT.sIx its.length its.length hi - HT.sIx its.length 0 lo)).toArray:=by
 obtain⟨h1,h2,h3⟩:=slice_bounds lo hi its.toArray.size
 unfold slicePick
 rw[h1,h2,h3]
 simp only[sliceRange_one,pick_run,List.size_toArray]<;>rfl
def flatV:V->Bool
 | .non=>true
 | .bl _=>true
 | .int _=>true
 | .str _=>true
 | _=>false
def eqV:V->V->Bool
 | .non,.non=>true
 | .bl a,.bl b=>a==b
 | .bl a,.int b=>(if a then 1 else 0)==b
 | .int a,.bl b=>a==(if b then 1 else 0)
 | .int a,.int b=>a==b
 | .str a,.str b=>a==b
 | _,_=>false
theorem eqAt_V{A:Around}{s:Shared}{y x:V}{u v:Value}(ry:RelV y u)(rx:RelV x v)(fy:flatV y=true)(fx:flatV x=true):SeqAt.EqAt A s u v (eqV y x):=by
 cases y with
 | non =>
  cases ry
  cases x with
  | non=>cases rx;exact SeqAt.EqAt.same _
  | bl b=>cases rx;exact SeqAt.EqAt.none_bool b
  | int b=>obtain⟨t,rfl⟩:=rx;exact SeqAt.EqAt.none_int b t
  | str b=>obtain⟨t,rfl⟩:=rx;exact SeqAt.EqAt.none_str b t
  | _=>exact absurd (show false=true from fx) Bool.false_ne_true
 | bl a =>
  cases ry
  cases x with
  | non=>cases rx;exact SeqAt.EqAt.bool_none a
  | bl b=>cases rx;exact SeqAt.EqAt.bool_bool a b
  | int b=>obtain⟨t,rfl⟩:=rx;exact SeqAt.EqAt.bool_int a b t
  | str b=>obtain⟨t,rfl⟩:=rx;exact SeqAt.EqAt.bool_str a b t
  | _=>exact absurd (show false=true from fx) Bool.false_ne_true
 | int a =>
  obtain⟨t',rfl⟩:=ry
  cases x with
  | non=>cases rx;exact SeqAt.EqAt.int_none a t'
  | bl b=>cases rx;exact SeqAt.EqAt.int_bool a t' b
  | int b=>obtain⟨t,rfl⟩:=rx;exact SeqAt.EqAt.int_int a t' b t
  | str b=>obtain⟨t,rfl⟩:=rx;exact SeqAt.EqAt.int_str a t' b t
  | _=>exact absurd (show false=true from fx) Bool.false_ne_true
 | str a =>
  obtain⟨t',rfl⟩:=ry
  cases x with
  | non=>cases rx;exact SeqAt.EqAt.str_none a t'
  | bl b=>cases rx;exact SeqAt.EqAt.str_bool a t' b
  | int b=>obtain⟨t,rfl⟩:=rx;exact SeqAt.EqAt.str_int a t' b t
  | str b=>obtain⟨t,rfl⟩:=rx;exact SeqAt.EqAt.str_str a t' b t
  | _=>exact absurd (show false=true from fx) Bool.false_ne_true
 | _=>exact absurd (show false=true from fy) Bool.false_ne_true
def eqU(x:V)(u:Value):Bool:=match u with
 | .none=>eqV .non x
 | .bool b=>eqV (.bl b) x
 | .int i _=>eqV (.int i) x
 | .str z _=>eqV (.str z) x
 | _=>false
theorem eqU_of{x y:V}{u:Value}(r:RelV y u)(f:flatV y=true):eqU x u=eqV y x:=by
 cases y with
 | non=>cases r;rfl
 | bl b=>cases r;rfl
 | int i=>obtain⟨t,rfl⟩:=r;rfl
 | str z=>obtain⟨t,rfl⟩:=r;rfl
 | _=>exact absurd (show false=true from f) Bool.false_ne_true
theorem any_eqU{x:V}:∀{xs:List V}{us:List Value},Vals xs us->xs.all flatV=true->us.any (eqU x)=xs.any fun y=>eqV y x
 | _,_,.nil,_=>rfl
 | y::xs,u::us,.cons r t,f=>by
  rw[List.all_cons,Bool.and_eq_true]at f
  rw[List.any_cons,List.any_cons,eqU_of r f.1,any_eqU t f.2]
theorem mem_eqAt{A:Around}{s:Shared}{x:V}{v:Value}(rx:RelV x v)(fx:flatV x=true):∀{xs:List V}{us:List Value},Vals xs us->xs.all flatV=true->∀u∈us,SeqAt.EqAt A s u v (eqU x u)
 | _,_,.nil,_=>fun u hu=>by cases hu
 | y::xs,u::us,.cons r t,f=>fun u' hu=>by
  rw[List.all_cons,Bool.and_eq_true]at f
  rcases List.mem_cons.mp hu with rfl|hu
  ·rw[eqU_of r f.1];exact eqAt_V r rx f.1 fx
  ·exact mem_eqAt rx fx t f.2 u' hu
def inV(x:V)(xs:List V):Bool:=xs.any fun y=>eqV y x
def rIn(K:PySem.W.Frag)(neg:Bool):R2:=fun x y H Q=>∃p xs,y=.ref p/\(SqL K H p xs∨SqT K H p xs)/\flatV x=true/\xs.all flatV=true/\Q (.bl (if neg then !inV x xs else inV x xs)) H
theorem op_in_seq:OpR X (compareOp .In) (rIn X.K false):=by
 intro pins s σ H x y v u Q I rx ry h
 obtain⟨p,xs,rfl,hq,fx,fs,q⟩:=h
 cases ry
 rcases hq with hq|hq
 ·obtain⟨its,r,pl,hz⟩:=I.list hq
  refine SeqAt.in_listAt (eqU x) pl.isList (fun w hw=>mem_eqAt rx fx r fs w (by simpa using hw)) ⟨.bl _,H,I,rfl,?_⟩
  rw[show its.toArray.any (eqU x)=its.any (eqU x) by simp,any_eqU r fs]
  exact q
 ·obtain⟨its,r,pl,hz⟩:=I.tuple hq
  refine SeqAt.in_tupleAt (eqU x) pl (fun w hw=>mem_eqAt rx fx r fs w (by simpa using hw)) ⟨.bl _,H,I,rfl,?_⟩
  rw[show its.toArray.any (eqU x)=its.any (eqU x) by simp,any_eqU r fs]
  exact q
theorem op_notIn_seq:OpR X (compareOp .NotIn) (rIn X.K true):=by
 intro pins s σ H x y v u Q I rx ry h
 obtain⟨p,xs,rfl,hq,fx,fs,q⟩:=h
 cases ry
 rcases hq with hq|hq
 ·obtain⟨its,r,pl,hz⟩:=I.list hq
  refine SeqAt.notIn_listAt (eqU x) pl.isList (fun w hw=>mem_eqAt rx fx r fs w (by simpa using hw)) ⟨.bl _,H,I,rfl,?_⟩
  rw[show its.toArray.any (eqU x)=its.any (eqU x) by simp,any_eqU r fs]
  exact q
 ·obtain⟨its,r,pl,hz⟩:=I.tuple hq
  refine SeqAt.notIn_tupleAt (eqU x) pl (fun w hw=>mem_eqAt rx fx r fs w (by simpa using hw)) ⟨.bl _,H,I,rfl,?_⟩
  rw[show its.toArray.any (eqU x)=its.any (eqU x) by simp,any_eqU r fs]
  exact q
theorem call_len_seq:CallR X (.builtin "len") (fun xs H Q=>∃p ys,xs=[.ref p]/\(SqL X.K H p ys∨SqT X.K H p ys)/\Q (.int ys.length) H):=by
 intro pins s σ H xs us Q I r h
 obtain⟨p,ys,rfl,hq,q⟩:=h
 obtain⟨u,rfl,rx⟩:=vals1 r
 cases rx
 have hn:=line63
 rcases hq with hq|hq
 ·obtain⟨its,r',pl,hz⟩:=I.list hq
  have hlen:=r'.length
  exact Calls.call_len_list pl.isList (by simp only[List.size_toArray]<;>omega) ⟨.int ys.length,H,I.tok _,⟨s.toks + 1,by rw[List.size_toArray,hlen]⟩,q⟩
 ·obtain⟨its,r',pl,hz⟩:=I.tuple hq
  have hlen:=r'.length
  exact len_tuple pl (by simp only[List.size_toArray]<;>omega) ⟨.int ys.length,H,I.tok _,⟨s.toks + 1,by rw[List.size_toArray,hlen]⟩,q⟩
theorem CallR.or{f:Value}{r r':List V->Hp->VK->Prop}(h:CallR X f r)(h':CallR X f r'):CallR X f (fun xs H Q=>r xs H Q∨r' xs H Q):=by
 intro pins s σ H xs us Q I rs q
 rcases q with q|q
 ·exact h pins s σ H xs us Q I rs q
 ·exact h' pins s σ H xs us Q I rs q
theorem call_tuple_of:CallR X (.type "tuple") (fun xs H Q=>∃p ys,xs=[.ref p]/\((SqL X.K H p ys/\∀l,H l=none->Q (.ref l) (upd H l (.tup ys)))∨(SqT X.K H p ys/\Q (.ref p) H))):=by
 intro pins s σ H xs us Q I r h
 obtain⟨p,ys,rfl,h⟩:=h
 obtain⟨u,rfl,rx⟩:=vals1 r
 cases rx
 rcases h with ⟨hq,q⟩|⟨hq,q⟩
 ·obtain⟨its,r',pl,hz⟩:=I.list hq
  have hlen:=r'.length
  refine call_tuple_list pl.isList (fun h' kp=>?_) (by simp only[List.size_toArray]<;>omega)
  have I1:Inv X pins σ H {s with heap:=h' }:=I.kept (t':=s.toks) kp
  have I2:Inv X pins σ (upd H h'.objs.size (.tup ys)) {s with heap:=h'.push {cls:=.type "tuple", data:=.seq its.toArray} } :=
   I1.laid (t':=s.toks) (fun b o e=>Heap.get?_push_of_some _ e) (Nat.le_refl _) (show ObjOk X.prog X.w _ _ _ (.tup ys) from ⟨hz,its,r',IsTup.new _ _⟩)
  exact⟨.ref h'.objs.size,_,I2,rfl,q _ (I1.hok.fresh (Nat.le_refl _))⟩
 ·obtain⟨its,r',pl,hz⟩:=I.tuple hq
  exact call_tuple_same pl ⟨.ref p,H,I,rfl,q⟩
def tyV(K:PySem.W.Frag)(T:String)(x:V)(H:Hp):Prop:=match x with
 | .str _=>T = "str"
 | .int _=>T = "int"
 | .ref p=>(T = "list" /\ ∃xs,SqL K H p xs)∨(T = "tuple" /\ ∃o,K.lookup p=some o/\o.cls=.type "tuple" /\ o.dict=none) ∨
   (T = "dict" /\ ((∃kvs,H p=some (.dK kvs))∨∃kvs,H p=some (.dT kvs)))∨(T = "set" /\ ∃S n,H p=some (.set S n))
 | _=>False
theorem tyV_is{pins:List (Addr×Obj)}{σ:St}{H:Hp}{s:Shared}{T:String}{x:V}{v:Value}(I:Inv X pins σ H s)(r:RelV x v)(ty:tyV X.K T x H) :
  s.TypeIs v T/\∀a,v=.ref a->∃ob,s.heap.get? a=some ob/\ob.dict=none:=by
 cases x with
 | str z =>
  obtain⟨t,rfl⟩:=r
  cases (show T = "str" from ty)
  exact⟨typeIs_str s z t,fun _ e=>nomatch e⟩
 | int i =>
  obtain⟨t,rfl⟩:=r
  cases (show T = "int" from ty)
  exact⟨typeIs_int s i t,fun _ e=>nomatch e⟩
 | ref p =>
  cases r
  rcases ty with ⟨rfl,xs,hq⟩|⟨rfl,o,hk,hc,hd⟩|⟨rfl,hk⟩|⟨rfl,S,n,hk⟩
  ·obtain⟨its,_,pl,_⟩:=I.list hq
   refine⟨pl.isList.typeIs,fun a e=>?_⟩
   cases e
   obtain⟨o,n,e,c,hd,_⟩:=pl
   exact⟨o,e,hd⟩
  ·refine⟨⟨o,I.kIn p o hk,hc⟩,fun a e=>?_⟩
   cases e
   exact⟨o,I.kIn _ o hk,hd⟩
  ·have z:∃o,s.heap.get? p=some o/\o.ExactDict:=by
    rcases hk with ⟨kvs,hk⟩|⟨kvs,hk⟩
    ·obtain⟨_,_,_,_,o,_,_,e,ex,_⟩:=I.hok p _ hk
     exact⟨o,e,ex⟩
    ·obtain⟨_,_,_,_,o,_,_,e,ex,_⟩:=I.hok p _ hk
     exact⟨o,e,ex⟩
   obtain⟨o,e,ex⟩:=z
   refine⟨⟨o,e,ex.1⟩,fun a e2=>?_⟩
   cases e2
   exact⟨o,e,ex.2.1⟩
  ·obtain⟨o,_,_,_,e,ex,_⟩:=I.hok p _ hk
   refine⟨⟨o,e,ex.1⟩,fun a e2=>?_⟩
   cases e2
   exact⟨o,e,ex.2.1⟩
 | _=>exact False.elim ty
def tBM(K:PySem.W.Frag)(T:String)(r:V->List V->Hp->VK->Prop)(to:TE)(t:TA):TE:=fun σ H Q=>to σ H fun x H1=>tyV K T x H1/\t σ H1 fun xs H2=>r x xs H2 Q
variable {o e:Expr} {es:List Expr} {to:TE} {t:TA} {name:Str} {apos cpos:Pos} {T id:String} {r:V->List V->Hp->VK->Prop}
theorem pe_bm(pa:PlainAttrs T)(slot:Slot T name id) (hty:typeOf (.builtin id)=pure (.type "method_descriptor")) (hm:MtR X id r) (ho:PE X o to) (ha:PA X (e::es) t)
  (hbase:attributeBase o name X.env (eval o X.env)=eval o X.env:=by rfl)
  (hfew:((backTo cpos (starEach (e::es) X.env)).all (fun x=>!x.1)&&(backToKw cpos (keywordEach [] X.env)).all (fun x=>x.1.isSome)
   && decide ((e::es).length + ([]:List Keyword).length + (if ([]:List Keyword).isEmpty then 0 else 1) < 30))=true:=by rfl)
  (hline:(apos.endLine==cpos.line)=true:=by rfl) (hs:starEach (e::es) X.env=(false,eval e X.env)::starEach es X.env:=by rfl) (hplain:(backTo cpos (starEach es X.env)).any (·.1)=false:=by rfl) :
  PE X (.Call (.Attribute o name apos) (e::es) [] cpos) (tBM X.K T r to t):=by
 intro pins s σ H Q I h
 refine wpAny_Call_method_late hbase hfew hline rfl (thn (ho pins s σ H _ I h) fun v s1 ⟨x,H1,I1,r1,ty,q1⟩=>?_)
 obtain⟨h1,h2⟩:=tyV_is I1 r1 ty
 refine⟨T,id,pa,slot,hty,h1,h2,?_⟩
 have hA:=ha cpos pins s1 σ H1 _ I1 q1
 rw[hs]at hA ⊢
 refine Calls.callWith_builtin (by show (false||(backTo cpos (starEach es X.env)).any (·.1))=false;rw[hplain]<;>rfl) (Calls.evalArgs_plain ?_)
 exact thn hA fun us s2 ⟨vs,H2,I2,r2,q2⟩=>hm pins s2 σ H2 x vs v us Q I2 r1 r2 q2
end
end L2
namespace L2
open PySem PySem.Spec PyProof.Rows
def MtM(X:Cx)(id:String)(r:V->List V->Hp->VK->Prop):Prop :=
 ∀(pins:List (Addr×Obj))(s:Shared)(σ:St)(H:Hp)(x:V)(xs:List V)(v:Value)(us:List Value)(Q:VK),Inv X pins σ H s->RelV x v->Vals xs us->r x xs H Q →
  wpAny (model X.prog X.w) X.A (call (.builtin id) (v::us)) (EP X pins σ Q) X.xe s
theorem Vals.one:∀{x:V}{us:List Value},Vals [x] us->∃u,us=[u]/\RelV x u
 | _,_,.cons r .nil=>⟨_,rfl,r⟩
theorem Vals.eraseIdx:∀{xs:List V}{us:List Value}(i:Nat),Vals xs us->Vals (xs.eraseIdx i) (us.eraseIdx i)
 | _,_,_,.nil=>.nil
 | _,_,0,.cons _ t=>t
 | _,_,i + 1,.cons r t=>.cons r (Vals.eraseIdx i t)
theorem Vals.reverse{xs:List V}{us:List Value}(h:Vals xs us):Vals xs.reverse us.reverse:=by
 induction h with
 | nil=>exact .nil
 | cons r t ih=>rw[List.reverse_cons,List.reverse_cons];exact Vals.append ih (.cons r .nil)
theorem Vals.rep{xs:List V}{us:List Value}(h:Vals xs us):∀k:Nat,Vals (List.replicate k xs).flatten (List.replicate k us).flatten
 | 0=>.nil
 | k + 1=>by
  rw[List.replicate_succ,List.replicate_succ,List.flatten_cons,List.flatten_cons]
  exact Vals.append h (Vals.rep h k)
theorem len_erase{α:Type}:∀(l:List α)(i:Nat),(l.eraseIdx i).length<=l.length
 | [],_=>Nat.le_refl _
 | _::_,0=>Nat.le_succ _
 | _::r,i + 1=>Nat.succ_le_succ (len_erase r i)
section
variable {X:Cx} {pins:List (Addr×Obj)} {σ:St} {H:Hp} {s:Shared} {l b:Addr} {xs ys zs:List V}
theorem Inv.lset{its its':List Value}{n:Nat}{f:Array Value->Array Value}{t':Nat}(I:Inv X pins σ H s)(hH:H l=some (.lst xs))
  (e:s.heap.get? l=some {cls:=.type "list", data:=.seq its.toArray n}) (hf:f its.toArray=its'.toArray) (hv:Vals ys its') (hz:ys.length<=sizeLine) :
  Inv X pins σ (upd H l (.lst ys)) {s with heap:=s.heap.update l (Obj.mapSeq f),toks:=t' }:=by
 have q:=PySem.IsL.update e f
 rw[hf]at q
 refine I.write (x:=l) (e:=l) (by rw[hH];exact trivial) (.inl rfl) (fun b' u hb hu=>(Heap.get?_update_other s.heap (Obj.mapSeq f) (Ne.symm hb)).trans hu) ⟨_,q⟩ ?_
 exact⟨hz,its',_,hv,q⟩
theorem Inv.fresh(I:Inv X pins σ H s):H s.heap.objs.size=none:=I.hok.fresh (Nat.le_refl _)
theorem Inv.lstM(I:Inv X pins σ H s)(hH:H l=some (.lst xs)):xs.length<=sizeLine/\∃(its:List Value) (n:Nat),Vals xs its/\xs.length=its.length/\s.heap.get? l=some {cls:=.type "list", data:=.seq its.toArray n}:=by
 obtain⟨z,its,n,r,e⟩:=I.hok l _ hH
 exact⟨z,its,n,r,r.length,e⟩
theorem notLongL{n:Nat}(h:n<=sizeLine):Builtin.List.listTooLong n=false:=by
 unfold Builtin.List.listTooLong
 exact decide_eq_false (by omega)
end
section
variable {X:Cx}
def rAppend:V->List V->Hp->VK->Prop:=fun x vs H Q=>∃l xs y,x=.ref l/\vs=[y]/\H l=some (.lst xs)/\xs.length < sizeLine/\Q .non (upd H l (.lst (xs++[y])))
theorem mt_append:MtM X "list.append" rAppend:=by
 intro pins s σ H x vs v us Q I rx rv h
 obtain⟨l,xs,y,rfl,rfl,hH,hz,q⟩:=h
 cases rx
 obtain⟨u,rfl,ru⟩:=rv.one
 obtain⟨z,its,n,r,hl,e⟩:=I.lstM hH
 refine call_meets F.slot_list_append ⟨_,e,rfl⟩ F.entry_list_append (F.args_list_append_2 _ _) (PySem.list_append l its.toArray n u (by rw[List.size_toArray];omega)) ⟨e,?_⟩
 refine⟨.non,_,I.lset (its':=its++[u]) hH e (by simp) (r.append (.cons ru .nil)) ?_,rfl,q⟩
 rw[List.length_append,List.length_singleton]
 omega
def rExtend:V->List V->Hp->VK->Prop:=fun x vs H Q=>∃l b xs zs,x=.ref l/\vs=[.ref b]/\H l=some (.lst xs)/\H b=some (.lst zs)/\xs.length + zs.length<=sizeLine/\Q .non (upd H l (.lst (xs++zs)))
theorem mt_extend:MtM X "list.extend" rExtend:=by
 intro pins s σ H x vs v us Q I rx rv h
 obtain⟨l,b,xs,zs,rfl,rfl,hH,hB,hz,q⟩:=h
 cases rx
 obtain⟨u,rfl,ru⟩:=rv.one
 cases ru
 obtain⟨z,its,n,r,hl,e⟩:=I.lstM hH
 obtain⟨z2,its2,n2,r2,hl2,e2⟩:=I.lstM hB
 have hsz:its.toArray.size + its2.toArray.size<=sizeLine:=by rw[List.size_toArray,List.size_toArray];omega
 have hlong:¬ (!its.toArray.isEmpty&&Builtin.List.listTooLong (its.toArray.size + its2.toArray.size))=true:=by
  rw[notLongL hsz,Bool.and_false]
  exact Bool.false_ne_true
 refine call_meets F.slot_list_extend ⟨_,e,rfl⟩ F.entry_list_extend (F.args_list_extend_2 _ _)
  (AutoSeq1.list_extend_list_list_0 l its.toArray n b its2.toArray n2 hlong (by rw[List.size_toArray];omega) (by omega)) ⟨e,e2,?_⟩
 refine⟨.non,_,I.lset (its':=its++its2) hH e (by simp) (r.append r2) ?_,rfl,q⟩
 rw[List.length_append]
 omega
def rPopAt:V->List V->Hp->VK->Prop:=fun x vs H Q=>∃l xs i k y,x=.ref l/\vs=[.int i]/\H l=some (.lst xs) /\ -(2 ^ 63)<=i/\i < 2 ^ 63/\seqIndex? i xs.length=some k/\xs[k]?=some y/\Q y (upd H l (.lst (xs.eraseIdx k)))
theorem mt_popAt:MtM X "list.pop" rPopAt:=by
 intro pins s σ H x vs v us Q I rx rv h
 obtain⟨l,xs,i,k,y,rfl,rfl,hH,h1,h2,hk,hy,q⟩:=h
 cases rx
 obtain⟨u,rfl,ru⟩:=rv.one
 obtain⟨t,rfl⟩:=ru
 obtain⟨z,its,n,r,hl,e⟩:=I.lstM hH
 obtain⟨w,hw,rw'⟩:=r.get hy
 refine call_meets F.slot_list_pop ⟨_,e,rfl⟩ F.entry_list_pop (F.args_list_pop_2 _ _)
  (MeetsSeq.list_pop_at l its.toArray n i t k w (fitsIndex_both h1 h2) (by rw[List.size_toArray,← hl];exact hk) (by rw[← Array.getElem?_toList];exact hw) (by rw[List.size_toArray];omega)) ⟨e,?_⟩
 refine⟨y,_,I.lset (its':=its.eraseIdx k) hH e ?_ (r.eraseIdx k) ?_,rw',q⟩
 ·show its.toArray.eraseIdxIfInBounds k=(its.eraseIdx k).toArray
  rw[List.eraseIdxIfInBounds_toArray]
 ·have:=len_erase xs k
  omega
end
section
variable {prog:Program} {w:World} {A:Around} {E:Value->Shared->Prop} {s:Shared}
end
section
variable {X:Cx}
end
end L2
namespace Att
open PySem PySem.W PySem.Calls PyProof.Rows
theorem ints_of_wellAll{P:Params}{h:Heap}:∀(ns:List Int)(vs:List Value),WellAll P h vs (ns.map WData.int)->IntsAre vs ns:=by
 intro ns
 induction ns with
 | nil =>
  intro vs w
  rw[List.map_nil]at w
  cases w
  exact .nil
 | cons n ns ih =>
  intro vs w
  rw[List.map_cons]at w
  cases w with
  | cons a b =>
   cases a
   exact .cons _ _ (ih _ b)
theorem script_of{l:OpenLaw}{n:Nat}(hn:l.most=some n){P:Params}{h:Heap}{args:List WData}{vals:List Value}
  (hpre:l.row.toRowW.claim.pre args=true) (hwl:WellAll P h vals args) :
  ∃a vs ns,vals=[Value.ref a]/\args=[WData.list (ns.map WData.int)]/\h.get? a=some {cls:=.type "list", data:=.seq vs.toArray}/\IntsAre vs ns/\ns.length<=n:=by
 have hsh:WShape.hasAll [] args [.list .int]=true:=(pre_splitW hpre).1
 have hc:l.pre.holds [] {args:=args}=true:=(pre_splitW hpre).2
 obtain⟨d,r,rfl,h1,h2⟩:=hasAllW_cons hsh
 obtain rfl:=hasAllW_nil h2
 obtain⟨xs,rfl,h3⟩:=hasW_list h1
 obtain⟨ns,rfl⟩:=items_int h3
 have hlen:ns.length<=n:=by
  unfold OpenLaw.pre at hc
  have h4:(WTm.not (.lt (.lit (.int (n:Int))) (.len (.arg 0)))).holds [] {args:=[.list (ns.map .int)]}=true:=by
   have h4:=(holds_andW hc).1
   rw[hn]at h4
   exact h4
  have h5:=condW_of h4 (w_not (w_lt w_lit (w_len_list (w_arg rfl))))
  rw[List.length_map]at h5
  refine Nat.le_of_not_lt fun q=>?_
  have q':(n:Int) < ((ns.length:Nat):Int):=by omega
  first
   | (rw[decide_eq_true q']at h5;exact absurd h5 (by decide))
   | (simp at h5;omega)
 cases hwl with
 | cons w1 w2 =>
  cases w2
  cases w1 with
  | list ho hall=>exact⟨_,_,ns,rfl,rfl,ho,ints_of_wellAll ns _ hall,hlen⟩
theorem post_true(l:OpenLaw)(args:List WData):l.row.toRowW.claim.post args (.bool true) args=true :=
 postW_of (r:=l.row.toRowW) (X:=(true==true))
  (show WShape.has [] (.bool true) .bool=true by first|rfl|decide|simp[WShape.has,WShape.arms,WShape.armsAll])
  (show (WTm.eq .res (.lit (.bool true))).value [] {args:=args,res:=some (.bool true),after:=args}=some (.bool (true==true)) from w_eq_bool (w_res rfl) w_lit) rfl
theorem attach_call{l:OpenLaw}{n:Nat}{q:Program}{loose:List Str}{XP:(Str->Option Value)->Heap->Prop}{YP:World->Heap->Prop}{d:DefRec}
  (hn:l.most=some n) (hdf:d.params.defaults=[])
  (call:∀(w:World)(s₀ s₁:Shared)(mg mb:Str->Option Value)(fa:Addr)(o:Obj)(pm cd doc:Value)(a:Addr)(vs:List Value)(ns:List Int),
   Ground q loose [] XP w s₀ mg mb s₁.heap->YP w s₁.heap →
   s₁.heap.get? fa=some o->o.data=.func (docDef d.name d.params d.body d.scope pm cd doc)->s₁.heap.CodeRec cd d.name->mg d.name=some (.ref fa) →
   s₁.heap.get? a=some {cls:=.type "list", data:=.seq vs.toArray}->IntsAre vs ns->ns.length<=n->s₁.gens=#[] →
   codeAny (model l.prog w) callerA (.call (.ref fa) ⟨[.ref a],[]⟩) (fun r s'=>r=.ok (.ret (.bool true))/\OldK s₁.heap s'.heap/\s'.os=s₁.os/\AllBare s'.gens) s₁) :
  WalkO q loose XP YP l.row.toRowW d [] (fun f vs=>PySem.call f vs):=by
 intro w s₀ s₁ mg mb G Y fa o pm cd doc dV kV ho hd hcd hD hmg hg args vals as hpre hlay hrd hwl hlo
 obtain rfl:dV=.none:=Dflts.none hD hdf
 obtain rfl:kV=.none:=Dflts.noKw hD
 obtain⟨a,vs,ns,rfl,rfl,hobj,hints,hlen⟩:=script_of hn hpre hwl
 refine enter_call (codeAny_mono (call w s₀ s₁ mg mb fa o pm cd doc a vs ns G Y ho (fd_plain hd) hcd hmg hobj hints hlen hg) fun r s' hq=>?_)
 obtain⟨rfl,h2,h3,h4⟩:=hq
 exact⟨.inl ⟨.bool true,.bool true,[],rfl,fun _=>rfl,.bool true,post_true l _,fun _=>⟨List.Pairwise.nil,fun _ hm=>(nomatch hm)⟩⟩,h2,h3,h4⟩
section
variable {prog:Program} {w:World} {A:Around} {E:Value->Shared->Prop} {s:Shared} {K:Frag}
def ledger(h:Heap)(L d:Addr):List (Addr×Obj):=(List.range h.objs.size).filterMap fun a=>if a=L∨a=d then none else (h.get? a).map fun o=>(a,o)
end
end Att
namespace L2
open PySem PySem.Spec PyProof.Rows
theorem vals_ints:∀{vs:List Value}{ns:List Int},IntsAre vs ns->Vals (ns.map V.int) vs
 | _,_,.nil=>.nil
 | _,_,.cons n t h=>.cons ⟨t,rfl⟩ (vals_ints h)
def Only(H:Hp):Prop:=∀b,H b=none∨∃o xs,H b=some (.frz o (.lst xs))
theorem law_call{P:Program}{w:World}{K:PySem.W.Frag}{mg mb:Str->Option Value}{CX:CXT}{k:Nat}{fa a:Addr}{fd:FuncData}{x:Str}{sp:Sp}{s₁:Shared}{vs:List Value}{ns:List Int}
  (KX:K.In s₁.heap) (hns:s₁.heap.Ns mainGlobals mg) (hb:s₁.heap.Ns builtinsNs mb) (hbb:∀x:Str,x ≠ "__name__" -> mb x=bootBuiltins x) (hlim:s₁.heap.NoLimit) (hg:s₁.gens=#[])
  (ha:s₁.heap.get? a=some {cls:=.type "list", data:=.seq vs.toArray}) (hi:IntsAre vs ns) (hl:ns.length<=sizeLine) (hr:Room k callerA)
  (F:∀base:Heap,K.In base->base.Ns mainGlobals mg->FnOk P w K mg base CX k fa fd [x] sp) (hbind:∀(s:Shared)(u:Value),BindsTo s fd ⟨[u],[]⟩ [(x,u)])
  (hsp:∀H:Hp,Only H->SqL K H a (ns.map V.int)->sp [.ref a] H (fun v _=>v=.bl true) fun _ _ _=>False)
  (hCX:∀H e s',CX [] H s₁ (fun _ _ _=>False) e s'->False) :
  codeAny (model P w) callerA (.call (.ref fa) ⟨[.ref a],[]⟩) (fun r s'=>r=.ok (.ret (.bool true))/\OldK s₁.heap s'.heap/\s'.os=s₁.os/\AllBare s'.gens) s₁:=by
 have rv:=vals_ints hi
 have lenV:=hi.length
 have core:∀H:Hp,Only H->SqL K H a (ns.map V.int)->HOk P w H s₁.heap->(∀b,H b≠none->b=a)->(H a≠none->K.lookup a=none) →
   codeAny (model P w) callerA (.call (.ref fa) ⟨[.ref a],[]⟩) (fun r s'=>r=.ok (.ret (.bool true))/\OldK s₁.heap s'.heap/\s'.os=s₁.os/\AllBare s'.gens) s₁:=by
  intro H hO hS hok hA hK
  have base_of:∀{b:Addr}{o:Obj},s₁.heap.get? b=some o->H b=none->(hidT s₁.heap H).get? b=some o:=fun e n=>hidT_get e n
  have noA:∀{b:Addr}{o:Obj}{es:Array DictEntry}{ep:Nat},s₁.heap.get? b=some o->o.data=.dict es ep->H b=none:=fun {b o es ep} e d=>by
   cases q:H b with
   | none=>rfl
   | some u =>
    have e':b=a:=hA b (by rw[q];simp)
    subst e'
    rw[ha]at e;cases e
    have d':Data.seq vs.toArray _=Data.dict es ep:=d
    cases d'
  have nsK:∀{b:Addr}{m:Str->Option Value},s₁.heap.Ns b m->(hidT s₁.heap H).Ns b m:=fun {b m} ⟨o,es,ep,e,d,r⟩=>⟨o,es,ep,base_of e (noA e d),d,r⟩
  have hKb:K.In (hidT s₁.heap H):=fun b o e=>base_of (KX b o e) (by
   cases q:H b with
   | none=>rfl
   | some u =>
    have e':b=a:=hA b (by rw[q];simp)
    subst e'
    rw[hK (by rw[q];simp)]at e;cases e)
  have hM:Mod K mg (hidT s₁.heap H):=⟨hKb,nsK hns,⟨mb,nsK hb,hbb⟩,let ⟨mc,h1,h2⟩:=hlim;⟨mc,nsK h1,h2⟩⟩
  have e0:Env0 P w K mg (hidT s₁.heap H) callerA [] s₁ H:=⟨rfl,hM,fun b o e=>of_hidT e,Nat.le_of_eq (hidT_size _ _),trivial,fun b hb=>absurd (show b∈([]:List Addr) from hb) (by simp),hok,.of_eq hg⟩
  refine codeAny_mono ((F _ hKb (nsK hns)).run callerA [] s₁ H ⟨[.ref a],[]⟩ [.ref a] [.ref a] _ _ hr e0 (hbind s₁ (.ref a)) (.cons rfl .nil) (hsp H hO hS)) fun r s' h=>?_
  cases r with
  | error e=>exact(hCX H e s' h).elim
  | ok fl =>
   cases fl with
   | next=>exact False.elim h
   | brk=>exact False.elim h
   | cont=>exact False.elim h
   | ret u =>
    obtain⟨v,H',os,bare,un,hok',r',q⟩:=h
    have q':v=.bl true:=q
    subst q'
    obtain rfl:u=Value.bool true:=r'
    refine⟨rfl,OldK.of_keep fun b o e=>?_,os,bare⟩
    cases q:H b with
    | none=>exact un.keep b o e q (by intro z;exact absurd (show b∈([]:List Addr) from z) (by simp)) (by simp)
    | some u =>
     rcases hO b with z|⟨ob,xs,z⟩
     ·rw[q]at z;cases z
     ·have z2:=un.frzs b ob _ z
      obtain⟨e1,_⟩:=hok b _ z
      obtain⟨e2,_⟩:=hok' b _ z2
      rw[e]at e1;cases e1
      exact e2
 cases hk:K.lookup a with
 | some o =>
  have e:=KX a o hk
  rw[ha]at e
  cases e
  refine core (fun _=>none) (fun _=>.inl rfl) (.inr ⟨_,vs.toArray,_,hk,rfl,rfl,rfl,by rw[List.size_toArray,lenV];exact hl,by simpa using rv⟩) (fun b u z=>by have z':(none:Option HO)=some u:=z;cases z') (fun b z=>absurd rfl z) fun z=>absurd rfl z
 | none =>
  refine core (fun b=>if b=a then some (.frz {cls:=.type "list", data:=.seq vs.toArray} (.lst (ns.map V.int))) else none) (fun b=>?_) (.inl (.inr ⟨{cls:=.type "list", data:=.seq vs.toArray},if_pos rfl⟩)) (fun b u z=>?_) (fun b z=>?_) fun _=>hk
  ·by_cases hb:b=a
   ·exact .inr ⟨_,_,if_pos hb⟩
   ·exact .inl (if_neg hb)
  ·by_cases hb:b=a
   ·have z':=(if_pos hb).symm.trans z
    cases z'
    subst hb
    exact⟨ha,by rw[List.length_map];exact hl,vs,_,rv,ha⟩
   ·have z':=(if_neg hb).symm.trans z
    cases z'
  ·by_cases hb:b=a
   ·exact hb
   ·exact absurd (if_neg hb) z
end L2
namespace L2
open PySem PySem.Spec PyProof.Rows
abbrev KOf{K:PySem.W.Frag}{h:Heap}(_:K.In h):PySem.W.Frag:=K
theorem walk_of{l:PySem.W.OpenLaw}{n k:Nat}{q:Program}{loose:List Str}{XP:(Str->Option Value)->Heap->Prop}{YP:World->Heap->Prop}{d:DefRec}{K:Params->PySem.W.Frag}{CX:World->CXT}{sp:World->Sp}{x:Str}
  (hn:l.most=some n) (hn2:n<=sizeLine) (hdf:d.params.defaults=[]) (hr:Room k callerA)
  (hY:∀(w:World)(h:Heap),YP w h->(K w.params).In h)
  (F:∀(w:World)(mg:Str->Option Value)(fa:Addr)(h:Heap),(K w.params).In h->h.Ns mainGlobals mg->mg d.name=some (.ref fa) →
   ∃fd:FuncData,(∀(s:Shared)(u:Value),BindsTo s fd ⟨[u],[]⟩ [(x,u)]) ∧
    ∀base:Heap,(K w.params).In base->base.Ns mainGlobals mg->FnOk l.prog w (K w.params) mg base (CX w) k fa fd [x] (sp w))
  (hsp:∀(w:World)(H:Hp)(a:Addr)(ns:List Int),ns.length<=n->Only H->SqL (K w.params) H a (ns.map V.int)->sp w [.ref a] H (fun v _=>v=.bl true) fun _ _ _=>False)
  (hCX:∀(w:World)(H:Hp)(s:Shared)(e:Value)(s':Shared),CX w [] H s (fun _ _ _=>False) e s'->False) :
  PySem.W.WalkO q loose XP YP l.row.toRowW d [] (fun f vs=>PySem.call f vs):=by
 refine Att.attach_call hn hdf fun w s₀ s₁ mg mb fa o pm cd doc a vs ns G Y ho hd hcd hmg hobj hints hlen hg=>?_
 have KX:=hY w _ Y
 obtain⟨fd,hb,hF⟩:=F w mg fa _ KX G.T.g hmg
 exact law_call KX G.T.g G.T.b G.T.builtins G.T.nolimit hg hobj hints (Nat.le_trans hlen hn2) hr hF hb (fun H hO hS=>hsp w H a ns hlen hO hS) fun H e s'=>hCX w H s₁ e s'
end L2
namespace L2
open PySem PySem.Spec PyProof.Rows
def defArgs(s:Stmt):Arguments:=match s with
 | .FunctionDef _ a _ _ _ _ _ _ _ _=>a
 | _=>{posonlyargs:=[],args:=[],vararg:=none,kwonlyargs:=[],kw_defaults:=[],kwarg:=none,defaults:=[]}
def defBody(s:Stmt):List Stmt:=match s with
 | .FunctionDef _ _ b _ _ _ _ _ _ _=>b
 | _=>[]
def defScope(s:Stmt):Scope:=match s with
 | .FunctionDef _ _ _ _ _ _ sc _ _ _=>sc
 | _=>{kind:=.function,names:=[],isGenerator:=false,isCoroutine:=false}
abbrev CX0:CXT:=fun _ _ _ _ _ _=>False
abbrev E0:XK:=fun _ _ _=>False
theorem pass0{X:Cx}:Passes CX0 X E0:=fun _ _ _ _ _ _ _ h=>h.elim
structure Fun(K:PySem.W.Frag)(x qual:Str)(st:Stmt)(f:Addr)(fd:FuncData):Prop where
 ex:∃(oc:Value) (od:Option Addr) (kV doc pm:Value) (an:Option Addr) (cdv ct:Value) (osl:Array (Option Value)),
  fd=PySem.W.fnOf x qual (defArgs st) (defBody st) (defScope st) .none kV doc pm an cdv ct/\K.lookup f=some ⟨oc,od,.func fd,osl⟩/\PySem.W.codeIn K cdv qual=true
 kp:PySem.W.keepIn K (.ref f)=true
section
variable {P:Program} {w:World} {K:PySem.W.Frag} {mg:Str->Option Value} {base:Heap}
theorem Fun.ok{x qual:Str}{st:Stmt}{f:Addr}{fd:FuncData}{N ps:List Str}{k:Nat}{sp:Sp}(F:Fun K x qual st f fd)(S:FnScope N ps (defScope st))(len:∀vs H Q E,sp vs H Q E->vs.length=ps.length)
  (hbody:∀(cdv:Value)(A:Around)(outer:List Env)(s:Shared)(H:Hp)(vs:List V)(Q:VK)(E:XK),Room k (A.deeper (envOfC qual (defScope st) s.heap.objs.size f cdv))->sp vs H Q E →
   ∃t,PSs (cxOf CX0 P w K mg base N qual (defScope st) f cdv A outer s H E).nox (defBody st) t/\t {nx:=fun _ H'=>Q .non H',rt:=Q} (start N vs) H):FnOk P w K mg base CX0 (k + 1) f fd ps sp:=by
 obtain⟨oc,od,kV,doc,pm,an,cdv,ct,osl,rfl,lk,hcd⟩:=F.ex
 refine fn_of lk hcd S len fun A outer s H vs Q E hr hsp=>?_
 obtain⟨t,h,q⟩:=hbody cdv A outer s H vs Q E hr hsp
 exact⟨t,h.nox,q⟩
theorem Fun.binds{x qual:Str}{st:Stmt}{f:Addr}{fd:FuncData}{ps:List Str}(F:Fun K x qual st f fd)
  (h:∀(kV doc pm:Value)(an:Option Addr)(cdv ct:Value)(us:List Value),us.length=ps.length->bindArgs (PySem.W.fnOf x qual (defArgs st) (defBody st) (defScope st) .none kV doc pm an cdv ct) ⟨us,[]⟩=pure (ps.zip us)):Binds K fd ps []:=by
 obtain⟨oc,od,kV,doc,pm,an,cdv,ct,osl,rfl,lk,hcd⟩:=F.ex
 exact .all (h kV doc pm an cdv ct)
theorem fun_mk{x qual:Str}{st:Stmt}{f:Addr}{oc:Value}{od an:Option Addr}{osl:Array (Option Value)}{kV doc pm cdv ct:Value}(l:K.lookup f=some ⟨oc,od,.func (PySem.W.fnOf x qual (defArgs st) (defBody st) (defScope st) .none kV doc pm an cdv ct),osl⟩)
  (c:PySem.W.codeIn K cdv qual=true) (k:PySem.W.keepIn K (.ref f)=true):Fun K x qual st f (PySem.W.fnOf x qual (defArgs st) (defBody st) (defScope st) .none kV doc pm an cdv ct):=⟨⟨oc,od,kV,doc,pm,an,cdv,ct,osl,rfl,l,c⟩,k⟩
end
theorem hu_of{A:Around}{k:Nat}(hr:Room k A):A.units + 1 < cLine:=Nat.lt_of_le_of_lt (Nat.add_le_add_left (by decide:1<=64) _) hr.units
theorem small1000{n:Nat}(h:n<=1000):n < sizeLine:=Nat.lt_of_le_of_lt h (by decide)
section
variable {X:Cx}
theorem pv(i:Nat){x:Str}{pos:Pos}(hN:X.N[i]?=some x:=by rfl)(hv:Vis X.env.scope x:=by first|exact Or.inl rfl|exact Or.inr (Or.inl rfl)|exact Or.inr (Or.inr rfl)) (hd:(x==("__debug__" : Str))=false:=by decide)
  (hcd:(x==("__classdict__" : Str))=false:=by decide):PE X (.Name x pos) (tVar i):=pe_var hN hv hd hcd
end
def Same(H H':Hp):Prop:=∀b o,H b=some o->H' b=some o
theorem Same.refl(H:Hp):Same H H:=fun _ _ h=>h
theorem Same.trans{H H1 H2:Hp}(a:Same H H1)(b:Same H1 H2):Same H H2:=fun c o h=>b c o (a c o h)
theorem Same.free{H H':Hp}(e:Same H H'){l:Addr}(h:H' l=Option.none):H l=Option.none:=by
 cases q:H l with
 | none=>rfl
 | some o =>
  rw[e l o q]at h
  cases h
theorem Same.seq{K:PySem.W.Frag}{H H':Hp}{a:Addr}{xs:List V}(e:Same H H')(h:SqL K H a xs):SqL K H' a xs:=by
 rcases h with (h|⟨o,h⟩)|h
 ·exact .inl (.inl (e _ _ h))
 ·exact .inl (.inr ⟨o,e _ _ h⟩)
 ·exact .inr h
end L2
section
namespace L2
open PySem PySem.Spec PyProof.Rows
section
variable {κ:Type} [DecidableEq κ]
def valV(kvs:List (κ×V))(k:κ):Option V:=(kvs.find? fun kv=>decide (kv.1=k)).map (·.2)
def putK(kvs:List (κ×V))(k:κ)(v:V):List (κ×V) :=
 if (kvs.any fun kv=>decide (kv.1=k))=true then kvs.map (fun kv=>if kv.1=k then (kv.1,v) else kv) else kvs++[(k,v)]
def dropK(kvs:List (κ×V))(k:κ):List (κ×V):=kvs.filter fun kv=>decide (kv.1≠k)
theorem valV_pos{p:κ×V}{r:List (κ×V)}{k:κ}(e:p.1=k):valV (p::r) k=some p.2:=by simp[valV,List.find?_cons,e]
theorem valV_neg{p:κ×V}{r:List (κ×V)}{k:κ}(e:¬ p.1=k):valV (p::r) k=valV r k:=by simp[valV,List.find?_cons,e]
theorem valV_any(k:κ):∀kvs:List (κ×V),(kvs.any fun kv=>decide (kv.1=k))=(valV kvs k).isSome
 | []=>rfl
 | p::r=>by
  rw[List.any_cons]
  by_cases e:p.1=k
  ·simp only[valV_pos e,decide_eq_true e,Bool.true_or,Option.isSome_some]
  ·rw[valV_neg e,decide_eq_false e,Bool.false_or];exact valV_any k r
theorem valV_snoc(k j:κ)(y:V):∀kvs:List (κ×V),valV kvs k=none->valV (kvs++[(k,y)]) j=if j=k then some y else valV kvs j
 | [],_=>by
  by_cases e:k=j
  ·rw[if_pos e.symm];exact valV_pos (p:=(k,y)) e
  ·rw[if_neg (fun z=>e z.symm)];exact valV_neg (p:=(k,y)) e
 | p::r,hn=>by
  rw[List.cons_append]
  have hk:¬ p.1=k:=fun z=>by rw[valV_pos z]at hn;cases hn
  rw[valV_neg hk]at hn
  have ih:=valV_snoc k j y r hn
  by_cases e:p.1=j
  ·rw[valV_pos e,valV_pos e,if_neg (fun z=>hk (e.trans z))]
  ·rw[valV_neg e,valV_neg e,ih]
theorem length_putK(kvs:List (κ×V))(k:κ)(v:V):(putK kvs k v).length<=kvs.length + 1:=by
 unfold putK
 split
 ·rw[List.length_map];omega
 ·rw[List.length_append,List.length_cons,List.length_nil];omega
theorem putK_new{kvs:List (κ×V)}{k:κ}(v:V)(h:valV kvs k=none):putK kvs k v=kvs++[(k,v)]:=by
 unfold putK
 rw[valV_any,h]
 exact if_neg (by decide)
theorem RelO.isSome_eq{o:Option V}{u:Option Value}(r:RelO o u):o.isSome=u.isSome:=by
 cases o with
 | none=>cases u with
  | none=>rfl
  | some _=>exact(show False from r).elim
 | some _=>cases u with
  | none=>exact(show False from r).elim
  | some _=>rfl
theorem RelO.getD{o:Option V}{u:Option Value}{d:V}{d':Value}(r:RelO o u)(rd:RelV d d'):RelV (o.getD d) (u.getD d'):=by
 cases o with
 | none=>cases u with
  | none=>exact rd
  | some _=>exact(show False from r).elim
 | some _=>cases u with
  | none=>exact(show False from r).elim
  | some _=>exact r
theorem KV.val{kvs:List (κ×V)}{vs:List (κ×Value)}(r:KV kvs vs)(k:κ):RelO (valV kvs k) (valueAt vs k):=by
 unfold KV at r
 induction r with
 | nil=>exact True.intro
 | @cons p q ps qs h t ih =>
  obtain⟨h1,h2⟩:=h
  by_cases e:p.1=k
  ·have e':q.1=k:=h1.symm.trans e
   have b:valueAt (q::qs) k=some q.2:=by simp[valueAt,List.find?_cons,e']
   rw[valV_pos e,b];exact h2
  ·have e':¬ q.1=k:=fun z=>e (h1.trans z)
   have b:valueAt (q::qs) k=valueAt qs k:=by simp[valueAt,List.find?_cons,e']
   rw[valV_neg e,b];exact ih
theorem KV.any{kvs:List (κ×V)}{vs:List (κ×Value)}(r:KV kvs vs)(k:κ):(kvs.any fun kv=>decide (kv.1=k))=vs.any fun kv=>decide (kv.1=k):=by
 unfold KV at r
 induction r with
 | nil=>rfl
 | cons h t ih=>rw[List.any_cons,List.any_cons,ih,h.1]
theorem KV.repl{kvs:List (κ×V)}{vs:List (κ×Value)}(r:KV kvs vs)(k:κ){y:V}{u:Value}(ry:RelV y u) :
  KV (kvs.map fun kv=>if kv.1=k then (kv.1,y) else kv) (vs.map fun kv=>if kv.1=k then (kv.1,u) else kv):=by
 unfold KV at r ⊢
 induction r with
 | nil=>exact .nil
 | @cons p q ps qs h t ih =>
  rw[List.map_cons,List.map_cons]
  refine .cons ?_ ih
  obtain⟨h1,h2⟩:=h
  by_cases e:p.1=k
  ·rw[if_pos e,if_pos (h1.symm.trans e)];exact⟨h1,ry⟩
  ·rw[if_neg e,if_neg (fun z=>e (h1.trans z))];exact⟨h1,h2⟩
theorem KV.put{kvs:List (κ×V)}{vs:List (κ×Value)}(r:KV kvs vs)(k:κ){y:V}{u:Value}(ry:RelV y u):KV (putK kvs k y) (stored vs k u):=by
 unfold putK stored
 rw[r.any k]
 by_cases e:(vs.any fun kv=>decide (kv.1=k))=true
 ·rw[if_pos e,if_pos e];exact r.repl k ry
 ·rw[if_neg e,if_neg e];exact Paired.snoc r ⟨rfl,ry⟩
theorem KV.drop{kvs:List (κ×V)}{vs:List (κ×Value)}(r:KV kvs vs)(k:κ):KV (dropK kvs k) (without vs k):=by
 unfold KV at r ⊢
 unfold dropK without
 induction r with
 | nil=>exact .nil
 | @cons p q ps qs h t ih =>
  obtain⟨h1,h2⟩:=h
  rw[List.filter_cons,List.filter_cons]
  by_cases e:p.1=k
  ·have a:¬ decide (p.1≠k)=true:=by simp[e]
   have b:¬ decide (q.1≠k)=true:=by simp[h1.symm.trans e]
   rw[if_neg a,if_neg b];exact ih
  ·have e':¬ q.1=k:=fun z=>e (h1.trans z)
   have a:decide (p.1≠k)=true:=by simp[e]
   have b:decide (q.1≠k)=true:=by simp[e']
   rw[if_pos a,if_pos b];exact .cons ⟨h1,h2⟩ ih
theorem KV.length{kvs:List (κ×V)}{vs:List (κ×Value)}(r:KV kvs vs):kvs.length=vs.length:=Paired.length r
end
theorem kV_is{P:Program}{w:World}{k:Key}{u:Value}(r:RelV (kV k) u):(mixKind P w).is k u=true:=by
 cases k with
 | inl i=>obtain⟨t,e⟩:=(show ∃t,u=Value.int i t from r);subst e;exact mixKind_int P w i t
 | inr x=>obtain⟨t,e⟩:=(show ∃t,u=Value.str x t from r);subst e;exact mixKind_str P w x t
theorem items_are{P:Program}{w:World}:∀{ks:List Key}{us:List Value},Vals (ks.map kV) us->ItemsAre (mixKind P w) ks us
 | [],_,r=>by rw[List.map_nil]at r;cases r;exact .nil
 | k::ks,_,r=>by
  rw[List.map_cons]at r
  cases r with
  | cons h t=>exact .cons (kV_is h) (items_are t)
abbrev KT(H:Hp):List (List Key×V)->List (List Key×Addr×Value)->Prop:=Paired fun p q=>p.1=q.1/\H q.2.1=some (.tup (p.1.map kV))/\RelV p.2 q.2.2
theorem KT.val{H:Hp}{kvs:List (List Key×V)}{xs:List (List Key×Addr×Value)}(r:KT H kvs xs)(k:List Key):RelO (valV kvs k) ((atKey xs k).map (·.2)):=by
 induction r with
 | nil=>exact True.intro
 | @cons p q ps qs h t ih =>
  obtain⟨h1,_,h2⟩:=h
  by_cases e:p.1=k
  ·have e':q.1=k:=h1.symm.trans e
   have b:atKey (q::qs) k=some q.2:=by simp[atKey,List.find?_cons,e']
   rw[valV_pos e,b];exact h2
  ·have e':¬ q.1=k:=fun z=>e (h1.trans z)
   have b:atKey (q::qs) k=atKey qs k:=by simp[atKey,List.find?_cons,e']
   rw[valV_neg e,b];exact ih
theorem KT.repl{H:Hp}{kvs:List (List Key×V)}{xs:List (List Key×Addr×Value)}(r:KT H kvs xs)(k:List Key){y:V}{u:Value}(ry:RelV y u) :
  KT H (kvs.map fun kv=>if kv.1=k then (kv.1,y) else kv) (xs.map (putAt k u)):=by
 induction r with
 | nil=>exact .nil
 | @cons p q ps qs h t ih =>
  rw[List.map_cons,List.map_cons]
  refine .cons ?_ ih
  obtain⟨h1,h2,h3⟩:=h
  unfold putAt
  by_cases e:p.1=k
  ·rw[if_pos e,if_pos (h1.symm.trans e)];exact⟨h1,h2,ry⟩
  ·rw[if_neg e,if_neg (fun z=>e (h1.trans z))];exact⟨h1,h2,h3⟩
theorem KT.put{H:Hp}{kvs:List (List Key×V)}{xs:List (List Key×Addr×Value)}(r:KT H kvs xs)(k:List Key){b:Addr}{y:V}{u:Value}(hb:H b=some (.tup (k.map kV)))(ry:RelV y u) :
  KT H (putK kvs k y) (storedH xs k b u):=by
 have e:(kvs.any fun kv=>decide (kv.1=k))=(atKey xs k).isSome:=by
  rw[valV_any,(r.val k).isSome_eq,Option.isSome_map]
 unfold putK storedH
 rw[e]
 by_cases q:(atKey xs k).isSome=true
 ·rw[if_pos q,if_pos q];exact r.repl k ry
 ·rw[if_neg q,if_neg q];exact Paired.snoc r ⟨rfl,hb,ry⟩
theorem KT.keeps{H H':Hp}{kvs:List (List Key×V)}{xs:List (List Key×Addr×Value)}(r:KT H kvs xs)(ht:∀b ys,H b=some (.tup ys)->H' b=some (.tup ys)):KT H' kvs xs :=
 Paired.mapP r fun _ _ z=>⟨z.1,ht _ _ z.2.1,z.2.2⟩
section
variable {P:Program} {w:World} {H:Hp} {h:Heap} {a:Addr}
theorem rd_of{u:HO}(ok:HOk P w H h)(e:Rd H a u):ObjOk P w H h a u:=e.ok ok
theorem dk_rd{kvs:List (Key×V)}(ok:HOk P w H h)(e:Rd H a (.dK kvs)):kvs.length<=sizeLine/\(a==sysModules)=false/\∃vs,KV kvs vs/\h.DictOf (mixKind P w) a vs :=
 show ObjOk P w H h a (.dK kvs) from rd_of ok e
theorem dk_of{kvs:List (Key×V)}(ok:HOk P w H h)(e:H a=some (.dK kvs)):kvs.length<=sizeLine/\(a==sysModules)=false/\∃vs,KV kvs vs/\h.DictOf (mixKind P w) a vs:=dk_rd ok (.inl e)
theorem key_of{ks:List Key}(ok:HOk P w H h)(e:H a=some (.tup (ks.map kV))):(tupleKind (mixKind P w)).is h ks a:=by
 obtain⟨_,its,r,o,h1,h2,n,h3⟩:=(show ObjOk P w H h a (.tup (ks.map kV)) from ok a _ e)
 exact⟨o,its.toArray,n,h1,h2,h3,by simpa using items_are r⟩
theorem dt_rd{kvs:List (List Key×V)}(ok:HOk P w H h)(e:Rd H a (.dT kvs)):kvs.length<=sizeLine/\(a==sysModules)=false ∧
  ∃xs,KT H kvs xs/\h.DictOfH (tupleKind (mixKind P w)) a xs:=by
 obtain⟨z,y,xs,r,o,es,ep,h1,h2,h3,h4,h5⟩:=(show ObjOk P w H h a (.dT kvs) from rd_of ok e)
 refine⟨z,y,xs,r,o,es,ep,h1,h2,h3,h4,fun x hx=>?_,h5⟩
 have all:∀{l:List (List Key×V)}{m:List (List Key×Addr×Value)},KT H l m->∀x∈m,(tupleKind (mixKind P w)).is h x.1 x.2.1:=by
  intro l m q
  induction q with
  | nil=>intro x hx;exact nomatch hx
  | @cons p q ps qs hq t ih =>
   intro x hx
   rcases List.mem_cons.mp hx with e|hx
   ·subst e
    exact key_of ok (by rw[← hq.1];exact hq.2.1)
   ·exact ih x hx
 exact all r x hx
theorem dt_of{kvs:List (List Key×V)}(ok:HOk P w H h)(e:H a=some (.dT kvs)):kvs.length<=sizeLine/\(a==sysModules)=false ∧
  ∃xs,KT H kvs xs/\h.DictOfH (tupleKind (mixKind P w)) a xs:=dt_rd ok (.inl e)
end
def DGet(H:Hp)(a:Addr)(y:V)(r:Option V):Prop :=
 (∃kvs k,Rd H a (.dK kvs)/\y=kV k/\r=valV kvs k)∨∃kvs k b,Rd H a (.dT kvs)/\y=.ref b/\H b=some (.tup (k.map kV))/\r=valV kvs k
def DPut(H:Hp)(a:Addr)(y v:V)(H':Hp):Prop :=
 (∃kvs k,H a=some (.dK kvs)/\y=kV k/\kvs.length < sizeLine/\H'=upd H a (.dK (putK kvs k v))) ∨
 ∃kvs k b,H a=some (.dT kvs)/\y=.ref b/\H b=some (.tup (k.map kV))/\kvs.length < sizeLine/\H'=upd H a (.dT (putK kvs k v))
theorem DGet.k{H:Hp}{a:Addr}{kvs:List (Key×V)}{k:Key}(e:H a=some (.dK kvs)):DGet H a (kV k) (valV kvs k):=.inl ⟨kvs,k,.inl e,rfl,rfl⟩
theorem DPut.k{H:Hp}{a:Addr}{kvs:List (Key×V)}{k:Key}{v:V}(e:H a=some (.dK kvs))(hl:kvs.length < sizeLine):DPut H a (kV k) v (upd H a (.dK (putK kvs k v))):=.inl ⟨kvs,k,e,rfl,hl,rfl⟩
section
variable {X:Cx} {pins:List (Addr×Obj)} {σ:St} {H:Hp} {s:Shared} {a:Addr} {y v:V} {u r:Value} {o:Option V} {A:Around} {E:Value->Shared->Prop}
theorem Inv.big(I:Inv X pins σ H s):sysModules < s.heap.objs.size:=by
 have h:mainGlobals < s.heap.objs.size:=(I.mod.glob.keeps I.bk).lt
 exact Nat.lt_trans (by decide) h
theorem d_getItem{Q:Value->Shared->Prop}(hu:A.units + 1 < cLine)(I:Inv X pins σ H s)(g:DGet H a y (some v))(ry:RelV y u)(h:∀w' s',Inv X pins σ H s'->RelV v w'->Q w' s') :
  wpAny (model X.prog X.w) A (getItem (.ref a) u) Q E s:=by
 rcases g with ⟨kvs,k,e,ey,l⟩|⟨kvs,k,b,e,ey,eb,l⟩
 ·subst ey
  obtain⟨z,hd,vs,rel,dd⟩:=dk_rd I.hok e
  obtain⟨w',hw,rw'⟩:=RelO.some_of (v:=v) (o:=valueAt vs k) (by rw[l];exact rel.val k)
  exact wpAny_getItem_of (kV_is ry) dd.mapOf hw (h w' _ (I.tok _) rw')
 ·subst ey
  cases (show u=Value.ref b from ry)
  obtain⟨z,hd,xs,rel,dd⟩:=dt_rd I.hok e
  obtain⟨w',hw,rw'⟩:=RelO.some_of (v:=v) (o:=(atKey xs k).map (·.2)) (by rw[l];exact rel.val k)
  obtain⟨p,hp,hp2⟩:=Option.map_eq_some_iff.mp hw
  refine wpAny_getItem_heap (tupleKind_room_in1 hu) (key_of I.hok eb) dd hp ?_
  rw[hp2]
  exact h w' _ (I.tok _) rw'
theorem d_write{h':Heap}{t':Nat}{ob:HO}(I:Inv X pins σ H s)(mu:Mut (H a))(hs:Heap.SameBut a s.heap h')(he:∃q,h'.get? a=some q)(new:ObjOk X.prog X.w (upd H a ob) h' a ob) :
  Inv X pins σ (upd H a ob) {s with heap:=h',toks:=t' } :=
 I.write (x:=a) (e:=a) mu (.inl rfl) (fun b q hb z=>(hs.2 b hb).trans z) he new
theorem dk_new{P:Program}{w:World}{H':Hp}{h':Heap}{kvs:List (Key×V)}{vs:List (Key×Value)}(z:kvs.length<=sizeLine)(hd:(a==sysModules)=false)(rel:KV kvs vs)(dd:h'.DictOf (mixKind P w) a vs) :
  ObjOk P w H' h' a (.dK kvs):=⟨z,hd,vs,rel,dd⟩
theorem d_setItem{H':Hp}{Q:Unit->Shared->Prop}(hu:A.units + 1 < cLine)(I:Inv X pins σ H s)(g:DPut H a y v H')(ry:RelV y u)(rv:RelV v r)(h:∀s',Inv X pins σ H' s'->Q () s') :
  wpAny (model X.prog X.w) A (setItem (.ref a) u r) Q E s:=by
 rcases g with ⟨kvs,k,e,ey,l,eH⟩|⟨kvs,k,b,e,ey,eb,l,eH⟩
 ·subst ey eH
  obtain⟨z,hd,vs,rel,dd⟩:=dk_of I.hok e
  have hz:vs.length<=sizeLine:=by rw[← rel.length];exact z
  have hl:(putK kvs k v).length<=sizeLine:=by have:=length_putK kvs k v;omega
  refine wpAny_setItem_pairs (hsz:=hz) (kV_is ry) dd fun h' dd' hs=>h _ ?_
  have he:∃q,h'.get? a=some q:=let ⟨q,_,_,hq,_⟩:=dd';⟨q,hq⟩
  exact d_write I (by rw[e];exact True.intro) hs he (dk_new hl hd (rel.put k rv) dd')
 ·subst ey eH
  cases (show u=Value.ref b from ry)
  obtain⟨z,hd,xs,rel,dd⟩:=dt_of I.hok e
  have hz:xs.length<=sizeLine:=by rw[← Paired.length rel];exact z
  have hl:(putK kvs k v).length<=sizeLine:=by have:=length_putK kvs k v;omega
  refine wpAny_setItem_heap (hsz:=hz) (tupleKind_room_in1 hu) (key_of I.hok eb) dd fun h' dd' hs=>h _ ?_
  obtain⟨q,es,ep,hq,h2,h3,h4,_,h5⟩:=dd'
  refine d_write I (by rw[e];exact True.intro) hs ⟨q,hq⟩ ⟨hl,hd,_,(rel.put k eb rv).keeps fun c ys ec=>?_,q,es,ep,hq,h2,h3,h4,h5⟩
  rw[upd_ne (ne_of ec e (fun z=>nomatch z))]
  exact ec
end
section
variable {X:Cx} {pins:List (Addr×Obj)} {σ:St} {H:Hp} {s:Shared} {a:Addr} {kvs:List (Key×V)} {k:Key} {u:Value} {A:Around} {E:Value->Shared->Prop}
end
def NoSl(i:Expr):Prop:=∀ov iv,subscripted i false ov iv=operate [ov,iv] (getItem ov iv)
theorem subD_of{prog:Program}{w:World}{A:Around}{E:Value->Shared->Prop}{s:Shared}{env:Env}{value slice:Expr}{pos:Pos}{T id:String}{Q:Value->Shared->Prop}
  (hl:typeLookup (.type T) "__getitem__" = pure (some (.builtin id))) (hs:NoSl slice)
  (h:wpAny (model prog w) A (eval value env) (fun o s₁=>wpAny (model prog w) A (eval slice env) (fun i s₂=>s₂.TypeIs o T/\wpAny (model prog w) A (getItem o i) Q E s₂) E s₁) E s) :
  wpAny (model prog w) A (eval (.Subscript value slice pos) env) Q E s:=by
 refine Subscript_ (wpAny_mono h (fun o s₁ h₁=>wpAny_mono h₁ (fun i s₂ h₂=>?_) fun _ _ x=>x) fun _ _ x=>x)
 obtain⟨hT,h₂⟩:=h₂
 unfold subscriptTail
 refine wpAny_bind ?_
 rw[getitemInPython_of_ne hT.not_modules]
 refine wpAny_bind (wpAny_specialOf hT hl ?_)
 have fin:wpAny (model prog w) A (subscripted slice false o i) (fun r s₃=>wpAny (model prog w) A (letTemporaryGo value o r >>= fun _=>pure r) Q E s₃) E s₂:=by
  rw[hs o i]
  exact wpAny_operating (wpAny_mono h₂ (fun r s₃ h₃=>wpAny_bind (wpAny_letTemporaryGo (wpAny_pure h₃))) fun _ _ x=>x)
 first
  | exact wpAny_pure (wpAny_bind fin)
  | exact wpAny_bind (wpAny_pure (wpAny_bind fin))
  | exact wpAny_bind fin
theorem dict_typeIs{X:Cx}{pins:List (Addr×Obj)}{σ:St}{H:Hp}{s:Shared}{a:Addr}{y:V}{o:Option V}(I:Inv X pins σ H s)(g:DGet H a y o):s.TypeIs (.ref a) "dict" := by
 rcases g with ⟨kvs,k,e,_,_⟩|⟨kvs,k,b,e,_,_,_⟩
 ·obtain⟨_,_,vs,_,dd⟩:=dk_rd I.hok e
  exact dd.typeIs
 ·obtain⟨_,_,xs,_,dd⟩:=dt_rd I.hok e
  exact dd.typeIs
def tDGet(td ty:TE):TE:=fun σ H Q=>td σ H fun x H1=>ty σ H1 fun y H2=>∃a v,x=.ref a/\DGet H2 a y (some v)/\Q v H2
def sDPut(td ty tv:TE):TS:=fun D σ H=>tv σ H fun v H1=>td σ H1 fun x H2=>ty σ H2 fun y H3=>∃a H4,x=.ref a/\DPut H3 a y v H4/\D.nx σ H4
section
variable {X:Cx} {o i e value:Expr} {pos pos' tpos:Pos} {td ty tv:TE}
theorem pe_dget(hu:X.A.units + 1 < cLine)(ho:PE X o td)(hi:PE X i ty)(hs:NoSl i):PE X (.Subscript o i pos) (tDGet td ty):=by
 intro pins s σ H Q I h
 refine subD_of PySem.F.slot_dict_getitem.lookup hs (thn (ho pins s σ H _ I h) fun u s1 ⟨x,H1,I1,rx,q1⟩=>thn (hi pins s1 σ H1 _ I1 q1) fun iv s2 ⟨y,H2,I2,ry,a,v,ex,g,q2⟩=>?_)
 subst ex
 obtain rfl:u=Value.ref a:=rx
 exact⟨dict_typeIs I2 g,d_getItem hu I2 g ry fun w' s3 I3 rw'=>⟨v,H2,I3,rw',q2⟩⟩
theorem ps_dput(hu:X.A.units + 1 < cLine)(ho:PE X o td)(hi:PE X i ty)(hv:PE X value tv)(hs:swapsWith value (some (.Subscript o i pos')) pos.line X.env=pure false) :
  PS X (.Assign [.Subscript o i pos'] value pos) (sDPut td ty tv):=by
 intro pins s σ H D I h
 refine wpAny_Assign_Subscript (thn (hv pins s σ H _ I h) fun r s1 ⟨v,H1,I1,rv,q1⟩=>thn (ho pins s1 σ H1 _ I1 q1) fun u s2 ⟨x,H2,I2,rx,q2⟩=>thn (hi pins s2 σ H2 _ I2 q2) fun iv s3 ⟨y,H3,I3,ry,a,H4,ex,g,q3⟩=>?_) hs
 subst ex
 obtain rfl:u=Value.ref a:=rx
 exact d_setItem hu I3 g ry rv fun s4 I4=>⟨σ,H4,I4,q3⟩
end
theorem dk_empty{P:Program}{w:World}{H:Hp}(h:Heap)(hb:sysModules < h.objs.size):ObjOk P w H (h.push {cls:=.type "dict", data:=.dict #[]}) h.objs.size (.dK []) :=
 ⟨Nat.zero_le _,beq_eq_false_iff_ne.mpr (Ne.symm (Nat.ne_of_lt hb)),[],.nil,Heap.DictOf.new h⟩
def tDNewK:TE:=fun _ H Q=>∀p,H p=none->Q (.ref p) (upd H p (.dK []))
section
variable {X:Cx} {pos:Pos}
theorem pe_dnewK:PE X (.Dict [] [] pos) tDNewK:=fun pins s σ H Q I h =>
 wpAny_Dict_empty ⟨.ref s.heap.objs.size,_,I.laid (a:=s.heap.objs.size) (o:=.dK []) (t':=s.toks) (fun _ _ q=>Heap.get?_push_of_some _ q) (Nat.le_refl _) (dk_empty s.heap I.big),rfl,h _ (I.hok.fresh (Nat.le_refl _))⟩
end
structure M1(X:Cx)(o:Expr)(m:Str)(apos:Pos)(e:Expr)(cpos:Pos):Prop where
 base:attributeBase o m X.env (eval o X.env)=eval o X.env
 few:((backTo cpos (starEach [e] X.env)).all (fun x=>!x.1)&&(backToKw cpos (keywordEach [] X.env)).all (fun x=>x.1.isSome)
  && decide (([e]:List Expr).length + ([]:List Keyword).length + (if ([]:List Keyword).isEmpty then 0 else 1) < 30))=true
 line:(apos.endLine==cpos.line)=true
 trees:backTo cpos (starEach [e] X.env)=[(false,eval e X.env)]
structure M2(X:Cx)(o:Expr)(m:Str)(apos:Pos)(e f:Expr)(cpos:Pos):Prop where
 base:attributeBase o m X.env (eval o X.env)=eval o X.env
 few:((backTo cpos (starEach [e,f] X.env)).all (fun x=>!x.1)&&(backToKw cpos (keywordEach [] X.env)).all (fun x=>x.1.isSome)
  && decide (([e,f]:List Expr).length + ([]:List Keyword).length + (if ([]:List Keyword).isEmpty then 0 else 1) < 30))=true
 line:(apos.endLine==cpos.line)=true
 trees:backTo cpos (starEach [e,f] X.env)=[(false,eval e X.env),(false,eval f X.env)]
section
variable {X:Cx} {pins:List (Addr×Obj)} {σ:St} {H:Hp} {s:Shared} {a:Addr} {y d:V} {u r:Value} {o:Option V} {A:Around} {E:Value->Shared->Prop}
end
section
variable {X:Cx} {o e f:Expr} {apos cpos:Pos} {td ty tx:TE}
end
section
variable {X:Cx} {pins:List (Addr×Obj)} {σ:St} {H:Hp} {s:Shared} {a:Addr} {kvs:List (Key×V)} {A:Around} {E:Value->Shared->Prop}
end
section
variable {X:Cx} {pins:List (Addr×Obj)} {σ:St} {H:Hp} {s:Shared} {a:Addr} {y:V} {u:Value} {A:Around} {E:Value->Shared->Prop}
end
end L2
namespace L2
open PySem PySem.Spec PyProof.Rows
section
variable {κ:Type} [DecidableEq κ]
theorem valV_in{kvs:List (κ×V)}{k:κ}{v:V}(h:valV kvs k=some v):k∈kvs.map (·.1):=by
 have q:(kvs.any fun kv=>decide (kv.1=k))=true:=by
  rw[valV_any,h]
  all_goals rfl
 obtain⟨p,hp,e⟩:=List.any_eq_true.mp q
 exact List.mem_map.mpr ⟨p,hp,of_decide_eq_true e⟩
end
end L2
end
section
namespace TL
open PySem PySem.Spec PyProof.Rows L2
abbrev St:=L2.St
def nst:Expr->Bool
 | .Starred _ _=>false
 | _=>true
theorem star1{e:Expr}{es:List Expr}{env:Env}(h:nst e=true):starEach (e::es) env=(false,eval e env)::starEach es env:=by
 cases e<;>first|rfl|cases h
theorem stars{env:Env}{pos:Pos}:∀{es:List Expr},es.all nst=true->(backTo pos (starEach es env)).any (·.1)=false
 | [],_=>rfl
 | e::es,h=>by
  rw[List.all_cons,Bool.and_eq_true]at h
  rw[star1 h.1]
  show (false||(backTo pos (starEach es env)).any (·.1))=false
  rw[stars h.2]
  rfl
inductive T where
 | non|bl (b:Bool)|int (i:Int)|str (x:Str)|tup (ts:List T)|lst (ts:List T)|dct|exc (c:Str)|exf (c f:Str) (t:T)|dic (ks:List Int) (ts:List T)
abbrev kn(o:Obj):HO:=.frz o (.ext fun _=>True)
abbrev noDict:Obj:={cls:=.type "dict", data:=.dict #[] 0}
structure ExcAt(K:PySem.W.Frag)(H:Hp)(c:Str)(p:Addr):Prop where
 ex:∃(o:Obj) (C:Addr) (ws:Array Value),H p=some (kn o)/\o.cls=.ref C/\o.data=.fields ws/\PySem.W.nsIn K mainGlobals c=some (some (.ref C))
structure ExfAt(K:PySem.W.Frag)(H:Hp)(c f:Str)(p d:Addr)(od:Obj)(u:Value):Prop where
 ex:∃(o:Obj) (C:Addr) (ws:Array Value),H p=some (kn o)/\o.cls=.ref C/\o.data=.fields ws/\o.dict=some d/\PySem.W.nsIn K mainGlobals c=some (some (.ref C))
 dict:H d=some (kn od)
 look:PySem.W.lookIn f od=some (some u)
def SqF(K:PySem.W.Frag)(H:Hp)(a:Addr)(xs:List V):Prop :=
 (∃o,H a=some (.frz o (.lst xs))) ∨
  ∃(o:Obj) (its:Array Value) (n:Nat),K.lookup a=some o/\o.cls=.type "list" /\ o.dict=none/\o.data=.seq its n/\its.size<=sizeLine/\Vals xs its.toList
abbrev IntP:=Int×V
def toK(q:IntP):Key×V:=(.inl q.1,q.2)
mutual
def Rep(K:PySem.W.Frag)(H:Hp):T->V->Prop
 | .non,v=>v=.non
 | .bl b,v=>v=.bl b
 | .int i,v=>v=.int i
 | .str x,v=>v=.str x
 | .tup ts,v=>∃p vs,v=.ref p/\SqT K H p vs/\Reps K H ts vs
 | .lst ts,v=>∃p vs,v=.ref p/\SqF K H p vs/\Reps K H ts vs
 | .dct,v=>∃p,v=.ref p/\H p=some (kn noDict)
 | .exc c,v=>∃p,v=.ref p/\ExcAt K H c p
 | .exf c f t,v=>∃p,v=.ref p/\∃d od u y,ExfAt K H c f p d od u/\RelV y u/\Rep K H t y
 | .dic ks ts,v=>∃(p:Addr) (o:Obj) (kvs:List (Int×V)),v=.ref p/\H p=some (.frz o (.dK (kvs.map toK)))/\kvs.map (·.1)=ks/\Reps K H ts (kvs.map (·.2))
def Reps(K:PySem.W.Frag)(H:Hp):List T->List V->Prop
 | [],vs=>vs=[]
 | t::ts,vs=>∃v r,vs=v::r/\Rep K H t v/\Reps K H ts r
end
structure Kp(H H':Hp):Prop where
 tup:∀b xs,H b=some (.tup xs)->H' b=some (.tup xs)
 frz:∀b o u,H b=some (.frz o u)->H' b=some (.frz o u)
theorem Kp.refl(H:Hp):Kp H H:=⟨fun _ _ h=>h,fun _ _ _ h=>h⟩
theorem Kp.trans{H H1 H2:Hp}(a:Kp H H1)(b:Kp H1 H2):Kp H H2:=⟨fun c xs h=>b.tup c xs (a.tup c xs h),fun c o u h=>b.frz c o u (a.frz c o u h)⟩
theorem Kp.of{H H':Hp}(s:Same H H'):Kp H H':=⟨fun b _ h=>s b _ h,fun b _ _ h=>s b _ h⟩
theorem same_new{H:Hp}{p:Addr}(h:H p=none)(o:HO):Same H (upd H p o):=fun b u q=>by rw[upd_ne (ne_of_none q h)];exact q
theorem Kp.write{H:Hp}{p:Addr}{xs:List V}(h:H p=some (.lst xs))(o:HO):Kp H (upd H p o) :=
 ⟨fun b ys q=>by rw[upd_ne (by rintro rfl;rw[h]at q;cases q)];exact q,fun b ob u q=>by rw[upd_ne (by rintro rfl;rw[h]at q;cases q)];exact q⟩
section
variable {K:PySem.W.Frag} {H H':Hp}
theorem SqF.sq{a:Addr}{xs:List V}(h:SqF K H a xs):SqL K H a xs:=h.elim (fun ⟨o,e⟩=>.inl (.inr ⟨o,e⟩)) .inr
theorem sqF_kp{a:Addr}{xs:List V}(k:Kp H H')(h:SqF K H a xs):SqF K H' a xs:=h.elim (fun ⟨o,e⟩=>.inl ⟨o,k.frz _ _ _ e⟩) .inr
theorem sqT_kp{a:Addr}{xs:List V}(k:Kp H H')(h:SqT K H a xs):SqT K H' a xs:=by
 rcases h with (h|⟨o,h⟩)|h
 ·exact .inl (.inl (k.tup _ _ h))
 ·exact .inl (.inr ⟨o,k.frz _ _ _ h⟩)
 ·exact .inr h
theorem rep_tup{ts:List T}{v:V}:Rep K H (.tup ts) v ↔ ∃p vs,v=.ref p/\SqT K H p vs/\Reps K H ts vs:=by rw[Rep]
theorem rep_lst{ts:List T}{v:V}:Rep K H (.lst ts) v ↔ ∃p vs,v=.ref p/\SqF K H p vs/\Reps K H ts vs:=by rw[Rep]
theorem rep_int{i:Int}{v:V}:Rep K H (.int i) v ↔ v=.int i:=by rw[Rep]
theorem rep_bl{i:Bool}{v:V}:Rep K H (.bl i) v ↔ v=.bl i:=by rw[Rep]
theorem rep_str{i:Str}{v:V}:Rep K H (.str i) v ↔ v=.str i:=by rw[Rep]
theorem rep_non{v:V}:Rep K H .non v ↔ v=.non:=by rw[Rep]
theorem rep_dct{v:V}:Rep K H .dct v ↔ ∃p,v=.ref p/\H p=some (kn noDict):=by rw[Rep]
theorem rep_exc{c:Str}{v:V}:Rep K H (.exc c) v ↔ ∃p,v=.ref p/\ExcAt K H c p:=by rw[Rep]
theorem rep_exf{c f:Str}{t:T}{v:V}:Rep K H (.exf c f t) v ↔ ∃p,v=.ref p/\∃d od u y,ExfAt K H c f p d od u/\RelV y u/\Rep K H t y:=by rw[Rep]
theorem rep_dic{ks:List Int}{ts:List T}{v:V}:Rep K H (.dic ks ts) v ↔ ∃(p:Addr) (o:Obj) (kvs:List (Int×V)),v=.ref p/\H p=some (.frz o (.dK (kvs.map toK)))/\kvs.map (·.1)=ks/\Reps K H ts (kvs.map (·.2)):=by rw[Rep]
theorem ExfAt.kp{c f:Str}{p d:Addr}{od:Obj}{u:Value}(k:Kp H H')(h:ExfAt K H c f p d od u):ExfAt K H' c f p d od u:=let ⟨o,C,ws,e,r⟩:=h.ex;⟨⟨o,C,ws,k.frz _ _ _ e,r⟩,k.frz _ _ _ h.dict,h.look⟩
theorem ExcAt.kp{c:Str}{p:Addr}(k:Kp H H')(h:ExcAt K H c p):ExcAt K H' c p:=let ⟨o,C,ws,e,r⟩:=h.ex;⟨o,C,ws,k.frz _ _ _ e,r⟩
theorem reps_nil{vs:List V}:Reps K H [] vs ↔ vs=[]:=by rw[Reps]
theorem reps_cons{t:T}{ts:List T}{vs:List V}:Reps K H (t::ts) vs ↔ ∃v r,vs=v::r/\Rep K H t v/\Reps K H ts r:=by rw[Reps]
mutual
theorem Rep.kp(k:Kp H H'):∀{t:T}{v:V},Rep K H t v->Rep K H' t v
 | .non,v,h=>by rw[rep_non]at h ⊢;exact h
 | .bl b,v,h=>by rw[rep_bl]at h ⊢;exact h
 | .int i,v,h=>by rw[rep_int]at h ⊢;exact h
 | .str x,v,h=>by rw[rep_str]at h ⊢;exact h
 | .tup ts,v,h=>by
  rw[rep_tup]at h ⊢
  obtain⟨p,vs,e,s,r⟩:=h
  exact⟨p,vs,e,sqT_kp k s,Reps.kp k r⟩
 | .lst ts,v,h=>by
  rw[rep_lst]at h ⊢
  obtain⟨p,vs,e,s,r⟩:=h
  exact⟨p,vs,e,sqF_kp k s,Reps.kp k r⟩
 | .dct,v,h=>by
  rw[rep_dct]at h ⊢
  obtain⟨p,e,q⟩:=h
  exact⟨p,e,k.frz _ _ _ q⟩
 | .exc c,v,h=>by
  rw[rep_exc]at h ⊢
  obtain⟨p,e,q⟩:=h
  exact⟨p,e,q.kp k⟩
 | .exf c f t,v,h=>by
  rw[rep_exf]at h ⊢
  obtain⟨p,e,d,od,u,y,q,r,a⟩:=h
  exact⟨p,e,d,od,u,y,q.kp k,r,Rep.kp k a⟩
 | .dic ks ts,v,h=>by
  rw[rep_dic]at h ⊢
  obtain⟨p,o,kvs,e,q,ek,r⟩:=h
  exact⟨p,o,kvs,e,k.frz _ _ _ q,ek,Reps.kp k r⟩
theorem Reps.kp(k:Kp H H'):∀{ts:List T}{vs:List V},Reps K H ts vs->Reps K H' ts vs
 | [],vs,h=>by rw[reps_nil]at h ⊢;exact h
 | t::ts,vs,h=>by
  rw[reps_cons]at h ⊢
  obtain⟨v,r,e,a,b⟩:=h
  exact⟨v,r,e,Rep.kp k a,Reps.kp k b⟩
end
theorem Reps.length:∀{ts:List T}{vs:List V},Reps K H ts vs->vs.length=ts.length
 | [],vs,h=>by rw[reps_nil]at h;subst h;rfl
 | t::ts,vs,h=>by
  rw[reps_cons]at h
  obtain⟨v,r,e,a,b⟩:=h
  subst e
  simp[Reps.length b]
theorem Reps.get:∀{ts:List T}{vs:List V}{i:Nat}{t:T},Reps K H ts vs->ts[i]?=some t->∃v,vs[i]?=some v/\Rep K H t v
 | [],vs,i,t,h,e=>by simp at e
 | t::ts,vs,0,t',h,e=>by
  rw[reps_cons]at h
  obtain⟨v,r,rfl,a,b⟩:=h
  simp at e
  subst e
  exact⟨v,rfl,a⟩
 | t::ts,vs,i + 1,t',h,e=>by
  rw[reps_cons]at h
  obtain⟨v,r,rfl,a,b⟩:=h
  obtain⟨u,h1,h2⟩:=Reps.get (i:=i) b (by simpa using e)
  exact⟨u,by simpa using h1,h2⟩
theorem Reps.append:∀{ts us:List T}{vs ws:List V},Reps K H ts vs->Reps K H us ws->Reps K H (ts++us) (vs++ws)
 | [],us,vs,ws,h,q=>by rw[reps_nil]at h;subst h;exact q
 | t::ts,us,vs,ws,h,q=>by
  rw[reps_cons]at h
  obtain⟨v,r,rfl,a,b⟩:=h
  show Reps K H (t::(ts++us)) (v::(r++ws))
  rw[reps_cons]
  exact⟨v,_,rfl,a,Reps.append b q⟩
theorem Reps.one{t:T}{v:V}(h:Rep K H t v):Reps K H [t] [v]:=by
 rw[reps_cons]
 exact⟨v,[],rfl,h,reps_nil.mpr rfl⟩
theorem Reps.cons{t:T}{v:V}{ts:List T}{vs:List V}(h:Rep K H t v)(r:Reps K H ts vs):Reps K H (t::ts) (v::vs):=by
 rw[reps_cons]
 exact⟨v,vs,rfl,h,r⟩
theorem Reps.take:∀{ts:List T}{vs:List V}(n:Nat),Reps K H ts vs->Reps K H (ts.take n) (vs.take n)
 | [],vs,n,h=>by rw[reps_nil]at h;subst h;simp[reps_nil]
 | t::ts,vs,0,h=>by simp[reps_nil]
 | t::ts,vs,n + 1,h=>by
  rw[reps_cons]at h
  obtain⟨v,r,rfl,a,b⟩:=h
  exact Reps.cons a (Reps.take n b)
theorem Reps.drop:∀{ts:List T}{vs:List V}(n:Nat),Reps K H ts vs->Reps K H (ts.drop n) (vs.drop n)
 | ts,vs,0,h=>by simpa using h
 | [],vs,n + 1,h=>by rw[reps_nil]at h;subst h;simp[reps_nil]
 | t::ts,vs,n + 1,h=>by
  rw[reps_cons]at h
  obtain⟨v,r,rfl,a,b⟩:=h
  exact Reps.drop n b
theorem reps_ints(ns:List Int):Reps K H (ns.map T.int) (ns.map V.int):=by
 induction ns with
 | nil=>exact reps_nil.mpr rfl
 | cons n r ih=>exact Reps.cons (rep_int.mpr rfl) ih
end
inductive Slot where
 | no|val (t:T)|own (ts:List T)|see (ts:List T)|dic (ps:List (Int×T))|vat (t:T) (v:V)
def sget:List Slot->Nat->Slot
 | [],_=>.no
 | s::_,0=>s
 | _::r,n + 1=>sget r n
def sput:List Slot->Nat->Slot->List Slot
 | [],_,_=>[]
 | _::r,0,x=>x::r
 | s::r,n + 1,x=>s::sput r n x
theorem length_sput:∀(τ:List Slot)(i:Nat)(x:Slot),(sput τ i x).length=τ.length
 | [],_,_=>rfl
 | _::_,0,_=>rfl
 | _::r,n + 1,x=>by simp[sput,length_sput r n x]
theorem sget_same:∀{τ:List Slot}{i:Nat}{x:Slot},i < τ.length->sget (sput τ i x) i=x
 | [],_,_,h=>by simp at h
 | _::_,0,_,_=>rfl
 | _::r,n + 1,x,h=>by simp only[sput,sget];exact sget_same (by simpa using h)
theorem sget_ne:∀{τ:List Slot}{i j:Nat}{x:Slot},i≠j->sget (sput τ i x) j=sget τ j
 | [],_,_,_,_=>rfl
 | _::_,0,0,_,h=>absurd rfl h
 | _::_,0,_ + 1,_,_=>rfl
 | _::_,_ + 1,0,_,_=>rfl
 | _::r,i + 1,j + 1,x,h=>by simp only[sput,sget];exact sget_ne (by omega)
theorem sget_big:∀{τ:List Slot}{i:Nat},τ.length<=i->sget τ i=.no
 | [],_,_=>rfl
 | _::r,0,h=>by simp at h
 | _::r,i + 1,h=>by simp only[sget];exact sget_big (by simpa using h)
def SlotOk(K:PySem.W.Frag)(H0 H:Hp):Slot->Option (Option V)->Prop
 | .no,_=>True
 | .val t,sv=>∃v,sv=some (some v)/\Rep K H t v
 | .own ts,sv=>∃p vs,sv=some (some (.ref p))/\H p=some (.lst vs)/\Reps K H ts vs/\H0 p=none
 | .see ts,sv=>∃p vs,sv=some (some (.ref p))/\H p=some (.lst vs)/\Reps K H ts vs/\H0 p≠none
 | .dic ps,sv=>∃(p:Addr) (o:Obj) (kvs:List (Int×V)),sv=some (some (.ref p))/\H p=some (.frz o (.dK (kvs.map toK)))/\kvs.map (·.1)=ps.map (·.1)/\Reps K H (ps.map (·.2)) (kvs.map (·.2))
 | .vat t v,sv=>sv=some (some v)/\Rep K H t v
structure RepSt(K:PySem.W.Frag)(H0 H:Hp)(σ:St)(τ:List Slot):Prop where
 same:Same H0 H
 len:τ.length=σ.length
 slot:∀i,SlotOk K H0 H (sget τ i) (σ[i]?)
 apart:∀i j ts us p,i≠j->sget τ i=.own ts->sget τ j=.own us->σ[i]?=some (some (.ref p))->σ[j]?=some (some (.ref p))->False
section
variable {K:PySem.W.Frag} {H0 H H':Hp} {σ:St} {τ:List Slot}
theorem SlotOk.mono{s:Slot}{sv:Option (Option V)}(k:Same H H')(h:SlotOk K H0 H s sv):SlotOk K H0 H' s sv:=by
 cases s with
 | no=>trivial
 | val t=>obtain⟨v,e,r⟩:=h;exact⟨v,e,r.kp (.of k)⟩
 | own ts=>obtain⟨p,vs,e,h1,r,n⟩:=h;exact⟨p,vs,e,k _ _ h1,r.kp (.of k),n⟩
 | see ts=>obtain⟨p,vs,e,h1,r,n⟩:=h;exact⟨p,vs,e,k _ _ h1,r.kp (.of k),n⟩
 | dic ps=>obtain⟨p,o,kvs,e,h1,ek,r⟩:=h;exact⟨p,o,kvs,e,k _ _ h1,ek,r.kp (.of k)⟩
 | vat t v=>exact⟨h.1,h.2.kp (.of k)⟩
theorem RepSt.mono(R:RepSt K H0 H σ τ)(k:Same H H'):RepSt K H0 H' σ τ :=
 ⟨R.same.trans k,R.len,fun i=>(R.slot i).mono k,R.apart⟩
theorem RepSt.put{i:Nat}{t:T}{v:V}(R:RepSt K H0 H σ τ)(r:Rep K H t v):RepSt K H0 H (σ.set i (some v)) (sput τ i (.val t)):=by
 refine⟨R.same,by rw[length_sput,List.length_set];exact R.len,fun j=>?_,fun a b ts us p hab ha hb ea eb=>?_⟩
 ·by_cases hij:i=j
  ·subst hij
   by_cases hi:i < τ.length
   ·rw[sget_same hi]
    exact⟨v,List.getElem?_set_self (by rw[← R.len];exact hi),r⟩
   ·rw[sget_big (by rw[length_sput];omega)]
    trivial
  ·rw[sget_ne hij,List.getElem?_set_ne hij]
   exact R.slot j
 ·have na:i≠a:=by
   rintro rfl
   by_cases hi:i < τ.length
   ·rw[sget_same hi]at ha;cases ha
   ·rw[sget_big (by rw[length_sput];omega)]at ha;cases ha
  have nb:i≠b:=by
   rintro rfl
   by_cases hi:i < τ.length
   ·rw[sget_same hi]at hb;cases hb
   ·rw[sget_big (by rw[length_sput];omega)]at hb;cases hb
  rw[sget_ne na]at ha
  rw[sget_ne nb]at hb
  rw[List.getElem?_set_ne na]at ea
  rw[List.getElem?_set_ne nb]at eb
  exact R.apart a b ts us p hab ha hb ea eb
theorem RepSt.putOwn{i:Nat}{ts:List T}{vs:List V}{p:Addr}(R:RepSt K H0 H σ τ)(hp:H p=none)(r:Reps K H ts vs):RepSt K H0 (upd H p (.lst vs)) (σ.set i (some (.ref p))) (sput τ i (.own ts)):=by
 have S:=same_new hp (.lst vs)
 refine⟨R.same.trans S,by rw[length_sput,List.length_set];exact R.len,fun j=>?_,fun a b ts' us q hab ha hb ea eb=>?_⟩
 ·by_cases hij:i=j
  ·subst hij
   by_cases hi:i < τ.length
   ·rw[sget_same hi]
    exact⟨p,vs,List.getElem?_set_self (by rw[← R.len];exact hi),upd_same,r.kp (.of S),R.same.free hp⟩
   ·rw[sget_big (by rw[length_sput];omega)]
    trivial
  ·rw[sget_ne hij,List.getElem?_set_ne hij]
   exact(R.slot j).mono S
 ·-- an elder own list stands at a tracked place,the new one did not
  have old:∀c ts,i≠c->sget (sput τ i (.own ts')) c=.own ts->σ[c]?≠some (some (.ref p)):=fun c ts hc hcs e=>by
   rw[sget_ne hc]at hcs
   have:=R.slot c
   rw[hcs]at this
   obtain⟨p',vs',e',h1,_⟩:=this
   rw[e]at e'
   cases e'
   rw[hp]at h1
   cases h1
  have isI:∀c,i=c->∀us,sget (sput τ i (.own ts)) c=.own us->(σ.set i (some (.ref p)))[c]?=some (some (.ref p)):=fun c hc us hcs=>by
   subst hc
   by_cases hi:i < τ.length
   ·exact List.getElem?_set_self (by rw[← R.len];exact hi)
   ·rw[sget_big (by rw[length_sput];omega)]at hcs;cases hcs
  by_cases ia:i=a
  ·have z:=isI a ia _ ha
   rw[z]at ea
   cases ea
   have ib:i≠b:=fun e=>hab (ia.symm.trans e)
   rw[List.getElem?_set_ne ib]at eb
   refine old b us ib ?_ eb
   rw[sget_ne ib]at hb ⊢
   exact hb
  ·rw[List.getElem?_set_ne ia]at ea
   by_cases ib:i=b
   ·have z:=isI b ib _ hb
    rw[z]at eb
    cases eb
    refine old a ts' ia ?_ ea
    rw[sget_ne ia]at ha ⊢
    exact ha
   ·rw[List.getElem?_set_ne ib]at eb
    rw[sget_ne ia]at ha
    rw[sget_ne ib]at hb
    exact R.apart a b ts' us q hab ha hb ea eb
theorem RepSt.write{i:Nat}{ts ts2:List T}{vs2:List V}{p:Addr}{xs:List V}(R:RepSt K H0 H σ τ)(hs:sget τ i=.own ts)(hσ:σ[i]?=some (some (.ref p)))(hp:H p=some (.lst xs))(r:Reps K H ts2 vs2) :
  RepSt K H0 (upd H p (.lst vs2)) σ (sput τ i (.own ts2)):=by
 have k:=Kp.write hp (.lst vs2)
 have n0:H0 p=none:=by
  have:=R.slot i
  rw[hs]at this
  obtain⟨p',vs',e',_,_,n⟩:=this
  rw[hσ]at e'
  cases e'
  exact n
 have hi:i < τ.length:=by
  by_cases hi:i < τ.length
  ·exact hi
  ·rw[sget_big (by omega)]at hs;cases hs
 refine⟨fun b o h=>?_,by rw[length_sput];exact R.len,fun j=>?_,fun a b ts' us q hab ha hb ea eb=>?_⟩
 ·have:=R.same b o h
  rw[upd_ne (by rintro rfl;rw[n0]at h;cases h)]
  exact this
 ·by_cases hij:i=j
  ·subst hij
   rw[sget_same hi]
   exact⟨p,vs2,hσ,upd_same,r.kp k,n0⟩
  ·rw[sget_ne hij]
   have sl:=R.slot j
   cases e:sget τ j with
   | no=>trivial
   | val t=>rw[e]at sl;obtain⟨v,e1,r1⟩:=sl;exact⟨v,e1,r1.kp k⟩
   | dic ps=>rw[e]at sl;obtain⟨q,o,kvs,e1,h1,ek,r1⟩:=sl;exact⟨q,o,kvs,e1,k.frz _ _ _ h1,ek,r1.kp k⟩
   | vat t v=>rw[e]at sl;exact⟨sl.1,sl.2.kp k⟩
   | own us =>
    rw[e]at sl
    obtain⟨q,ws,e1,h1,r1,n1⟩:=sl
    have nq:q≠p:=by rintro rfl;exact R.apart i j ts us q hij hs e hσ e1
    exact⟨q,ws,e1,by rw[upd_ne nq];exact h1,r1.kp k,n1⟩
   | see us =>
    rw[e]at sl
    obtain⟨q,ws,e1,h1,r1,n1⟩:=sl
    have nq:q≠p:=by rintro rfl;exact n1 n0
    exact⟨q,ws,e1,by rw[upd_ne nq];exact h1,r1.kp k,n1⟩
 ·have old:∀c us,sget (sput τ i (.own ts2)) c=.own us->∃us',sget τ c=.own us':=fun c us h=>by
   by_cases hc:i=c
   ·subst hc;exact⟨ts,hs⟩
   ·rw[sget_ne hc]at h;exact⟨us,h⟩
  obtain⟨u1,h1⟩:=old a _ ha
  obtain⟨u2,h2⟩:=old b _ hb
  exact R.apart a b u1 u2 q hab h1 h2 ea eb
theorem RepSt.freeze{i:Nat}{ts:List T}{vs:List V}{p:Addr}{o:Obj}(R:RepSt K H0 H σ τ)(hs:sget τ i=.own ts)(hσ:σ[i]?=some (some (.ref p)))(hp:H p=some (.lst vs))(r:Reps K H ts vs) :
  RepSt K H0 (upd H p (.frz o (.lst vs))) σ (sput τ i (.val (.lst ts))):=by
 have k:=Kp.write hp (.frz o (.lst vs))
 have n0:H0 p=none:=by
  have:=R.slot i
  rw[hs]at this
  obtain⟨p',vs',e',_,_,n⟩:=this
  rw[hσ]at e'
  cases e'
  exact n
 have hi:i < τ.length:=by
  by_cases hi:i < τ.length
  ·exact hi
  ·rw[sget_big (by omega)]at hs;cases hs
 refine⟨fun b o' h=>?_,by rw[length_sput];exact R.len,fun j=>?_,fun a b ts' us q hab ha hb ea eb=>?_⟩
 ·have:=R.same b o' h
  rw[upd_ne (by rintro rfl;rw[n0]at h;cases h)]
  exact this
 ·by_cases hij:i=j
  ·subst hij
   rw[sget_same hi]
   exact⟨.ref p,hσ,rep_lst.mpr ⟨p,vs,rfl,.inl ⟨o,upd_same⟩,r.kp k⟩⟩
  ·rw[sget_ne hij]
   have sl:=R.slot j
   cases e:sget τ j with
   | no=>trivial
   | val t=>rw[e]at sl;obtain⟨v,e1,r1⟩:=sl;exact⟨v,e1,r1.kp k⟩
   | dic ps=>rw[e]at sl;obtain⟨q,o,kvs,e1,h1,ek,r1⟩:=sl;exact⟨q,o,kvs,e1,k.frz _ _ _ h1,ek,r1.kp k⟩
   | vat t v=>rw[e]at sl;exact⟨sl.1,sl.2.kp k⟩
   | own us =>
    rw[e]at sl
    obtain⟨q,ws,e1,h1,r1,n1⟩:=sl
    have nq:q≠p:=by rintro rfl;exact R.apart i j ts us q hij hs e hσ e1
    exact⟨q,ws,e1,by rw[upd_ne nq];exact h1,r1.kp k,n1⟩
   | see us =>
    rw[e]at sl
    obtain⟨q,ws,e1,h1,r1,n1⟩:=sl
    have nq:q≠p:=by rintro rfl;exact n1 n0
    exact⟨q,ws,e1,by rw[upd_ne nq];exact h1,r1.kp k,n1⟩
 ·have na:i≠a:=by
   rintro rfl
   rw[sget_same hi]at ha
   cases ha
  have nb:i≠b:=by
   rintro rfl
   rw[sget_same hi]at hb
   cases hb
  rw[sget_ne na]at ha
  rw[sget_ne nb]at hb
  exact R.apart a b ts' us q hab ha hb ea eb
end
abbrev WE:=List Slot->(T->Prop)->Prop
abbrev WT:=List Slot->(Bool->Prop)->Prop
abbrev WA:=List Slot->(List T->Prop)->Prop
structure DT where
 nx:List Slot->Prop
 rt:T->Prop
 bk:List Slot->Prop:=fun _=>False
 ct:List Slot->Prop:=fun _=>False
abbrev WS:=DT->List Slot->Prop
def up(K:PySem.W.Frag)(H0:Hp)(w:WE):TE:=fun σ H Q=>∃(τ:List Slot) (Q0:T->Prop),RepSt K H0 H σ τ/\w τ Q0/\∀t v H',Same H H'->Rep K H' t v->Q0 t->Q v H'
def upT(K:PySem.W.Frag)(H0:Hp)(w:WT):TT:=fun σ H Q=>∃(τ:List Slot) (Q0:Bool->Prop),RepSt K H0 H σ τ/\w τ Q0/\∀b H',Same H H'->Q0 b->Q b H'
def upA(K:PySem.W.Frag)(H0:Hp)(w:WA):TA:=fun σ H Q=>∃(τ:List Slot) (Q0:List T->Prop),RepSt K H0 H σ τ/\w τ Q0/\∀ts vs H',Same H H'->Reps K H' ts vs->Q0 ts->Q vs H'
def upS(K:PySem.W.Frag)(H0:Hp)(w:WS):TS:=fun D σ H=>∃(τ:List Slot) (D0:DT),RepSt K H0 H σ τ/\w D0 τ ∧
 (∀τ' σ' H',Kp H H'->RepSt K H0 H' σ' τ'->D0.nx τ'->D.nx σ' H')/\(∀t v H',Same H0 H'->Rep K H' t v->D0.rt t->D.rt v H') ∧
 (∀τ' σ' H',Kp H H'->RepSt K H0 H' σ' τ'->D0.bk τ'->D.bk σ' H')/\(∀τ' σ' H',Kp H H'->RepSt K H0 H' σ' τ'->D0.ct τ'->D.ct σ' H')
def JE(X:Cx)(e:Expr)(w:WE):Prop:=PE X e (up X.K X.H₀ w)
def JT(X:Cx)(e:Expr)(w:WT):Prop:=PT X e (upT X.K X.H₀ w)
def JA(X:Cx)(es:List Expr)(w:WA):Prop:=PA X es (upA X.K X.H₀ w)
def JS(X:Cx)(st:Stmt)(w:WS):Prop:=PS X st (upS X.K X.H₀ w)
def JSs(X:Cx)(st:List Stmt)(w:WS):Prop:=PSs X st (upS X.K X.H₀ w)
theorem pe_of{X:Cx}{e:Expr}{t t':TE}(h:PE X e t)(f:∀σ H Q,t' σ H Q->t σ H Q):PE X e t':=fun pins s σ H Q I hw=>h pins s σ H Q I (f σ H Q hw)
theorem pt_of{X:Cx}{e:Expr}{t t':TT}(h:PT X e t)(f:∀σ H Q,t' σ H Q->t σ H Q):PT X e t':=fun pins s σ H Q I hw=>h pins s σ H Q I (f σ H Q hw)
theorem pw_of{X:Cx}{e:Expr}{t t':TT}(h:PW X e t)(f:∀σ H Q,t' σ H Q->t σ H Q):PW X e t':=fun wh pins s σ H Q I hw=>h wh pins s σ H Q I (f σ H Q hw)
theorem pa_of{X:Cx}{es:List Expr}{t t':TA}(h:PA X es t)(f:∀σ H Q,t' σ H Q->t σ H Q):PA X es t':=fun pos pins s σ H Q I hw=>h pos pins s σ H Q I (f σ H Q hw)
theorem ps_of{X:Cx}{st:Stmt}{t t':TS}(h:PS X st t)(f:∀D σ H,t' D σ H->t D σ H):PS X st t':=fun pins s σ H D I hw=>h pins s σ H D I (f D σ H hw)
theorem pss_of{X:Cx}{st:List Stmt}{t t':TS}(h:PSs X st t)(f:∀D σ H,t' D σ H->t D σ H):PSs X st t':=fun pins s σ H D I hw=>h pins s σ H D I (f D σ H hw)
end TL
end
section
namespace TL
open PySem PySem.Spec PyProof.Rows L2
section
variable {X:Cx} {a b c e:Expr} {es:List Expr} {wa wb wc w:WE} {pos:Pos}
def wVar(i:Nat):WE:=fun τ Q=>match sget τ i with | .val t=>Q t | .vat t _=>Q t|_=>False
def wC(t:T):WE:=fun _ Q=>Q t
theorem je_of_var{i:Nat}(h:PE X e (tVar i)):JE X e (wVar i):=pe_of h fun σ H Q ⟨τ,Q0,R,hw,k⟩=>by
 have s:=R.slot i
 unfold wVar at hw
 cases z:sget τ i with
 | no=>rw[z]at hw;exact hw.elim
 | own ts=>rw[z]at hw;exact hw.elim
 | see ts=>rw[z]at hw;exact hw.elim
 | dic ts=>rw[z]at hw;exact hw.elim
 | vat t v =>
  rw[z]at hw s
  exact⟨v,s.1,k t v H (.refl H) s.2 hw⟩
 | val t =>
  rw[z]at hw s
  obtain⟨v,ev,r⟩:=s
  exact⟨v,ev,k t v H (.refl H) r hw⟩
theorem jv(i:Nat){x:Str}{pos:Pos}(hN:X.N[i]?=some x:=by rfl)(hv:Vis X.env.scope x:=by first|exact Or.inl rfl|exact Or.inr (Or.inl rfl)|exact Or.inr (Or.inr rfl)) (hd:(x==("__debug__" : Str))=false:=by decide)
  (hcd:(x==("__classdict__" : Str))=false:=by decide):JE X (.Name x pos) (wVar i):=je_of_var (pe_var hN hv hd hcd)
theorem je_const{v:V}{t:T}(h:PE X e (tC v))(r:∀H,Rep X.K H t v):JE X e (wC t):=pe_of h fun σ H Q ⟨τ,Q0,R,hw,k⟩=>k t v H (.refl H) (r H) hw
theorem ji{i j pos}:JE X (.Constant (.int i) j pos) (wC (.int i)):=je_const pe_int fun _=>rep_int.mpr rfl
theorem jb{b j pos}:JE X (.Constant (.bool b) j pos) (wC (.bl b)):=je_const pe_bl fun _=>rep_bl.mpr rfl
theorem jn{j pos}:JE X (.Constant .none j pos) (wC .non):=je_const pe_non fun _=>rep_non.mpr rfl
theorem js{x j pos}:JE X (.Constant (.str x) j pos) (wC (.str x)):=je_const pe_str fun _=>rep_str.mpr rfl
def w2(r:T->T->(T->Prop)->Prop)(wa wb:WE):WE:=fun τ Q=>wa τ fun x=>wb τ fun y=>r x y Q
def BR(X:Cx)(op:Operator)(rT:T->T->(T->Prop)->Prop):Prop:=∃r:R2,OpR X (binaryOp op) r/\∀t1 t2 v1 v2 H (Q0:T->Prop) (Q:VK),Rep X.K H t1 v1->Rep X.K H t2 v2->rT t1 t2 Q0 →
 (∀t v H',Same H H'->Rep X.K H' t v->Q0 t->Q v H')->r v1 v2 H Q
theorem up2{r:R2}{rT:T->T->(T->Prop)->Prop}{K:PySem.W.Frag}{H0:Hp} (br:∀t1 t2 v1 v2 H (Q0:T->Prop) (Q:VK),Rep K H t1 v1->Rep K H t2 v2->rT t1 t2 Q0 →
  (∀t v H',Same H H'->Rep K H' t v->Q0 t->Q v H')->r v1 v2 H Q) (σ:St) (H:Hp) (Q:VK) (h:up K H0 (w2 rT wa wb) σ H Q):tOp r (up K H0 wa) (up K H0 wb) σ H Q:=by
 obtain⟨τ,Q0,R,hw,k⟩:=h
 exact⟨τ,_,R,hw,fun t1 v1 H1 S1 r1 q1=>⟨τ,_,R.mono S1,q1,fun t2 v2 H2 S2 r2 q2=>br t1 t2 v1 v2 H2 Q0 Q (r1.kp (.of S2)) r2 q2 fun t v H' S3 r q=>k t v H' (S1.trans (S2.trans S3)) r q⟩⟩
theorem jop{op:Operator}{rT:T->T->(T->Prop)->Prop}(h:BR X op rT)(ha:JE X a wa)(hb:JE X b wb):JE X (.BinOp a op b pos) (w2 rT wa wb):=by
 obtain⟨r,ho,br⟩:=h
 exact pe_of (pe_op ho ha hb) (up2 br)
def rAddT(x y:T)(Q:T->Prop):Prop:=match x,y with | .int i,.int j=>Q (.int (i + j))|_,_=>False
def rSubT(x y:T)(Q:T->Prop):Prop:=match x,y with | .int i,.int j=>Q (.int (i - j))|_,_=>False
def Lim(n:Nat)(i:Int):Prop:=i.natAbs < 10 ^ n
def MulOk(i j:Int):Prop:=(∃m n,m<=100000/\n<=100000/\Lim m i/\Lim n j)∨Lim 19 i∨Lim 19 j
def DivOk(j:Int):Prop:=j≠0/\∃n,n<=2200/\Lim n j
def rMulT(x y:T)(Q:T->Prop):Prop:=match x,y with | .int i,.int j=>MulOk i j/\Q (.int (i * j))|_,_=>False
def rDivT(x y:T)(Q:T->Prop):Prop:=match x,y with | .int i,.int j=>DivOk j/\Q (.int (i.fdiv j))|_,_=>False
def rModT(x y:T)(Q:T->Prop):Prop:=match x,y with | .int i,.int j=>j≠0/\Q (.int (i.fmod j))|_,_=>False
def rPowT(x y:T)(Q:T->Prop):Prop:=match x,y with | .int i,.int j=>CPow i j/\Q (.int (i ^ j.toNat))|_,_=>False
theorem br_int{op:Operator}{C:Int->Int->Prop}{g:Int->Int->Int}(h:OpR X (binaryOp op) (rI C fun i j=>.int (g i j))) :
  BR X op (fun x y Q=>match x,y with | .int i,.int j=>C i j/\Q (.int (g i j))|_,_=>False):=by
 refine⟨_,h,fun t1 t2 v1 v2 H Q0 Q r1 r2 q k=>?_⟩
 cases t1<;>cases t2<;>first|exact q.elim|skip
 rename_i i j
 exact⟨i,j,rep_int.mp r1,rep_int.mp r2,q.1,k _ _ H (.refl H) (rep_int.mpr rfl) q.2⟩
theorem br_int0{op:Operator}{g:Int->Int->Int}(h:OpR X (binaryOp op) (rI0 fun i j=>.int (g i j))) :
  BR X op (fun x y Q=>match x,y with | .int i,.int j=>Q (.int (g i j))|_,_=>False):=by
 refine⟨_,h,fun t1 t2 v1 v2 H Q0 Q r1 r2 q k=>?_⟩
 cases t1<;>cases t2<;>first|exact q.elim|skip
 rename_i i j
 exact⟨i,j,rep_int.mp r1,rep_int.mp r2,k _ _ H (.refl H) (rep_int.mpr rfl) q⟩
theorem b_add:BR X .Add rAddT:=br_int0 op_add
theorem b_sub:BR X .Sub rSubT:=br_int0 op_sub
theorem log2_of_lim{n:Nat}{i:Int}(h:Lim n i):i.natAbs.log2 < 4 * n + 1:=by
 by_cases h0:i.natAbs=0
 ·rw[h0];simp
 ·rw[Nat.log2_lt h0]
  have h1:(10:Nat) ^ n<=16 ^ n:=Nat.pow_le_pow_left (by decide) n
  have h2:(16:Nat) ^ n=2 ^ (4 * n):=by rw[show (16:Nat)=2 ^ 4 from rfl,← Nat.pow_mul]
  have h3:(2:Nat) ^ (4 * n + 1)=2 ^ (4 * n) * 2:=Nat.pow_succ ..
  have h4:i.natAbs < 10 ^ n:=h
  have h5:0 < (2:Nat) ^ (4 * n):=Nat.pos_of_ne_zero (by simp)
  omega
theorem bits_of_lim{n:Nat}{i:Int}(h:Lim n i)(hn:n<=100000):Builtin.Int.intBits i<=2 ^ 20:=by
 have:=log2_of_lim h
 have e:(2:Nat) ^ 20=1048576:=by decide
 unfold Builtin.Int.intBits
 split<;>omega
theorem bits_of_19{i:Int}(h:Lim 19 i):Builtin.Int.intBits i<=64:=by
 unfold Lim at h
 have h2:i.natAbs < 2 ^ 64:=Nat.lt_of_lt_of_le h (by decide)
 unfold Builtin.Int.intBits
 split
 ·omega
 ·rename_i z
  have:=(Nat.log2_lt (n:=i.natAbs) (k:=64) (by simpa using z)).mpr h2
  omega
theorem MulOk.ok{i j:Int}(h:MulOk i j):IntMulOk i j:=by
 rcases h with ⟨m,n,hm,hn,a,b⟩|a|b
 ·exact .of_bits (bits_of_lim a hm) (bits_of_lim b hn)
 ·exact .of_left (bits_of_19 a)
 ·exact .of_right (bits_of_19 b)
theorem DivOk.ok{i j:Int}(h:DivOk j):Builtin.divisionGoesByPylong i j=false:=by
 obtain⟨_,n,hn,a⟩:=h
 have:=log2_of_lim a
 exact PyProof.noPylong_of_log2 (by omega)
theorem b_mul:BR X .Mult rMulT:=br_int (C:=MulOk) (opI fun _ _ _ _ _ _ _ hc q=>mul_int q hc.ok)
theorem b_div:BR X .FloorDiv rDivT:=br_int (C:=fun _ j=>DivOk j) (opI fun _ _ _ _ _ _ _ hc q=>floordiv_int hc.1 q (.inl hc.ok))
theorem b_mod:BR X .Mod rModT:=br_int (C:=fun _ j=>j≠0) op_modN
theorem b_pow:BR X .Pow rPowT:=br_int (C:=CPow) op_pow
def wNeg(wa:WE):WE:=fun τ Q=>wa τ fun x=>match x with | .int i=>Q (.int (-i))|_=>False
theorem jneg(ha:JE X a wa):JE X (.UnaryOp .USub a pos) (wNeg wa):=pe_of (pe_un un_neg ha) fun σ H Q ⟨τ,Q0,R,hw,k⟩=>⟨τ,_,R,hw,fun t v H1 S1 r1 q1=>by
 cases t<;>first|exact q1.elim|skip
 rename_i i
 exact⟨i,rep_int.mp r1,k _ _ H1 S1 (rep_int.mpr rfl) q1⟩⟩
def CRT(X:Cx)(op:CmpOp)(cT:T->T->(Bool->Prop)->Prop):Prop:=∃r:R2,OpR X (compareOp op) r/\∀t1 t2 v1 v2 H (Q0:Bool->Prop) (Q:VK),Rep X.K H t1 v1->Rep X.K H t2 v2->cT t1 t2 Q0 →
 (∀b,Q0 b->Q (.bl b) H)->r v1 v2 H Q
def wCmp(cT:T->T->(Bool->Prop)->Prop)(wa wb:WE):WE:=fun τ Q=>wa τ fun x=>wb τ fun y=>cT x y fun b=>Q (.bl b)
def tCmpT(cT:T->T->(Bool->Prop)->Prop)(wa wb:WE):WT:=fun τ Q=>wa τ fun x=>wb τ fun y=>cT x y Q
theorem jcmp{op:CmpOp}{cT:T->T->(Bool->Prop)->Prop}(h:CRT X op cT)(ha:JE X a wa)(hb:JE X b wb)(hm:behindInMarks op b=false):JE X (.Compare a [op] [b] pos) (wCmp cT wa wb):=by
 obtain⟨r,ho,br⟩:=h
 refine pe_of (pe_cmpR ho ha hb hm) fun σ H Q ⟨τ,Q0,R,hw,k⟩=>?_
 exact⟨τ,_,R,hw,fun t1 v1 H1 S1 r1 q1=>⟨τ,_,R.mono S1,q1,fun t2 v2 H2 S2 r2 q2=>br t1 t2 v1 v2 H2 _ Q (r1.kp (.of S2)) r2 q2 fun b q=>k _ _ H2 (S1.trans S2) (rep_bl.mpr rfl) q⟩⟩
theorem tcmp{op:CmpOp}{cT:T->T->(Bool->Prop)->Prop}(h:CRT X op cT)(ha:JE X a wa)(hb:JE X b wb)(hm:behindInMarks op b=false):JT X (.Compare a [op] [b] pos) (tCmpT cT wa wb):=by
 obtain⟨r,ho,br⟩:=h
 refine pt_of (pt_cmpR ho ha hb hm) fun σ H Q ⟨τ,Q0,R,hw,k⟩=>?_
 exact⟨τ,_,R,hw,fun t1 v1 H1 S1 r1 q1=>⟨τ,_,R.mono S1,q1,fun t2 v2 H2 S2 r2 q2=>br t1 t2 v1 v2 H2 _ _ (r1.kp (.of S2)) r2 q2 fun b q=>⟨b,rfl,k _ H2 (S1.trans S2) q⟩⟩⟩
def cLtT(x y:T)(Q:Bool->Prop):Prop:=match x,y with | .int i,.int j=>Q (decide (i < j))|_,_=>False
def cLeT(x y:T)(Q:Bool->Prop):Prop:=match x,y with | .int i,.int j=>Q (decide (i<=j))|_,_=>False
def cGtT(x y:T)(Q:Bool->Prop):Prop:=match x,y with | .int i,.int j=>Q (decide (j < i))|_,_=>False
def cGeT(x y:T)(Q:Bool->Prop):Prop:=match x,y with | .int i,.int j=>Q (decide (j<=i))|_,_=>False
theorem cr_int{op:CmpOp}{g:Int->Int->Bool}(h:OpR X (compareOp op) (rI0 fun i j=>.bl (g i j))) :
  CRT X op (fun x y Q=>match x,y with | .int i,.int j=>Q (g i j)|_,_=>False):=by
 refine⟨_,h,fun t1 t2 v1 v2 H Q0 Q r1 r2 q k=>?_⟩
 cases t1<;>cases t2<;>first|exact q.elim|skip
 rename_i i j
 exact⟨i,j,rep_int.mp r1,rep_int.mp r2,k _ q⟩
theorem c_lt:CRT X .Lt cLtT:=cr_int op_lt
theorem c_le:CRT X .LtE cLeT:=cr_int op_le
theorem c_gt:CRT X .Gt cGtT:=cr_int op_gt
theorem c_ge:CRT X .GtE cGeT:=cr_int op_ge
mutual
def eqT:T->T->Bool
 | .non,.non=>true
 | .bl a,.bl b=>a==b
 | .bl a,.int b=>decide ((if a then 1 else 0)=b)
 | .int a,.bl b=>decide (a=(if b then 1 else 0))
 | .int a,.int b=>decide (a=b)
 | .str a,.str b=>a==b
 | .tup xs,.tup ys=>eqTs xs ys
 | .lst xs,.lst ys=>eqTs xs ys
 | _,_=>false
def eqTs:List T->List T->Bool
 | [],[]=>true
 | x::xs,y::ys=>eqT x y&&eqTs xs ys
 | _,_=>false
end
theorem eqTb(a b:Bool):eqT (.bl a) (.bl b)=(a==b):=rfl
theorem eqTe(a b:Int):eqT (.int a) (.int b)=decide (a=b):=rfl
theorem eqTf(a b:Str):eqT (.str a) (.str b)=(a==b):=rfl
theorem eqTg(a b:List T):eqT (.tup a) (.tup b)=eqTs a b:=rfl
theorem eqTh(a b:List T):eqT (.lst a) (.lst b)=eqTs a b:=rfl
theorem eqTj(x y:T)(xs ys:List T):eqTs (x::xs) (y::ys)=(eqT x y&&eqTs xs ys):=rfl
mutual
def pd:T->PyData
 | .non=>.none
 | .bl b=>.bool b
 | .int i=>.int i
 | .str x=>.str x
 | .tup ts=>.tuple (pds ts)
 | .lst ts=>.list (pds ts)
 | .dct=>.dict []
 | .exc _=>.dict []
 | .exf _ _ _=>.dict []
 | .dic _ _=>.dict []
def pds:List T->List PyData
 | []=>[]
 | t::ts=>pd t::pds ts
end
mutual
theorem eqT_pd:∀x y:T,PyData.eqv (pd x) (pd y)=eqT x y
 | .tup xs,.tup ys=>by simp only[pd,PyData.eqv,eqTg,eqTh];exact eqTs_pd xs ys
 | .lst xs,.lst ys=>by simp only[pd,PyData.eqv,eqTg,eqTh];exact eqTs_pd xs ys
 | .non,y=>by cases y<;>simp only[pd,PyData.eqv]<;>rfl
 | .bl _,y=>by cases y<;>simp only[pd,PyData.eqv]<;>rfl
 | .int _,y=>by cases y<;>simp only[pd,PyData.eqv]<;>rfl
 | .str _,y=>by cases y<;>simp only[pd,PyData.eqv]<;>rfl
 | .tup _,.non=>by simp only[pd,PyData.eqv]<;>rfl
 | .tup _,.bl _=>by simp only[pd,PyData.eqv]<;>rfl
 | .tup _,.int _=>by simp only[pd,PyData.eqv]<;>rfl
 | .tup _,.str _=>by simp only[pd,PyData.eqv]<;>rfl
 | .tup _,.lst _=>by simp only[pd,PyData.eqv]<;>rfl
 | .tup _,.dct=>by simp only[pd,PyData.eqv]<;>rfl
 | .tup _,.exc _=>by simp only[pd,PyData.eqv]<;>rfl
 | .tup _,.exf _ _ _=>by simp only[pd,PyData.eqv]<;>rfl
 | .tup _,.dic _ _=>by simp only[pd,PyData.eqv]<;>rfl
 | .lst _,.dct=>by simp only[pd,PyData.eqv]<;>rfl
 | .lst _,.exc _=>by simp only[pd,PyData.eqv]<;>rfl
 | .lst _,.exf _ _ _=>by simp only[pd,PyData.eqv]<;>rfl
 | .lst _,.dic _ _=>by simp only[pd,PyData.eqv]<;>rfl
 | .dct,y=>by cases y<;>simp only[pd,PyData.eqv]<;>rfl
 | .exc _,y=>by cases y<;>simp only[pd,PyData.eqv]<;>rfl
 | .exf _ _ _,y=>by cases y<;>simp only[pd,PyData.eqv]<;>rfl
 | .dic _ _,y=>by cases y<;>simp only[pd,PyData.eqv]<;>rfl
 | .lst _,.non=>by simp only[pd,PyData.eqv]<;>rfl
 | .lst _,.bl _=>by simp only[pd,PyData.eqv]<;>rfl
 | .lst _,.int _=>by simp only[pd,PyData.eqv]<;>rfl
 | .lst _,.str _=>by simp only[pd,PyData.eqv]<;>rfl
 | .lst _,.tup _=>by simp only[pd,PyData.eqv]<;>rfl
theorem eqTs_pd:∀xs ys:List T,PyData.eqvAll (pds xs) (pds ys)=eqTs xs ys
 | [],[]=>by simp only[pds,PyData.eqvAll]<;>rfl
 | [],_::_=>by simp only[pds,PyData.eqvAll]<;>rfl
 | _::_,[]=>by simp only[pds,PyData.eqvAll]<;>rfl
 | x::xs,y::ys=>by simp only[pds,PyData.eqvAll,eqTj];rw[eqT_pd x y,eqTs_pd xs ys]
end
def plain(t:T):Bool:=(pd t).canLay0
def dep(t:T):Nat:=(pd t).depth
mutual
theorem reads_of{pins:List (Addr×Obj)}{s:Shared}{σ:St}{H:Hp}(I:Inv X pins σ H s):∀{t:T}{v:V}{u:Value},plain t=true->Rep X.K H t v->RelV v u->∃as,Reads s.heap u (pd t) as
 | .non,v,u,hp,r,q=>by rw[rep_non]at r;subst r;cases q;exact⟨_,.none⟩
 | .bl b,v,u,hp,r,q=>by rw[rep_bl]at r;subst r;cases q;exact⟨_,.bool b⟩
 | .int i,v,u,hp,r,q=>by rw[rep_int]at r;subst r;obtain⟨t,rfl⟩:=q;exact⟨_,.int i t⟩
 | .str x,v,u,hp,r,q=>by rw[rep_str]at r;subst r;obtain⟨t,rfl⟩:=q;exact⟨_,.str x t⟩
 | .tup ts,v,u,hp,r,q=>by
  rw[rep_tup]at r
  obtain⟨p,vs,rfl,sq,rr⟩:=r
  cases q
  obtain⟨its,rv,⟨o,ho,hc,n,hd⟩,_⟩:=I.tuple sq
  obtain⟨as,ra⟩:=readss_of I (show PyData.canLayAll0 (pds ts)=true from by simpa [plain,pd,PyData.canLay0] using hp) rr rv
  exact⟨_,.tuple ho hc hd (by simpa using ra)⟩
 | .lst ts,v,u,hp,r,q=>by
  rw[rep_lst]at r
  obtain⟨p,vs,rfl,sq,rr⟩:=r
  cases q
  obtain⟨its,rv,pl,_⟩:=I.list sq.sq
  obtain⟨o,ho,hc,n,hd⟩:=pl.isList
  obtain⟨as,ra⟩:=readss_of I (show PyData.canLayAll0 (pds ts)=true from by simpa [plain,pd,PyData.canLay0] using hp) rr rv
  exact⟨_,.list ho hc hd (by simpa using ra)⟩
 | .dct,v,u,hp,r,q=>by simp[plain,pd,PyData.canLay0]at hp
 | .exc _,v,u,hp,r,q=>by simp[plain,pd,PyData.canLay0]at hp
 | .exf _ _ _,v,u,hp,r,q=>by simp[plain,pd,PyData.canLay0]at hp
 | .dic _ _,v,u,hp,r,q=>by simp[plain,pd,PyData.canLay0]at hp
theorem readss_of{pins:List (Addr×Obj)}{s:Shared}{σ:St}{H:Hp}(I:Inv X pins σ H s):∀{ts:List T}{vs:List V}{us:List Value},PyData.canLayAll0 (pds ts)=true->Reps X.K H ts vs->Vals vs us->∃as,ReadsAll s.heap us (pds ts) as
 | [],vs,us,hp,r,q=>by rw[reps_nil]at r;subst r;cases q;exact⟨_,.nil⟩
 | t::ts,vs,us,hp,r,q=>by
  have hp':((pd t).canLay0&&PyData.canLayAll0 (pds ts))=true:=hp
  rw[Bool.and_eq_true]at hp'
  rw[reps_cons]at r
  obtain⟨v,vr,rfl,r1,r2⟩:=r
  cases q with
  | cons q1 q2 =>
   obtain⟨as,a1⟩:=reads_of I hp'.1 r1 q1
   obtain⟨bs,a2⟩:=readss_of I hp'.2 r2 q2
   exact⟨_,.cons a1 a2⟩
end
def EqOk(x y:T):Prop:=plain x=true/\plain y=true/\min (dep x) (dep y)<=60
def cEqT(x y:T)(Q:Bool->Prop):Prop:=match x,y with
 | .int i,.int j=>Q (decide (i=j))
 | x,y=>EqOk x y/\Q (eqT x y)
def cNeT(x y:T)(Q:Bool->Prop):Prop:=match x,y with
 | .int i,.int j=>Q (!decide (i=j))
 | x,y=>EqOk x y/\Q (!eqT x y)
theorem ok_ints(i j:Int):EqOk (.int i) (.int j):=by
 refine⟨by simp[plain,pd,PyData.canLay0],by simp[plain,pd,PyData.canLay0],by simp[dep,pd,PyData.depth]⟩
theorem cEqT_gen{x y:T}{Q:Bool->Prop}(h:cEqT x y Q):EqOk x y/\Q (eqT x y):=by
 unfold cEqT at h
 split at h
 ·exact⟨ok_ints _ _,by simpa only [eqTe] using h⟩
 ·exact h
theorem cNeT_gen{x y:T}{Q:Bool->Prop}(h:cNeT x y Q):EqOk x y/\Q (!eqT x y):=by
 unfold cNeT at h
 split at h
 ·exact⟨ok_ints _ _,by simpa only [eqTe] using h⟩
 ·exact h
theorem c_eq{k:Nat}(hr:Room k X.A):CRT X .Eq cEqT:=by
 refine⟨fun x y H Q=>∃t1 t2,Rep X.K H t1 x/\Rep X.K H t2 y/\EqOk t1 t2/\Q (.bl (eqT t1 t2)) H,?_,fun t1 t2 v1 v2 H Q0 Q r1 r2 q k=>?_⟩
 ·intro pins s σ H x y v u Q I rx ry h
  obtain⟨t1,t2,r1,r2,⟨p1,p2,hd⟩,q⟩:=h
  obtain⟨as,a1⟩:=reads_of I p1 r1 rx
  obtain⟨bs,a2⟩:=reads_of I p2 r2 ry
  have hu:=hr.units
  have hd':min (pd t1).depth (pd t2).depth<=60:=hd
  refine SeqAt.compareEq_reads a1 a2 p1 p2 (by omega) ⟨.bl _,H,I,rfl,?_⟩
  rw[eqT_pd]
  exact q
 ·obtain⟨ok,q⟩:=cEqT_gen q
  exact⟨t1,t2,r1,r2,ok,k _ q⟩
theorem c_ne{k:Nat}(hr:Room k X.A):CRT X .NotEq cNeT:=by
 refine⟨fun x y H Q=>∃t1 t2,Rep X.K H t1 x/\Rep X.K H t2 y/\EqOk t1 t2/\Q (.bl (!eqT t1 t2)) H,?_,fun t1 t2 v1 v2 H Q0 Q r1 r2 q k=>?_⟩
 ·intro pins s σ H x y v u Q I rx ry h
  obtain⟨t1,t2,r1,r2,⟨p1,p2,hd⟩,q⟩:=h
  obtain⟨as,a1⟩:=reads_of I p1 r1 rx
  obtain⟨bs,a2⟩:=reads_of I p2 r2 ry
  have hu:=hr.units
  have hd':min (pd t1).depth (pd t2).depth<=60:=hd
  refine SeqAt.compareNe_reads a1 a2 p1 p2 (by omega) ⟨.bl _,H,I,rfl,?_⟩
  rw[eqT_pd]
  exact q
 ·obtain⟨ok,q⟩:=cNeT_gen q
  exact⟨t1,t2,r1,r2,ok,k _ q⟩
def isNonT:T->Bool
 | .non=>true
 | _=>false
def cIsN(x y:T)(Q:Bool->Prop):Prop:=match y with
 | .non=>Q (isNonT x)
 | _=>False
def cNotN(x y:T)(Q:Bool->Prop):Prop:=match y with
 | .non=>Q (!isNonT x)
 | _=>False
theorem rep_is_non{K:PySem.W.Frag}{H:Hp}{t:T}{v:V}(r:Rep K H t v):decide (v=.non)=isNonT t:=by
 cases t with
 | non=>rw[rep_non]at r;subst r;rfl
 | bl b=>rw[rep_bl]at r;subst r;rfl
 | int b=>rw[rep_int]at r;subst r;rfl
 | str b=>rw[rep_str]at r;subst r;rfl
 | tup b=>rw[rep_tup]at r;obtain⟨p,vs,rfl,_⟩:=r;rfl
 | lst b=>rw[rep_lst]at r;obtain⟨p,vs,rfl,_⟩:=r;rfl
 | dct=>rw[rep_dct]at r;obtain⟨p,rfl,_⟩:=r;rfl
 | exc c=>rw[rep_exc]at r;obtain⟨p,rfl,_⟩:=r;rfl
 | exf c f t=>rw[rep_exf]at r;obtain⟨p,rfl,_⟩:=r;rfl
 | dic ks ts=>rw[rep_dic]at r;obtain⟨p,o,kvs,rfl,_⟩:=r;rfl
theorem c_is:CRT X .Is cIsN:=by
 refine⟨_,op_isN,fun t1 t2 v1 v2 H Q0 Q r1 r2 q k=>?_⟩
 cases t2<;>first|exact q.elim|skip
 refine⟨rep_non.mp r2,?_⟩
 rw[rep_is_non r1]
 exact k _ q
theorem c_isnot:CRT X .IsNot cNotN:=by
 refine⟨_,op_notN,fun t1 t2 v1 v2 H Q0 Q r1 r2 q k=>?_⟩
 cases t2<;>first|exact q.elim|skip
 refine⟨rep_non.mp r2,?_⟩
 rw[rep_is_non r1]
 exact k _ q
def wChain(c1 c2:T->T->(Bool->Prop)->Prop)(wa wb wc:WE):WE:=fun τ Q=>wa τ fun x=>wb τ fun y=>c1 x y fun k=>(k=true->wc τ fun z=>c2 y z fun b=>Q (.bl b))/\(k=false->Q (.bl false))
def tChainT(c1 c2:T->T->(Bool->Prop)->Prop)(wa wb wc:WE):WT:=fun τ Q=>wa τ fun x=>wb τ fun y=>c1 x y fun k=>(k=true->wc τ fun z=>c2 y z Q)/\(k=false->Q false)
theorem jchain{op op':CmpOp}{c1 c2:T->T->(Bool->Prop)->Prop}(h:CRT X op c1)(h':CRT X op' c2)(ha:JE X a wa)(hb:JE X b wb)(hc:JE X c wc)
  (hm:lastMarks [op,op'] [b,c]=false:=by with_unfolding_all rfl):JE X (.Compare a [op,op'] [b,c] pos) (wChain c1 c2 wa wb wc):=by
 obtain⟨r,ho,br⟩:=h
 obtain⟨r',ho',br'⟩:=h'
 refine pe_of (pe_chain ho ho' ha hb hc hm) fun σ H Q ⟨τ,Q0,R,hw,k⟩=>?_
 refine⟨τ,_,R,hw,fun t1 v1 H1 S1 r1 q1=>⟨τ,_,R.mono S1,q1,fun t2 v2 H2 S2 r2 q2=>br t1 t2 v1 v2 H2 _ _ (r1.kp (.of S2)) r2 q2 fun b q=>⟨b,rfl,?_⟩⟩⟩
 cases b with
 | true =>
  rw[if_pos rfl]
  exact⟨τ,_,R.mono (S1.trans S2),q.1 rfl,fun t3 v3 H3 S3 r3 q3=>br' t2 t3 v2 v3 H3 _ _ (r2.kp (.of S3)) r3 q3 fun b q=>k _ _ H3 (S1.trans (S2.trans S3)) (rep_bl.mpr rfl) q⟩
 | false =>
  rw[if_neg Bool.false_ne_true]
  exact k _ _ H2 (S1.trans S2) (rep_bl.mpr rfl) (q.2 rfl)
def JW(X:Cx)(e:Expr)(w:WT):Prop:=PW X e (upT X.K X.H₀ w)
theorem jw{e:Expr}{w:WT}(h:JW X e w):JT X e w:=PW.pt h
variable {ua ub:WT} {rest:List Expr}
def tAndT(ua ub:WT):WT:=fun τ Q=>ua τ fun k=>(k=true->ub τ Q)/\(k=false->Q false)
def tOrT(ua ub:WT):WT:=fun τ Q=>ua τ fun k=>(k=true->Q true)/\(k=false->ub τ Q)
def tNotT(ua:WT):WT:=fun τ Q=>ua τ fun k=>Q (!k)
def tVal(wa:WE):WT:=fun τ Q=>wa τ fun x=>match x with | .bl k=>Q k|_=>False
theorem tand1(ha:JT X a ua):JW X (.BoolOp .And [a] pos) ua:=pw_and1 ha
theorem tor1(ha:JT X a ua):JW X (.BoolOp .Or [a] pos) ua:=pw_or1 ha
theorem tand(ha:JT X a ua)(hb:JW X (.BoolOp .And (b::rest) pos) ub):JW X (.BoolOp .And (a::b::rest) pos) (tAndT ua ub):=pw_of (pw_and ha hb) fun σ H Q ⟨τ,Q0,R,hw,k⟩=>by
 refine⟨τ,_,R,hw,fun c H1 S1 q=>?_⟩
 cases c with
 | true=>rw[if_pos rfl];exact⟨τ,_,R.mono S1,q.1 rfl,fun b H2 S2 q=>k b H2 (S1.trans S2) q⟩
 | false=>rw[if_neg Bool.false_ne_true];exact k _ H1 S1 (q.2 rfl)
theorem tor(ha:JT X a ua)(hb:JW X (.BoolOp .Or (b::rest) pos) ub):JW X (.BoolOp .Or (a::b::rest) pos) (tOrT ua ub):=pw_of (pw_or ha hb) fun σ H Q ⟨τ,Q0,R,hw,k⟩=>by
 refine⟨τ,_,R,hw,fun c H1 S1 q=>?_⟩
 cases c with
 | true=>rw[if_pos rfl];exact k _ H1 S1 (q.1 rfl)
 | false=>rw[if_neg Bool.false_ne_true];exact⟨τ,_,R.mono S1,q.2 rfl,fun b H2 S2 q=>k b H2 (S1.trans S2) q⟩
theorem tnot(ha:JT X a ua):JT X (.UnaryOp .Not a pos) (tNotT ua):=pt_of (pt_not ha) fun σ H Q ⟨τ,Q0,R,hw,k⟩=>⟨τ,_,R,hw,fun c H1 S1 q=>k _ H1 S1 q⟩
theorem tval(ha:JE X a wa)(he:∀whole,isTrue a X.env whole=(do let v ← whole;standAt a.pos;holding [v] (truthy v)):=by intro _;rfl):JT X a (tVal wa) :=
 pt_of (pt_val ha he) fun σ H Q ⟨τ,Q0,R,hw,k⟩=>⟨τ,_,R,hw,fun t v H1 S1 r q=>by
  cases t<;>first|exact q.elim|skip
  rename_i b
  exact⟨b,rep_bl.mp r,k _ H1 S1 q⟩⟩
def wAndV(wa wb:WE):WE:=fun τ Q=>wa τ fun x=>match x with | .bl k=>(k=true->wb τ Q)/\(k=false->Q (.bl false))|_=>False
def wOrV(wa wb:WE):WE:=fun τ Q=>wa τ fun x=>match x with | .bl k=>(k=true->Q (.bl true))/\(k=false->wb τ Q)|_=>False
def wNotV(wa:WE):WE:=fun τ Q=>wa τ fun x=>match x with | .bl k=>Q (.bl (!k))|_=>False
theorem jone{op}(h:JE X a wa):JE X (.BoolOp op [a] pos) wa:=pe_one h
theorem jand(ha:JE X a wa)(hb:JE X (.BoolOp .And (b::rest) pos) wb):JE X (.BoolOp .And (a::b::rest) pos) (wAndV wa wb):=pe_of (pe_and ha hb) fun σ H Q ⟨τ,Q0,R,hw,k⟩=>by
 refine⟨τ,_,R,hw,fun t v H1 S1 r q=>?_⟩
 cases t<;>first|exact q.elim|skip
 rename_i c
 refine⟨c,rep_bl.mp r,?_⟩
 cases c with
 | true=>rw[if_pos rfl];exact⟨τ,_,R.mono S1,q.1 rfl,fun t v H2 S2 r q=>k t v H2 (S1.trans S2) r q⟩
 | false=>rw[if_neg Bool.false_ne_true];exact k _ _ H1 S1 (rep_bl.mpr rfl) (q.2 rfl)
theorem jnot(ha:JE X a wa):JE X (.UnaryOp .Not a pos) (wNotV wa):=pe_of (pe_not ha) fun σ H Q ⟨τ,Q0,R,hw,k⟩=>⟨τ,_,R,hw,fun t v H1 S1 r q=>by
 cases t<;>first|exact q.elim|skip
 rename_i c
 exact⟨c,rep_bl.mp r,k _ _ H1 S1 (rep_bl.mpr rfl) q⟩⟩
def wIfE(ua:WT)(wa wb:WE):WE:=fun τ Q=>ua τ fun k=>(k=true->wa τ Q)/\(k=false->wb τ Q)
theorem jif(hc:JT X c ua)(ha:JE X a wa)(hb:JE X b wb):JE X (.IfExp c a b pos) (wIfE ua wa wb):=pe_of (pe_ifExp hc ha hb) fun σ H Q ⟨τ,Q0,R,hw,k⟩=>by
 refine⟨τ,_,R,hw,fun d H1 S1 q=>?_⟩
 cases d with
 | true=>rw[if_pos rfl];exact⟨τ,_,R.mono S1,q.1 rfl,fun t v H2 S2 r q=>k t v H2 (S1.trans S2) r q⟩
 | false=>rw[if_neg Bool.false_ne_true];exact⟨τ,_,R.mono S1,q.2 rfl,fun t v H2 S2 r q=>k t v H2 (S1.trans S2) r q⟩
variable {ws:WA}
def aNil:WA:=fun _ Q=>Q []
def aCons(wa:WE)(ws:WA):WA:=fun τ Q=>wa τ fun x=>ws τ fun xs=>Q (x::xs)
theorem ja0:JA X [] aNil:=pa_of pa_nil fun σ H Q ⟨τ,Q0,R,hw,k⟩=>k _ _ H (.refl H) (reps_nil.mpr rfl) hw
theorem ja(ha:JE X e wa)(hr:JA X es ws)(hs:starEach (e::es) X.env=(false,eval e X.env)::starEach es X.env:=by exact star1 rfl):JA X (e::es) (aCons wa ws):=pa_of (pa_cons ha hr hs) fun σ H Q ⟨τ,Q0,R,hw,k⟩ =>
 ⟨τ,_,R,hw,fun t v H1 S1 r1 q1=>⟨τ,_,R.mono S1,q1,fun ts vs H2 S2 r2 q2=>k _ _ H2 (S1.trans S2) (.cons (r1.kp (.of S2)) r2) q2⟩⟩
def wTup(ws:WA):WE:=fun τ Q=>ws τ fun ts=>ts.length<=1000/\Q (.tup ts)
def wLst(ws:WA):WE:=fun τ Q=>ws τ fun ts=>ts.length<=1000/\Q (.lst ts)
theorem few{n:Nat}(h:n<=1000):n<=sizeLine:=Nat.le_of_lt (small1000 h)
theorem jtup{x1}(h:JA X es ws):JE X (.Tuple es x1 pos) (wTup ws):=pe_of (pe_tup h) fun σ H Q ⟨τ,Q0,R,hw,k⟩=>⟨τ,_,R,hw,fun ts vs H1 S1 r ⟨hl,q⟩ =>
 ⟨by rw[r.length];exact few hl,fun p hp=>k _ _ _ (S1.trans (same_new hp _)) (rep_tup.mpr ⟨p,vs,rfl,SqT.of upd_same,r.kp (.of (same_new hp _))⟩) q⟩⟩
def tLstF(t:TA):TE:=fun σ H Q=>t σ H fun xs H1=>xs.length<=sizeLine/\∀p o,H1 p=none->Q (.ref p) (upd H1 p (.frz o (.lst xs)))
theorem pe_lstF{t:TA}(h:PA X es t):PE X (.List es pos) (tLstF t):=by
 intro pins s σ H Q I hq
 refine wpAny_List_spliced (thn (h pos pins s σ H _ I hq) fun us s1 ⟨xs,H1,I1,r,z,q⟩=>⟨by rw[← r.length];exact z,?_⟩)
 have hf:H1 s1.heap.objs.size=none:=I1.hok.fresh (Nat.le_refl _)
 refine⟨.ref s1.heap.objs.size,upd H1 s1.heap.objs.size (.frz {cls:=.type "list", data:=.seq us.toArray} (.lst xs)),I1.laid (t':=s1.toks) (fun b u e=>Heap.get?_push_of_some _ e) (Nat.le_refl _) ?_,rfl,q _ _ hf⟩
 exact⟨Heap.get?_push_size _ rfl,z,us,0,r,Heap.get?_push_size _ rfl⟩
theorem jlst(h:JA X es ws):JE X (.List es pos) (wLst ws):=pe_of (pe_lstF h) fun σ H Q ⟨τ,Q0,R,hw,k⟩=>⟨τ,_,R,hw,fun ts vs H1 S1 r ⟨hl,q⟩ =>
 ⟨by rw[r.length];exact few hl,fun p o hp=>k _ _ _ (S1.trans (same_new hp _)) (rep_lst.mpr ⟨p,vs,rfl,.inl ⟨o,upd_same⟩,r.kp (.of (same_new hp _))⟩) q⟩⟩
def rIxTT(x y:T)(Q:T->Prop):Prop:=match x,y with
 | .tup ts,.int i=>(match atI ts i with|some t=>Q t|none=>False)
 | .lst ts,.int i=>(match atI ts i with|some t=>Q t|none=>False)
 | _,_=>False
theorem atI_reps{K:PySem.W.Frag}{H:Hp}{ts:List T}{vs:List V}{i:Int}{t:T}(r:Reps K H ts vs)(h:atI ts i=some t):∃v,atI vs i=some v/\Rep K H t v:=by
 unfold atI at h ⊢
 rw[r.length]
 cases e:ixN ts.length i with
 | none=>rw[e]at h;cases h
 | some j =>
  rw[e]at h
  exact r.get h
theorem jix(ha:JE X a wa)(hb:JE X b wb)(hs:PlainIx b:=by intro _ _;rfl):JE X (.Subscript a b pos) (w2 rIxTT wa wb):=pe_of (pe_ix ix_seq ha hb hs) (up2 fun t1 t2 v1 v2 H Q0 Q r1 r2 q k=>by
 cases t1<;>cases t2<;>first|exact q.elim|skip
 ·rename_i ts i
  rw[rep_tup]at r1
  obtain⟨p,vs,rfl,sq,rr⟩:=r1
  have q':(match atI ts i with|some t=>Q0 t|none=>False):=q
  cases e:atI ts i with
  | none=>rw[e]at q';exact q'.elim
  | some t =>
   rw[e]at q'
   obtain⟨v,ev,rv⟩:=atI_reps rr e
   exact .inr (.inl ⟨p,vs,i,v,rfl,rep_int.mp r2,sq,ev,k _ _ H (.refl H) rv q'⟩)
 ·rename_i ts i
  rw[rep_lst]at r1
  obtain⟨p,vs,rfl,sq,rr⟩:=r1
  have q':(match atI ts i with|some t=>Q0 t|none=>False):=q
  cases e:atI ts i with
  | none=>rw[e]at q';exact q'.elim
  | some t =>
   rw[e]at q'
   obtain⟨v,ev,rv⟩:=atI_reps rr e
   exact .inl ⟨p,vs,i,v,rfl,rep_int.mp r2,sq.sq,ev,k _ _ H (.refl H) rv q'⟩)
def BlR(X:Cx)(f:Value)(rT:List T->(T->Prop)->Prop):Prop:=∃r:List V->Hp->VK->Prop,CallR X f r/\∀ts vs H (Q0:T->Prop) (Q:VK),Reps X.K H ts vs->rT ts Q0 →
 (∀t v H',Same H H'->Rep X.K H' t v->Q0 t->Q v H')->r vs H Q
def wCB(rT:List T->(T->Prop)->Prop)(ws:WA):WE:=fun τ Q=>ws τ fun ts=>rT ts Q
theorem upCB{r:List V->Hp->VK->Prop}{rT:List T->(T->Prop)->Prop}{K:PySem.W.Frag}{H0:Hp} (br:∀ts vs H (Q0:T->Prop) (Q:VK),Reps K H ts vs->rT ts Q0 →
  (∀t v H',Same H H'->Rep K H' t v->Q0 t->Q v H')->r vs H Q) (σ:St) (H:Hp) (Q:VK) (h:up K H0 (wCB rT ws) σ H Q):tCB r (upA K H0 ws) σ H Q:=by
 obtain⟨τ,Q0,R,hw,k⟩:=h
 exact⟨τ,_,R,hw,fun ts vs H1 S1 r1 q1=>br ts vs H1 Q0 Q r1 q1 fun t v H' S2 r q=>k t v H' (S1.trans S2) r q⟩
theorem jblt{x:Str}{p:Pos}{id:String}{rT:List T->(T->Prop)->Prop}(h:BlR X (.builtin id) rT)(hg:Gl X x)(hm:X.mg x=none)(hv:bootBuiltins x=some (.builtin id))(ha:JA X (e::es) ws) (hn:x ≠ "__name__" := by decide)
  (hdb:(x==("__debug__" : Str))=false:=by decide) (he:starEach (e::es) X.env=(false,eval e X.env)::starEach es X.env:=by exact star1 rfl) (hpl:(backTo pos (starEach es X.env)).any (·.1)=false:=by exact stars rfl) :
  JE X (.Call (.Name x p) (e::es) [] pos) (wCB rT ws):=by
 obtain⟨r,hc,br⟩:=h
 exact pe_of (pe_callB hc hg hm hv ha hn hdb he hpl) (upCB br)
theorem jty{x:Str}{p:Pos}{id:String}{rT:List T->(T->Prop)->Prop}(h:BlR X (.type id) rT)(hg:Gl X x)(hm:X.mg x=none)(hv:bootBuiltins x=some (.type id))(ha:JA X (e::es) ws) (hn:x ≠ "__name__" := by decide)
  (hdb:(x==("__debug__" : Str))=false:=by decide) (he:starEach (e::es) X.env=(false,eval e X.env)::starEach es X.env:=by exact star1 rfl) (hpl:(backTo pos (starEach es X.env)).any (·.1)=false:=by exact stars rfl) :
  JE X (.Call (.Name x p) (e::es) [] pos) (wCB rT ws):=by
 obtain⟨r,hc,br⟩:=h
 exact pe_of (pe_callTy hc hg hm hv ha hn hdb he hpl) (upCB br)
theorem reps1{K:PySem.W.Frag}{H:Hp}{t:T}{vs:List V}(r:Reps K H [t] vs):∃v,vs=[v]/\Rep K H t v:=by
 rw[reps_cons]at r
 obtain⟨v,vr,rfl,r1,r2⟩:=r
 rw[reps_nil]at r2
 subst r2
 exact⟨v,rfl,r1⟩
theorem reps2{K:PySem.W.Frag}{H:Hp}{t t':T}{vs:List V}(r:Reps K H [t,t'] vs):∃v v',vs=[v,v']/\Rep K H t v/\Rep K H t' v':=by
 rw[reps_cons]at r
 obtain⟨v,vr,rfl,r1,r2⟩:=r
 obtain⟨v',rfl,r3⟩:=reps1 r2
 exact⟨v,v',rfl,r1,r3⟩
def rLenT(ts:List T)(Q:T->Prop):Prop:=match ts with
 | [.tup xs]=>Q (.int xs.length)
 | [.lst xs]=>Q (.int xs.length)
 | _=>False
theorem bl_len:BlR X (.builtin "len") rLenT:=by
 refine⟨_,call_len_seq,fun ts vs H Q0 Q r q k=>?_⟩
 unfold rLenT at q
 split at q
 ·obtain⟨v,rfl,r1⟩:=reps1 r
  rw[rep_tup]at r1
  obtain⟨p,ys,rfl,sq,rr⟩:=r1
  exact⟨p,ys,rfl,.inr sq,k _ _ H (.refl H) (rep_int.mpr (by rw[rr.length])) q⟩
 ·obtain⟨v,rfl,r1⟩:=reps1 r
  rw[rep_lst]at r1
  obtain⟨p,ys,rfl,sq,rr⟩:=r1
  exact⟨p,ys,rfl,.inl sq.sq,k _ _ H (.refl H) (rep_int.mpr (by rw[rr.length])) q⟩
 ·exact q.elim
end
end TL
end
section
namespace TL
open PySem PySem.Spec PyProof.Rows L2
section
variable {X:Cx} {a b c e:Expr} {es:List Expr} {wa wb wc w:WE} {ws:WA} {pos:Pos}
def rAbsT(ts:List T)(Q:T->Prop):Prop:=match ts with
 | [.int i]=>Q (.int (if i < 0 then -i else i))
 | _=>False
theorem bl_abs:BlR X (.builtin "abs") rAbsT:=by
 refine⟨_,call_abs,fun ts vs H Q0 Q r q k=>?_⟩
 unfold rAbsT at q
 split at q
 ·obtain⟨v,rfl,r1⟩:=reps1 r
  rename_i i
  exact⟨i,by rw[rep_int.mp r1],k _ _ H (.refl H) (rep_int.mpr rfl) q⟩
 ·exact q.elim
def rMaxT(ts:List T)(Q:T->Prop):Prop:=match ts with
 | [.int i,.int j]=>Q (.int (if j > i then j else i))
 | _=>False
def rMinT(ts:List T)(Q:T->Prop):Prop:=match ts with
 | [.int i,.int j]=>Q (.int (if j < i then j else i))
 | _=>False
def rTupleT(ts:List T)(Q:T->Prop):Prop:=match ts with
 | [.tup xs]=>Q (.tup xs)
 | [.lst xs]=>Q (.tup xs)
 | _=>False
theorem ty_tuple:BlR X (.type "tuple") rTupleT:=by
 refine⟨_,call_tuple_of,fun ts vs H Q0 Q r q k=>?_⟩
 unfold rTupleT at q
 split at q
 ·obtain⟨v,rfl,r1⟩:=reps1 r
  have r':=r1
  rw[rep_tup]at r1
  obtain⟨p,ys,rfl,sq,rr⟩:=r1
  exact⟨p,ys,rfl,.inr ⟨sq,k _ _ H (.refl H) r' q⟩⟩
 ·obtain⟨v,rfl,r1⟩:=reps1 r
  rw[rep_lst]at r1
  obtain⟨p,ys,rfl,sq,rr⟩:=r1
  exact⟨p,ys,rfl,.inl ⟨sq.sq,fun l hl=>k _ _ _ (same_new hl _) (rep_tup.mpr ⟨l,ys,rfl,SqT.of upd_same,rr.kp (.of (same_new hl _))⟩) q⟩⟩
 ·exact q.elim
inductive Kd where
 | int|bool|tuple|list|str
def Kd.nm:Kd->String
 | .int => "int"
 | .bool => "bool"
 | .tuple => "tuple"
 | .list => "list"
 | .str => "str"
def isK:Kd->T->Bool
 | .int,.int _=>true
 | .int,.bl _=>true
 | .bool,.bl _=>true
 | .tuple,.tup _=>true
 | .list,.lst _=>true
 | .str,.str _=>true
 | _,_=>false
def noExc:T->Prop
 | .exc _=>False
 | .exf _ _ _=>False
 | .dic _ _=>False
 | _=>True
theorem call_isi(kd:Kd):CallR X (.builtin "isinstance") (fun xs H Q=>∃x t,xs=[x,.ty kd.nm]/\Rep X.K H t x/\noExc t/\Q (.bl (isK kd t)) H):=by
 intro pins s σ H xs us Q I r h
 obtain⟨x,t,rfl,rt,ne,q⟩:=h
 obtain⟨u,u',rfl,rx,r2⟩:=vals2 r
 obtain rfl:u'=Value.type kd.nm:=r2
 have fin:∀tk,EP X pins σ Q (.bool (isK kd t)) {s with toks:=tk}:=fun tk=>⟨.bl _,H,I.tok tk,rfl,q⟩
 cases t with
 | non=>rw[rep_non]at rt;subst rt;cases rx;exact PySem.W.kia_one PySem.W.kitx_none I.kIn True.intro (by cases kd<;>kernel_rfl) (fun z=>nomatch z) fin
 | bl y=>rw[rep_bl]at rt;subst rt;cases rx;exact PySem.W.kia_one PySem.W.kitx_bool I.kIn True.intro (by cases kd<;>kernel_rfl) (fun z=>nomatch z) fin
 | int i=>rw[rep_int]at rt;subst rt;obtain⟨t,rfl⟩:=rx;exact PySem.W.kia_one PySem.W.kitx_int I.kIn True.intro (by cases kd<;>kernel_rfl) (fun z=>nomatch z) fin
 | str y=>rw[rep_str]at rt;subst rt;obtain⟨t,rfl⟩:=rx;exact PySem.W.kia_one PySem.W.kitx_str I.kIn True.intro (by cases kd<;>kernel_rfl) (fun z=>nomatch z) fin
 | tup ts =>
  rw[rep_tup]at rt
  obtain⟨p,vs,rfl,sq,_⟩:=rt
  cases rx
  obtain⟨its,_,⟨o,h1,h2,_⟩,_⟩:=I.tuple sq
  exact PySem.W.kia_one PySem.W.kitx_tuple I.kIn ⟨o,h1,h2⟩ (by cases kd<;>kernel_rfl) (fun z=>nomatch z) fin
 | lst ts =>
  rw[rep_lst]at rt
  obtain⟨p,vs,rfl,sq,_⟩:=rt
  cases rx
  obtain⟨its,_,pl,_⟩:=I.list sq.sq
  obtain⟨o,h1,h2,_⟩:=pl.isList
  exact PySem.W.kia_one PySem.W.kitx_list I.kIn ⟨o,h1,h2⟩ (by cases kd<;>kernel_rfl) (fun z=>nomatch z) fin
 | dct =>
  rw[rep_dct]at rt
  obtain⟨p,rfl,hp⟩:=rt
  cases rx
  exact PySem.W.kia_one PySem.W.kitx_dict I.kIn ⟨_,(I.hok p _ hp).1,rfl⟩ (by cases kd<;>kernel_rfl) (fun z=>nomatch z) fin
 | exc c=>exact ne.elim
 | exf c f t=>exact ne.elim
 | dic ks ts=>exact ne.elim
def wIsi(kd:Kd)(wa:WE):WE:=fun τ Q=>wa τ fun t=>noExc t/\Q (.bl (isK kd t))
theorem jisi(kd:Kd){p pc:Pos}{x:Str}(ha:JE X e wa) (hg:Gl X "isinstance") (hm:X.mg "isinstance" = none) (hgc:Gl X x) (hmc:X.mg x=none) (hvc:bootBuiltins x=some (.type kd.nm))
  (hn:x ≠ "__name__" := by decide) (hd:(x==("__debug__" : Str))=false:=by decide)
  (hs:starEach [e,.Name x pc] X.env=(false,eval e X.env)::starEach [.Name x pc] X.env:=by exact star1 rfl) (hs1:starEach [.Name x pc] X.env=(false,eval (.Name x pc) X.env)::starEach [] X.env:=by rfl)
  (hpl:(backTo pos (starEach [.Name x pc] X.env)).any (·.1)=false:=by exact stars rfl):JE X (.Call (.Name "isinstance" p) [e,.Name x pc] [] pos) (wIsi kd wa):=by
 refine pe_of (pe_callB (call_isi kd) hg hm boot_isinstance (pa_cons ha (pa_cons (pe_bltn (v:=.ty kd.nm) hgc hmc hvc rfl hn hd) pa_nil hs1) hs) (by decide) (by decide) hs hpl) fun σ H Q ⟨τ,Q0,R,hw,k⟩=>?_
 exact⟨τ,_,R,hw,fun t v H1 S1 r1 q1=>⟨v,t,rfl,r1,q1.1,k _ _ H1 S1 (rep_bl.mpr rfl) q1.2⟩⟩
abbrev SpT:=List T->(T->Prop)->Prop
def spT(K:PySem.W.Frag)(n:Nat)(S:SpT):Sp:=fun vs H Q _=>∃(ts:List T) (Q0:T->Prop),vs.length=n/\Reps K H ts vs/\S ts Q0/\∀t v H',Same H H'->Rep K H' t v->Q0 t->Q v H'
structure FnT(P:Program)(w:World)(K:PySem.W.Frag)(mg:Str->Option Value)(base:Heap)(k:Nat)(f:Addr)(fd:FuncData)(ps:List Str)(S:SpT):Prop where
 ok:FnOk P w K mg base CX0 k f fd ps (spT K ps.length S)
 len:∀ts Q,S ts Q->ts.length=ps.length
def wCall(S:SpT)(ws:WA):WE:=fun τ Q=>ws τ fun ts=>S ts Q
theorem jcall{k:Nat}{f:Addr}{fd:FuncData}{ps:List Str}{S:SpT}{x:Str}{p:Pos}(F:FnT X.prog X.w X.K X.mg X.base k f fd ps S)(hr:Room k X.A)(hg:Gl X x)(hm:X.mg x=some (.ref f))(hk:PySem.W.keepIn X.K (.ref f)=true)
  (hb:Binds X.K fd ps []) (ha:JA X (e::es) ws) (hdb:(x==("__debug__" : Str))=false:=by decide) (he:starEach (e::es) X.env=(false,eval e X.env)::starEach es X.env:=by exact star1 rfl)
  (hpl:(backTo pos (starEach es X.env)).any (·.1)=false:=by exact stars rfl):JE X (.Call (.Name x p) (e::es) [] pos) (wCall S ws):=by
 refine pe_of (pe_call F.ok hr hg hm hk hb .nil pass0 ha hdb he hpl) fun σ H Q ⟨τ,Q0,R,hw,k⟩=>?_
 refine⟨τ,_,R,hw,fun ts vs H1 S1 r1 q1=>?_⟩
 have e0:vs++[]=vs:=List.append_nil vs
 show spT X.K ps.length S (vs++[]) H1 Q E0
 rw[e0]
 exact⟨ts,Q0,by rw[r1.length];exact F.len _ _ q1,r1,q1,fun t v H' S2 r q=>k t v H' (S1.trans S2) r q⟩
def startT(n:Nat)(ts:List T):List Slot:=ts.map Slot.val++List.replicate (n - ts.length) Slot.no
theorem sget_append_left:∀{l r:List Slot}{i:Nat},i < l.length->sget (l++r) i=sget l i
 | [],_,_,h=>by simp at h
 | _::_,_,0,_=>rfl
 | _::l,r,i + 1,h=>by simp only[List.cons_append,sget];exact sget_append_left (by simpa using h)
theorem sget_append_right:∀{l r:List Slot}{i:Nat},l.length<=i->sget (l++r) i=sget r (i - l.length)
 | [],_,_,_=>by simp
 | _::_,_,0,h=>by simp at h
 | _::l,r,i + 1,h=>by
  simp only[List.cons_append,sget,List.length_cons]
  rw[sget_append_right (by simpa using h)]
  congr 1
  omega
theorem sget_no:∀(n i:Nat),sget (List.replicate n Slot.no) i=.no
 | 0,_=>rfl
 | _ + 1,0=>rfl
 | n + 1,i + 1=>by simp only[List.replicate,sget];exact sget_no n i
theorem sget_vals:∀{ts:List T}{i:Nat},i < ts.length->∃t,ts[i]?=some t/\sget (ts.map Slot.val) i=.val t
 | [],_,h=>by simp at h
 | t::_,0,_=>⟨t,rfl,rfl⟩
 | _::r,i + 1,h=>by
  obtain⟨t,h1,h2⟩:=sget_vals (ts:=r) (i:=i) (by simpa using h)
  exact⟨t,by simpa using h1,by simpa [sget] using h2⟩
theorem repSt_start{K:PySem.W.Frag}{H:Hp}{N:List Str}{ts:List T}{vs:List V}(r:Reps K H ts vs):RepSt K H H (L2.start N vs) (startT N.length ts):=by
 have hl:=r.length
 have noOwn:∀i us,sget (startT N.length ts) i ≠ .own us:=fun i us e=>by
  unfold startT at e
  by_cases hi:i < ts.length
  ·rw[sget_append_left (by simpa using hi)]at e
   obtain⟨t,_,h2⟩:=sget_vals hi
   rw[h2]at e
   cases e
  ·rw[sget_append_right (by simpa using hi),sget_no]at e
   cases e
 refine⟨.refl H,by unfold L2.start startT;simp[hl],fun i=>?_,fun i j ts' us p _ h1 _ _ _=>absurd h1 (noOwn i _)⟩
 unfold startT
 by_cases hi:i < ts.length
 ·rw[sget_append_left (by simpa using hi)]
  obtain⟨t,h1,h2⟩:=sget_vals hi
  rw[h2]
  obtain⟨v,e,rv⟩:=r.get h1
  refine⟨v,?_,rv⟩
  unfold L2.start
  rw[List.getElem?_append_left (by simp[hl,hi]),List.getElem?_map,e]
  rfl
 ·rw[sget_append_right (by simpa using hi),sget_no]
  trivial
theorem fnT{P:Program}{w:World}{K:PySem.W.Frag}{mg:Str->Option Value}{base:Heap}{x qual:Str}{st:Stmt}{f:Addr}{fd:FuncData}{N ps:List Str}{k:Nat}{S:SpT}{W:WS}(F:Fun K x qual st f fd)(SC:FnScope N ps (defScope st))
  (hlen:∀ts Q,S ts Q->ts.length=ps.length)
  (hbody:∀(cdv:Value)(A:Around)(outer:List Env)(s:Shared)(H:Hp)(E:XK),Room k (A.deeper (envOfC qual (defScope st) s.heap.objs.size f cdv))->JSs (cxOf CX0 P w K mg base N qual (defScope st) f cdv A outer s H E).nox (defBody st) W)
  (hw:∀ts Q,S ts Q->W {nx:=fun _=>Q .non,rt:=Q} (startT N.length ts)):FnT P w K mg base (k + 1) f fd ps S:=by
 refine⟨F.ok SC (fun vs H Q E h=>?_) (fun cdv A outer s H vs Q E hr h=>?_),hlen⟩
 ·obtain⟨_,_,e,_⟩:=h
  exact e
 obtain⟨ts,Q0,e,r,hS,q⟩:=h
 refine⟨_,hbody cdv A outer s H E hr,startT N.length ts,{nx:=fun _=>Q0 .non,rt:=Q0},repSt_start r,hw ts Q0 hS,fun τ' σ' H' _ R n=>?_,fun t v H' S r' n=>q t v H' S r' n,fun τ' σ' H' _ R n=>n.elim,fun τ' σ' H' _ R n=>n.elim⟩
 exact q .non .non H' R.same (rep_non.mpr rfl) n
variable {st:Stmt} {rest:List Stmt} {t u:WS} {ua:WT}
def sNext:WS:=fun D τ=>D.nx τ
def sSeq(t u:WS):WS:=fun D τ=>t {D with nx:=u D} τ
theorem js0:JSs X [] sNext:=pss_of pss_nil fun D σ H ⟨τ,D0,R,hw,k,_⟩=>k τ σ H (.refl H) R hw
theorem js1(h:JS X st t):JSs X [st] t:=pss_of (pss_one h) fun D σ H z=>z
theorem jsc(h1:JS X st t)(h2:JSs X rest u):JSs X (st::rest) (sSeq t u):=pss_of (pss_cons h1 h2) fun D σ H ⟨τ,D0,R,hw,kn,kr,kb,kc⟩ =>
 ⟨τ,_,R,hw,fun τ' σ' H' K1 R' q=>⟨τ',D0,R',q,fun τ2 σ2 H2 K2 R2 q2=>kn τ2 σ2 H2 (K1.trans K2) R2 q2,kr,fun τ2 σ2 H2 K2 R2 q2=>kb τ2 σ2 H2 (K1.trans K2) R2 q2,fun τ2 σ2 H2 K2 R2 q2=>kc τ2 σ2 H2 (K1.trans K2) R2 q2⟩,
  kr,kb,kc⟩
def sRet(w:WE):WS:=fun D τ=>w τ D.rt
theorem jret(h:JE X e w):JS X (.Return (some e) pos) (sRet w):=ps_of (ps_ret h) fun D σ H ⟨τ,D0,R,hw,_,k,_⟩=>⟨τ,_,R,hw,fun t v H' S r q=>k t v H' (R.same.trans S) r q⟩
def sRetN:WS:=fun D _=>D.rt .non
def sIf(ua:WT)(t u:WS):WS:=fun D τ=>ua τ fun k=>(k=true->t D τ)/\(k=false->u D τ)
theorem jsif{c:Expr}{a b:List Stmt}(hc:JT X c ua)(ha:JSs X a t)(hb:JSs X b u):JS X (.If c a b pos) (sIf ua t u):=ps_of (ps_if hc ha hb) fun D σ H ⟨τ,D0,R,hw,kn,kr,kb,kc⟩=>by
 refine⟨τ,_,R,hw,fun d H1 S1 q=>?_⟩
 have K1:=Kp.of S1
 cases d with
 | true=>dsimp only;rw[if_pos rfl];exact⟨τ,D0,R.mono S1,q.1 rfl,fun τ2 σ2 H2 K2 R2 q2=>kn τ2 σ2 H2 (K1.trans K2) R2 q2,kr,fun τ2 σ2 H2 K2 R2 q2=>kb τ2 σ2 H2 (K1.trans K2) R2 q2,fun τ2 σ2 H2 K2 R2 q2=>kc τ2 σ2 H2 (K1.trans K2) R2 q2⟩
 | false=>dsimp only;rw[if_neg Bool.false_ne_true];exact⟨τ,D0,R.mono S1,q.2 rfl,fun τ2 σ2 H2 K2 R2 q2=>kn τ2 σ2 H2 (K1.trans K2) R2 q2,kr,fun τ2 σ2 H2 K2 R2 q2=>kb τ2 σ2 H2 (K1.trans K2) R2 q2,fun τ2 σ2 H2 K2 R2 q2=>kc τ2 σ2 H2 (K1.trans K2) R2 q2⟩
def sExpr(w:WE):WS:=fun D τ=>w τ fun _=>D.nx τ
def sSet(i:Nat)(w:WE):WS:=fun D τ=>w τ fun t=>D.nx (sput τ i (.val t))
theorem jset{i:Nat}{x:Str}{pos':Pos}(hN:X.N.Nodup)(hi:X.N[i]?=some x)(hx:Loc X.env.scope x)(he:JE X e w)(hs:swapsWith e (some (.Name x pos')) pos.line X.env=pure false:=by rfl)
  (hf:X.fn x=true∨X.env.scope.names.lookup x=some .local:=by first|exact .inl rfl|exact .inr rfl|assumption):JS X (.Assign [.Name x pos'] e pos) (sSet i w) :=
 ps_of (ps_set hN hi hx he hs hf) fun D σ H ⟨τ,D0,R,hw,k,_⟩=>⟨τ,_,R,hw,fun t v H' S r q=>k _ _ H' (.of S) ((R.mono S).put r) q⟩
def sOwn(i:Nat)(ws:WA):WS:=fun D τ=>ws τ fun ts=>ts.length<=1000/\D.nx (sput τ i (.own ts))
theorem jown{i:Nat}{x:Str}{pos' pl:Pos}(hN:X.N.Nodup)(hi:X.N[i]?=some x)(hx:Loc X.env.scope x)(he:JA X es ws)(hs:swapsWith (.List es pl) (some (.Name x pos')) pos.line X.env=pure false:=by rfl)
  (hf:X.fn x=true∨X.env.scope.names.lookup x=some .local:=by first|exact .inl rfl|exact .inr rfl|assumption):JS X (.Assign [.Name x pos'] (.List es pl) pos) (sOwn i ws) :=
 ps_of (ps_set hN hi hx (pe_lst he) hs hf) fun D σ H ⟨τ,D0,R,hw,k,_⟩=>⟨τ,_,R,hw,fun ts vs H' S r ⟨hl,q⟩ =>
  ⟨by rw[r.length];exact few hl,fun p hp=>k _ _ _ ((Kp.of S).trans (.of (same_new hp _))) ((R.mono S).putOwn hp r) q⟩⟩
def sApp(i:Nat)(w:WE):WS:=fun D τ=>match sget τ i with
 | .own ts=>w τ fun t=>ts.length < 1000/\D.nx (sput τ i (.own (ts++[t])))
 | _=>False
theorem japp{i:Nat}{x:Str}{px apos cpos:Pos}(hv:PE X (.Name x px) (tVar i))(he:JE X e w)
  (hs:swapsWith (.Call (.Attribute (.Name x px) "append" apos) [e] [] cpos) none pos.line X.env=pure false:=by rfl)
  (hbase:attributeBase (.Name x px) "append" X.env (eval (.Name x px) X.env)=eval (.Name x px) X.env:=by rfl)
  (hfew:((backTo cpos (starEach [e] X.env)).all (fun x=>!x.1)&&(backToKw cpos (keywordEach [] X.env)).all (fun x=>x.1.isSome)
   && decide ([e].length + ([]:List Keyword).length + (if ([]:List Keyword).isEmpty then 0 else 1) < 30))=true:=by rfl)
  (hline:(apos.endLine==cpos.line)=true:=by rfl) (hst:starEach [e] X.env=(false,eval e X.env)::starEach [] X.env:=by rfl) (hplain:(backTo cpos (starEach [] X.env)).any (·.1)=false:=by rfl) :
  JS X (.Expr (.Call (.Attribute (.Name x px) "append" apos) [e] [] cpos) pos) (sApp i w):=by
 refine ps_of (ps_expr (pe_bm PySem.F.plainAttrs_list PySem.F.slot_list_append PySem.F.type_list_append mt_append hv (pa_cons he pa_nil hst) hbase hfew hline hst hplain) hs) fun D σ H ⟨τ,D0,R,hw,k,_⟩=>?_
 unfold sApp at hw
 cases own:sget τ i with
 | no=>rw[own]at hw;exact hw.elim
 | val t=>rw[own]at hw;exact hw.elim
 | see t=>rw[own]at hw;exact hw.elim
 | dic t=>rw[own]at hw;exact hw.elim
 | vat t v=>rw[own]at hw;exact hw.elim
 | own ts =>
  rw[own]at hw
  have sl:=R.slot i
  rw[own]at sl
  obtain⟨p,vs,ev,hp,rr,n0⟩:=sl
  refine⟨.ref p,ev,.inl ⟨rfl,vs,SqL.of hp⟩,τ,_,R,hw,fun t v H' S r q=>?_⟩
  refine⟨p,vs,v,rfl,rfl,S _ _ hp,by rw[rr.length];exact small1000 (Nat.le_of_lt q.1),?_⟩
  exact k _ _ _ ((Kp.of S).trans (Kp.write (S _ _ hp) _)) ((R.mono S).write own ev (S _ _ hp) ((rr.kp (.of S)).append (.one r))) q.2
def sFrz(i:Nat)(t:WS):WS:=fun D τ=>match sget τ i with
 | .own ts=>t D (sput τ i (.val (.lst ts)))
 | _=>False
theorem Inv.freeze{pins:List (Addr×Obj)}{σ:St}{H:Hp}{s:Shared}{p:Addr}{xs:List V}(I:Inv X pins σ H s)(h:H p=some (.lst xs)):∃o,Inv X pins σ (upd H p (.frz o (.lst xs))) s:=by
 obtain⟨z,its,n,r,e⟩:=I.hok p _ h
 refine⟨{cls:=.type "list", data:=.seq its.toArray n},?_⟩
 have ne:∀{b:Addr}{o:HO},H b=some o->o ≠ .lst xs->b≠p:=fun q d z=>by subst z;rw[h]at q;cases q;exact d rfl
 have nn:∀{b:Addr},H b=none->b≠p:=fun q z=>by subst z;rw[h]at q;cases q
 have u:Un X.fs [] H (upd H p (.frz {cls:=.type "list", data:=.seq its.toArray n} (.lst xs))) s.heap s.heap:=by
  refine⟨fun b o q _ _ _=>q,fun b o q _ _ _=>⟨o.slots,q⟩,fun b o _ q _=>by rw[upd_ne (nn q)];exact q,fun b o q _=>⟨o,q⟩,fun b ys q=>?_,fun b o' u' q=>?_,fun b ps q=>⟨#[],?_⟩⟩
  ·rw[upd_ne (by rintro rfl;rw[h]at q;cases q)];exact q
  ·rw[upd_ne (by rintro rfl;rw[h]at q;cases q)];exact q
  ·rw[upd_ne (by rintro rfl;rw[h]at q;cases q),q];simp
 have hok:HOk X.prog X.w (upd H p (.frz {cls:=.type "list", data:=.seq its.toArray n} (.lst xs))) s.heap:=fun b ob q=>by
  by_cases hb:b=p
  ·subst hb
   rw[upd_same]at q
   cases q
   exact⟨e,z,its,n,r,e⟩
  ·rw[upd_ne hb]at q
   refine(I.hok b ob q).stay (fun c v _ q=>q) (fun c q=>?_) fun c ys q=>?_
   ·rw[upd_ne (by rintro rfl;rw[h]at q;cases q)];exact q
   ·rw[upd_ne (by rintro rfl;rw[h]at q;cases q)];exact q
 have:=I.un (h':=s.heap) (t':=s.toks) u hok
 exact this
theorem jfrz(i:Nat){sts:List Stmt}(h:JSs X sts t):JSs X sts (sFrz i t):=by
 intro pins s σ H D I hw
 obtain⟨τ,D0,R,hw,kn,kr,kb,kc⟩:=hw
 unfold sFrz at hw
 cases own:sget τ i with
 | no=>rw[own]at hw;exact hw.elim
 | val t=>rw[own]at hw;exact hw.elim
 | see t=>rw[own]at hw;exact hw.elim
 | dic t=>rw[own]at hw;exact hw.elim
 | vat t v=>rw[own]at hw;exact hw.elim
 | own ts =>
  rw[own]at hw
  have sl:=R.slot i
  rw[own]at sl
  obtain⟨p,vs,ev,hp,rr,n0⟩:=sl
  obtain⟨o,I'⟩:=Inv.freeze I hp
  have K1:=Kp.write hp (.frz o (.lst vs))
  exact h pins s σ _ D I' ⟨_,D0,R.freeze own ev hp rr,hw,fun τ2 σ2 H2 K2 R2 q2=>kn τ2 σ2 H2 (K1.trans K2) R2 q2,kr,fun τ2 σ2 H2 K2 R2 q2=>kb τ2 σ2 H2 (K1.trans K2) R2 q2,fun τ2 σ2 H2 K2 R2 q2=>kc τ2 σ2 H2 (K1.trans K2) R2 q2⟩
abbrev TGt:=T->List Slot->(List Slot->Prop)->Prop
abbrev TGts:=List T->List Slot->(List Slot->Prop)->Prop
def upG(K:PySem.W.Frag)(H0:Hp)(g:TGt):TG:=fun v σ H Q=>∃(t:T) (τ:List Slot) (Q0:List Slot->Prop),RepSt K H0 H σ τ/\Rep K H t v/\g t τ Q0/\∀τ' σ' H',Same H H'->RepSt K H0 H' σ' τ'->Q0 τ'->Q σ' H'
def upGs(K:PySem.W.Frag)(H0:Hp)(g:TGts):TGs:=fun vs σ H Q=>∃(ts:List T) (τ:List Slot) (Q0:List Slot->Prop),RepSt K H0 H σ τ/\Reps K H ts vs/\g ts τ Q0/\∀τ' σ' H',Same H H'->RepSt K H0 H' σ' τ'->Q0 τ'->Q σ' H'
def JG(X:Cx)(tg:Expr)(g:TGt):Prop:=PG X tg (upG X.K X.H₀ g)
def JGs(X:Cx)(tgs:List Expr)(g:TGts):Prop:=PGs X tgs (upGs X.K X.H₀ g)
theorem pg_of{tg:Expr}{t t':TG}(h:PG X tg t)(f:∀v σ H Q,t' v σ H Q->t v σ H Q):PG X tg t':=fun pins s σ H v u Q I r hw=>h pins s σ H v u Q I r (f v σ H Q hw)
theorem pgs_of{tg:List Expr}{t t':TGs}(h:PGs X tg t)(f:∀v σ H Q,t' v σ H Q->t v σ H Q):PGs X tg t':=fun pins s σ H v u Q I r hw=>h pins s σ H v u Q I r (f v σ H Q hw)
def gN(i:Nat):TGt:=fun t τ Q=>Q (sput τ i (.val t))
theorem jg{i:Nat}{x:Str}(hN:X.N.Nodup)(hi:X.N[i]?=some x)(hx:Loc X.env.scope x)(hf:X.fn x=true∨X.env.scope.names.lookup x=some .local:=by first|exact .inl rfl|exact .inr rfl|assumption):JG X (.Name x pos) (gN i) :=
 pg_of (pg_name hN hi hx hf) fun v σ H Q ⟨t,τ,Q0,R,r,hw,k⟩=>k _ _ H (.refl H) (R.put r) hw
def gs0:TGts:=fun ts τ Q=>match ts with|[]=>Q τ|_=>False
def gsC(g:TGt)(gs:TGts):TGts:=fun ts τ Q=>match ts with|t::r=>g t τ fun τ'=>gs r τ' Q|[]=>False
theorem jgs0:JGs X [] gs0:=pgs_of pgs_nil fun vs σ H Q ⟨ts,τ,Q0,R,r,hw,k⟩=>by
 cases ts with
 | nil=>exact⟨reps_nil.mp r,k τ σ H (.refl H) R hw⟩
 | cons t r=>exact hw.elim
theorem jgsc{e:Expr}{es:List Expr}{g:TGt}{gs:TGts}(h1:JG X e g)(h2:JGs X es gs)(hs:(assignEach (e::es) X.env).map (·.2)=assign e X.env::(assignEach es X.env).map (·.2):=by rfl):JGs X (e::es) (gsC g gs) :=
 pgs_of (pgs_cons h1 h2 hs) fun vs σ H Q ⟨ts,τ,Q0,R,r,hw,k⟩=>by
  cases ts with
  | nil=>exact hw.elim
  | cons t ts =>
   rw[reps_cons]at r
   obtain⟨v,vr,e1,r1,r2⟩:=r
   exact⟨v,vr,e1,t,τ,_,R,r1,hw,fun τ1 σ1 H1 S1 R1 q1=>⟨ts,τ1,Q0,R1,r2.kp (.of S1),q1,fun τ2 σ2 H2 S2 R2 q2=>k τ2 σ2 H2 (S1.trans S2) R2 q2⟩⟩
theorem draw_list{prog:Program}{w:World}{A:Around}{E:Value->Shared->Prop}{it l:Addr}{items:Array Value}(hne:l≠it):∀(n i:Nat)(s:Shared)(Q:List Value->Shared->Prop),s.heap.IsListIter it l i->s.heap.IsList l items->i + n<=items.size →
  (∀h',h'.IsListIter it l (i + n)->Heap.SameBut it s.heap h'->Q ((items.toList.drop i).take n) {s with heap:=h' })->wpAny (model prog w) A (draw (.ref it) n) Q E s
 | 0,i,s,Q,hit,_,_,hQ=>by
  show wpAny _ _ (pure []) Q E s
  exact wpAny_pure (by simpa using hQ s.heap hit (Heap.SameBut.refl ..))
 | n + 1,i,s,Q,hit,ht,hle,hQ=>by
  have hlt:i < items.size:=by omega
  show wpAny _ _ (pyNext (.ref it) >>= _) Q E s
  refine wpAny_bind (wpAny_pyNext_list_item hit ht (x:=items[i]) (by simp[hlt]) fun h₁ hit₁ hs₁=>?_)
  refine wpAny_bind (wpAny_holding (draw_list hne n (i + 1) _ _ hit₁ (ht.extBut hs₁.extBut hne) (by omega) fun h₂ hit₂ hs₂=>wpAny_pure ?_))
  have hd:items.toList.drop i=items[i]::items.toList.drop (i + 1):=by simp[List.drop_eq_getElem_cons,hlt]
  have:=hQ h₂ (by rw[show i + (n + 1)=i + 1 + n by omega];exact hit₂) (hs₁.trans hs₂)
  rw[hd,List.take_succ_cons]at this
  exact this
theorem unpackItems_list{prog:Program}{w:World}{A:Around}{E:Value->Shared->Prop}{s:Shared}{t:Addr}{items:Array Value}{Q:List Value->Shared->Prop}(hh:A.handled=none)(ht:s.heap.IsList t items)
  (hQ:∀h',Heap.ExtBut s.heap.objs.size s.heap h'->Q items.toList {s with heap:=h' }):wpAny (model prog w) A (unpackItems (.ref t) items.size none) Q E s:=by
 have hlt:t≠s.heap.objs.size:=by obtain⟨o,ho,_⟩:=ht;exact Nat.ne_of_lt (Heap.lt_size ho)
 unfold unpackItems
 refine wpAny_bind ?_
 ·unfold notIterableAtAll
  refine wpAny_bind (wpAny_specialOf ht.typeIs slot_list_iter.lookup ?_)
  refine wpAny_pure ?_
  simp only[Bool.false_eq_true,if_false]
  refine wpAny_bind (wpAny_holding (wpAny_pyIter_list ht ?_))
  have htp:(s.heap.push {cls:=.type "list_iterator", data:=.fields #[.ref t,.int 0 0]}).IsList t items:=by
   obtain⟨o,ho,r⟩:=ht
   exact⟨o,Heap.get?_push_of_some _ ho,r⟩
  refine wpAny_bind (wpAny_holding (draw_list hlt items.size 0 _ _ ⟨_,Heap.get?_push_size _ rfl,rfl,rfl⟩ htp (by omega) fun h₁ hit₁ hs₁=>?_))
  have hall:List.take items.size (List.drop 0 items.toList)=items.toList:=by
   rw[List.drop_zero];exact List.take_of_length_le (by simp)
  rw[hall]
  rw[if_neg (by simp)]
  have ht₁:h₁.IsList t items:=htp.extBut hs₁.extBut hlt
  refine wpAny_bind (wpAny_holding (wpAny_pyNext_list_end hh hit₁ ht₁ (by simp) fun h₂ he₂=>?_))
  simp only[Option.isSome_none,Bool.false_eq_true,if_false]
  refine wpAny_pure (hQ h₂ fun b o hb e=>he₂ b o hb (hs₁.extBut b o hb (Heap.get?_push_of_some _ e)))
theorem assign_Tuple_list{prog:Program}{w:World}{A:Around}{E:Value->Shared->Prop}{s:Shared}{env:Env}{elts:List Expr}{x1}{pos:Pos}{t:Addr}{items:Array Value}{Q:Unit->Shared->Prop}(hh:A.handled=none)(ht:s.heap.IsList t items)
  (hn:(assignEach elts env).length=items.size) (hstar:(assignEach elts env).findIdx? (·.1)=none)
  (h:∀h',Heap.ExtBut s.heap.objs.size s.heap h'->wpAny (model prog w) A (assignInOrder ((assignEach elts env).map (·.2)) items.toList) Q E {s with heap:=h' }) :
  wpAny (model prog w) A (assign (.Tuple elts x1 pos) env (.ref t)) Q E s:=by
 rw[assign_Tuple]
 refine wpAny_bind (wpAny_standAt ?_)
 unfold unpack
 rw[hn,hstar]
 exact wpAny_bind (wpAny_holding (unpackItems_list hh ht h))
def gT(n:Nat)(gs:TGts):TGt:=fun t τ Q=>match t with
 | .tup ts=>ts.length=n/\gs ts τ Q
 | .lst ts=>ts.length=n/\gs ts τ Q
 | _=>False
theorem jgt{es:List Expr}{k:Nat}{gs:TGts}{n:Nat}(hc:X.calm=true)(h:JGs X es gs)(hn:(assignEach es X.env).length=n:=by rfl)(hst:(assignEach es X.env).findIdx? (·.1)=none:=by rfl):JG X (.Tuple es k pos) (gT n gs):=by
 intro pins s σ H v u Q I r hw
 obtain⟨t,τ,Q0,R,rt,hw,kk⟩:=hw
 cases t<;>first|exact hw.elim|skip
 ·rename_i ts
  rw[rep_tup]at rt
  obtain⟨p,vs,rfl,sq,rr⟩:=rt
  cases r
  obtain⟨its,rv,ht,hz⟩:=I.tuple sq
  refine assign_Tuple_tuple (I.ok.hd hc) ht (by simp[hn,← hw.1,← rr.length,rv.length]) hst fun h' hx=>?_
  have I1:Inv X pins σ H {s with heap:=h' }:=I.kept (t':=s.toks) fun b o e=>hx b o (Nat.ne_of_lt (Heap.lt_size e)) e
  exact h pins _ σ H vs _ Q I1 (by simpa using rv) ⟨ts,τ,Q0,R,rr,hw.2,kk⟩
 ·rename_i ts
  rw[rep_lst]at rt
  obtain⟨p,vs,rfl,sq,rr⟩:=rt
  cases r
  obtain⟨its,rv,ht,hz⟩:=I.list sq.sq
  refine assign_Tuple_list (I.ok.hd hc) ht.isList (by simp[hn,← hw.1,← rr.length,rv.length]) hst fun h' hx=>?_
  have I1:Inv X pins σ H {s with heap:=h' }:=I.kept (t':=s.toks) fun b o e=>hx b o (Nat.ne_of_lt (Heap.lt_size e)) e
  exact h pins _ σ H vs _ Q I1 (by simpa using rv) ⟨ts,τ,Q0,R,rr,hw.2,kk⟩
def sAsg(g:TGt)(w:WE):WS:=fun D τ=>w τ fun t=>g t τ D.nx
theorem jasg{tg:Expr}{g:TGt}(hg:JG X tg g)(he:JE X e w)(hs:swapsWithSole [tg] e pos.line X.env=pure false:=by rfl)(hw:swappedStores [tg] e X.env=pure none:=by rfl)
  (h1:(assignEach [tg] X.env).map (·.2)=[assign tg X.env]:=by rfl):JS X (.Assign [tg] e pos) (sAsg g w) :=
 ps_of (ps_asg he hg hs hw h1) fun D σ H ⟨τ,D0,R,hw,k,_⟩=>⟨τ,_,R,hw,fun t v H' S r q=>⟨t,τ,_,R.mono S,r,q,fun τ' σ' H2 S2 R2 q2=>k τ' σ' H2 (.of (S.trans S2)) R2 q2⟩⟩
def sPar(i j:Nat)(ws:WA):WS:=fun D τ=>ws τ fun ts=>match ts with|[x,y]=>D.nx (sput (sput τ i (.val x)) j (.val y))|_=>False
theorem jpar{i j:Nat}{x y:Str}{px py pt:Pos}{kt k2 pt2}(hc:X.calm=true)(hN:X.N.Nodup)(hi:X.N[i]?=some x)(hj:X.N[j]?=some y)(hij:i≠j)
  (hx:X.env.scope.names.lookup x=some .local) (hy:X.env.scope.names.lookup y=some .local) (ha:JA X [a,b] ws)
  (hw:swappedStores [.Tuple [.Name x px,.Name y py] kt pt] (.Tuple [a,b] k2 pt2) X.env=pure (some [x,y]))
  (hs:swapsWithSole [.Tuple [.Name x px,.Name y py] kt pt] (.Tuple [a,b] k2 pt2) pos.line X.env=pure false:=by rfl) :
  JS X (.Assign [.Tuple [.Name x px,.Name y py] kt pt] (.Tuple [a,b] k2 pt2) pos) (sPar i j ws) :=
 ps_of (ps_par hc hN hi hj hij hx hy ha hw hs) fun D σ H ⟨τ,D0,R,hw,k,_⟩=>⟨τ,_,R,hw,fun ts vs H' S r q=>by
  unfold sPar at hw
  match ts,r,q with
  | [x,y],r,q =>
   obtain⟨v,v',rfl,r1,r2⟩:=reps2 r
   exact⟨v,v',rfl,k _ _ H' (.of S) (((R.mono S).put r1).put r2) q⟩
  | [],_,q=>exact q.elim
  | [_],_,q=>exact q.elim
  | _::_::_::_,_,q=>exact q.elim⟩
def sWhile(ua:WT)(t:WS):WS:=fun D τ=>∃I:Nat->List Slot->Prop,(∃m,I m τ)/\∀m τ,I m τ->ua τ fun k =>
 (k=true->t {D with nx:=fun τ'=>∃m',m' < m/\I m' τ',ct:=fun τ'=>∃m',m' < m/\I m' τ',bk:=D.nx} τ)/\(k=false->D.nx τ)
theorem jwhile{c:Expr}{body:List Stmt}(hp:PassesOwn (model X.prog X.w) X.A X.env X.xe)(hc:JT X c ua)(hb:JSs X body t):JS X (.While c body [] pos) (sWhile ua t) :=
 ps_of (ps_while hp hc hb) fun D σ H ⟨τ,D0,R,⟨I,⟨m0,h0⟩,turn⟩,kn,kr,kb,kc⟩=>by
  refine⟨fun m σ' H'=>∃τ',RepSt X.K X.H₀ H' σ' τ'/\Kp H H'/\I m τ',⟨m0,τ,R,.refl H,h0⟩,fun m σ1 H1 ⟨τ1,R1,K1,i1⟩=>?_⟩
  refine⟨τ1,_,R1,turn m τ1 i1,fun k H2 S2 q=>?_⟩
  cases k with
  | true =>
   rw[if_pos rfl]
   have K2:=K1.trans (.of S2)
   have nx:∀τ' σ' H',Kp H2 H'->RepSt X.K X.H₀ H' σ' τ'->(∃m',m' < m/\I m' τ')->∃m',m' < m/\∃τ',RepSt X.K X.H₀ H' σ' τ'/\Kp H H'/\I m' τ':=fun τ' σ' H' K3 R3 ⟨m',lt,i3⟩=>⟨m',lt,τ',R3,K2.trans K3,i3⟩
   exact⟨fun σ' H'=>∃m',m' < m/\∃τ',RepSt X.K X.H₀ H' σ' τ'/\Kp H H'/\I m' τ',fun σ' H' z=>z,τ1,_,R1.mono S2,q.1 rfl,nx,kr,fun τ' σ' H' K3 R3 q3=>kn τ' σ' H' (K2.trans K3) R3 q3,nx⟩
  | false =>
   rw[if_neg Bool.false_ne_true]
   exact kn τ1 σ1 H2 (K1.trans (.of S2)) (R1.mono S2) (q.2 rfl)
abbrev WI:=List Slot->(List T->Prop)->Prop
def Wk(K:PySem.W.Frag)(J:It)(ts:List T)(H1:Hp):Prop:=∀H2,Kp H1 H2->(∀i t,ts[i]?=some t->J.go i H2/\∀x H3,J.yld i H2 x H3->Same H2 H3/\Rep K H3 t x)/\J.stop ts.length H2
def upI(K:PySem.W.Frag)(H0:Hp)(w:WI):TI:=fun σ H R=>∃(τ:List Slot) (Q0:List T->Prop),RepSt K H0 H σ τ/\w τ Q0/\∀ts J H',Same H H'->Wk K J ts H'->Q0 ts->R J H'
def JI(X:Cx)(tg iter:Expr)(w:WI):Prop:=PI X tg iter (upI X.K X.H₀ w)
theorem pi_of{tg iter:Expr}{t t':TI}(h:PI X tg iter t)(f:∀σ H R,t' σ H R->t σ H R):PI X tg iter t':=fun pins s σ H R I hw=>h pins s σ H R I (f σ H R hw)
def forT(g:TGt)(t:WS):List T->WS
 | [],D,τ=>D.nx τ
 | x::xs,D,τ=>g x τ fun τ1=>t {D with nx:=forT g t xs D,ct:=forT g t xs D,bk:=D.nx} τ1
def sFor(wi:WI)(g:TGt)(t:WS):WS:=fun D τ=>wi τ fun ts=>forT g t ts D τ
theorem jfor{tg iter:Expr}{body:List Stmt}{wi:WI}{g:TGt}(hp:PassesOwn (model X.prog X.w) X.A X.env X.xe)(hc:X.calm=true)(hi:JI X tg iter wi)(hg:JG X tg g)(hb:JSs X body t)
  (hs:∀x,foldedSetIterable iter X.env x=pure x:=by intro _;rfl):JS X (.For tg iter body [] pos) (sFor wi g t) :=
 ps_of (ps_for hp hc hi hg hb hs) fun D σ H ⟨τ,D0,R,hw,kn,kr,kb,kc⟩=>by
  refine⟨τ,_,R,hw,fun ts J H1 S1 wk q=>?_⟩
  have K0:=Kp.of S1
  refine⟨fun i m σ' H'=>m=ts.length - i/\i<=ts.length/\∃τ',RepSt X.K X.H₀ H' σ' τ'/\Kp H1 H'/\forT g t (ts.drop i) D0 τ',⟨ts.length,by simp,Nat.zero_le _,τ,R.mono S1,.refl H1,by simpa using q⟩,?_⟩
  rintro i m σ2 H2 ⟨rfl,hi,τ2,R2,K2,q2⟩
  obtain⟨wi,ws⟩:=wk H2 K2
  by_cases hlt:i < ts.length
  ·refine .inr ?_
   have ei:ts[i]?=some ts[i]:=List.getElem?_eq_getElem hlt
   obtain⟨go,yl⟩:=wi i _ ei
   rw[List.drop_eq_getElem_cons hlt]at q2
   refine⟨go,fun σ' H'=>∃τ',RepSt X.K X.H₀ H' σ' τ'/\Kp H1 H'/\forT g t (ts.drop (i + 1)) D0 τ',fun σ' H' ⟨τ',R',K',q'⟩=>⟨ts.length - (i + 1),by omega,rfl,hlt,τ',R',K',q'⟩,fun x H3 y=>?_⟩
   obtain⟨S3,r3⟩:=yl x H3 y
   refine⟨ts[i],τ2,_,R2.mono S3,r3,q2,fun τ4 σ4 H4 S4 R4 q4=>?_⟩
   have K4:=K2.trans (.of (S3.trans S4))
   have nx:∀τ' σ' H',Kp H4 H'->RepSt X.K X.H₀ H' σ' τ'->forT g t (ts.drop (i + 1)) D0 τ'->∃τ',RepSt X.K X.H₀ H' σ' τ'/\Kp H1 H'/\forT g t (ts.drop (i + 1)) D0 τ':=fun τ' σ' H' K5 R5 q5=>⟨τ',R5,K4.trans K5,q5⟩
   exact⟨τ4,_,R4,q4,nx,kr,fun τ' σ' H' K5 R5 q5=>kn τ' σ' H' (K0.trans (K4.trans K5)) R5 q5,nx⟩
  ·have e:i=ts.length:=by omega
   subst e
   rw[List.drop_length]at q2
   exact .inl ⟨ws,kn τ2 σ2 H2 (K0.trans K2) R2 q2⟩
def iSeq(w:WE):WI:=fun τ Q=>w τ fun t=>match t with
 | .tup ts=>Q ts
 | .lst ts=>Q ts
 | _=>False
theorem jiSeq{tg l:Expr}(h:JE X l w):JI X tg l (iSeq w):=by
 intro pins s σ H R I hw
 obtain⟨τ,Q0,Rs,hw,k⟩:=hw
 refine thn (h pins s σ H (fun v H1=>∃t,Same H H1/\Rep X.K H1 t v/\(match t with | .tup ts=>Q0 ts | .lst ts=>Q0 ts|_=>False)) I ⟨τ,_,Rs,hw,fun t v H1 S r q=>⟨t,S,r,q⟩⟩) fun v s1 ⟨x,H1,I1,r1,t,S1,rt,q1⟩=>?_
 cases t<;>first|exact q1.elim|skip
 ·rename_i ts
  rw[rep_tup]at rt
  obtain⟨a,vs,rfl,hq,rr⟩:=rt
  cases r1
  obtain⟨its,rv,p,hz⟩:=I1.tuple hq
  refine wpAny_pyIter_tuple (show s1.heap.IsTuple a its.toArray from p) ?_
  refine⟨s1.heap.objs.size,[s1.heap.objs.size],_,_,H1,rfl,I1.kept (t':=s1.toks) fun b o e=>Heap.get?_push_of_some _ e,turn_tuple a _,⟨_,Heap.get?_push_size _ rfl,rfl,rfl⟩,fun b hb=>?_,k ts (Itt X.K a) H1 S1 ?_ q1⟩
  ·have e:b=s1.heap.objs.size:=by simpa using hb
   subst e
   exact I1.fpOk (Nat.le_refl _) (I1.hok.fresh (Nat.le_refl _))
  ·intro H2 K2
   have sq2:=sqT_kp K2 hq
   refine⟨fun i t ei=>?_,⟨vs,sq2,by rw[rr.length];exact Nat.le_refl _⟩⟩
   obtain⟨v,ev,rv⟩:=rr.get ei
   refine⟨⟨vs,v,sq2,ev⟩,fun x H3 y=>?_⟩
   obtain⟨rfl,y⟩:=y
   have z:=y vs sq2
   rw[ev]at z
   cases z
   exact⟨.refl _,rv.kp K2⟩
 ·rename_i ts
  rw[rep_lst]at rt
  obtain⟨a,vs,rfl,hq,rr⟩:=rt
  cases r1
  obtain⟨its,rv,p,hz⟩:=I1.list hq.sq
  refine wpAny_pyIter_list p.isList ?_
  refine⟨s1.heap.objs.size,[s1.heap.objs.size],_,_,H1,rfl,I1.kept (t':=s1.toks) fun b o e=>Heap.get?_push_of_some _ e,turn_list a _,⟨_,Heap.get?_push_size _ rfl,rfl,rfl⟩,fun b hb=>?_,k ts (Itl X.K a) H1 S1 ?_ q1⟩
  ·have e:b=s1.heap.objs.size:=by simpa using hb
   subst e
   exact I1.fpOk (Nat.le_refl _) (I1.hok.fresh (Nat.le_refl _))
  ·intro H2 K2
   have sq2:=(sqF_kp K2 hq).sq
   refine⟨fun i t ei=>?_,⟨vs,sq2,by rw[rr.length];exact Nat.le_refl _⟩⟩
   obtain⟨v,ev,rv⟩:=rr.get ei
   refine⟨⟨vs,v,sq2,ev⟩,fun x H3 y=>?_⟩
   obtain⟨rfl,y⟩:=y
   have z:=y vs sq2
   rw[ev]at z
   cases z
   exact⟨.refl _,rv.kp K2⟩
def rangeT:Int->Nat->List T
 | _,0=>[]
 | lo,n + 1=>.int lo::rangeT (lo + 1) n
theorem rangeT_length:∀(lo:Int)(n:Nat),(rangeT lo n).length=n
 | _,0=>rfl
 | lo,n + 1=>by simp[rangeT,rangeT_length (lo + 1) n]
theorem rangeT_get:∀(lo:Int)(n i:Nat),i < n->(rangeT lo n)[i]?=some (.int (lo + i))
 | _,0,_,h=>by omega
 | lo,n + 1,0,_=>by simp[rangeT]
 | lo,n + 1,i + 1,h=>by
  simp only[rangeT,List.getElem?_cons_succ]
  rw[rangeT_get (lo + 1) n i (by omega)]
  congr 2
  push_cast
  omega
theorem wk_range{K:PySem.W.Frag}{H:Hp}(lo:Int)(n:Nat):Wk K (Itr lo n) (rangeT lo n) H:=by
 intro H2 _
 refine⟨fun i t ei=>?_,by show n<=_;rw[rangeT_length];exact Nat.le_refl _⟩
 have hi:i < n:=by
  have:=(List.getElem?_eq_some_iff.mp ei).1
  rwa [rangeT_length]at this
 rw[rangeT_get lo n i hi]at ei
 cases ei
 refine⟨hi,fun x H3 y=>?_⟩
 obtain⟨rfl,rfl⟩:=y
 exact⟨.refl _,rep_int.mpr rfl⟩
def iRange1(ws:WA):WI:=fun τ Q=>ws τ fun ts=>match ts with
 | [.int j]=>(-(2 ^ 62)<=j/\j < 2 ^ 62)/\Q (rangeT 0 j.toNat)
 | _=>False
theorem one_int{P:Int->Prop}{ts:List T}(h:match ts with|[.int j]=>P j|_=>False):∃j,ts=[.int j]/\P j:=by
 split at h
 ·exact⟨_,rfl,h⟩
 ·exact h.elim
theorem two_int{P:Int->Int->Prop}{ts:List T}(h:match ts with|[.int i,.int j]=>P i j|_=>False):∃i j,ts=[.int i,.int j]/\P i j:=by
 split at h
 ·exact⟨_,_,rfl,h⟩
 ·exact h.elim
theorem jiRange1{tg:Expr}{p:Pos} (hg:Gl X "range") (hm:X.mg "range" = none) (ha:JA X [a] ws) (hs:starEach [a] X.env=[(false,eval a X.env)]:=by rfl):JI X tg (.Call (.Name "range" p) [a] [] pos) (iRange1 ws) :=
 pi_of (pi_range1 hg hm ha hs) fun σ H R ⟨τ,Q0,Rs,hw,k⟩=>⟨τ,_,Rs,hw,fun ts vs H1 S1 r q=>by
   obtain⟨j,e0,q⟩:=one_int (P:=fun j=>(-(2 ^ 62)<=j/\j < 2 ^ 62)/\Q0 (rangeT 0 j.toNat)) q
   subst e0
   obtain⟨v,rfl,r1⟩:=reps1 r
   exact⟨j,by rw[rep_int.mp r1],q.1.1,q.1.2,k _ _ H1 S1 (wk_range 0 j.toNat) q.2⟩⟩
def iRange2(ws:WA):WI:=fun τ Q=>ws τ fun ts=>match ts with
 | [.int i,.int j]=>(-(2 ^ 62)<=i/\i < 2 ^ 62 /\ -(2 ^ 62)<=j/\j < 2 ^ 62)/\Q (rangeT i (j - i).toNat)
 | _=>False
theorem jiRange2{tg:Expr}{p:Pos} (hg:Gl X "range") (hm:X.mg "range" = none) (ha:JA X [a,b] ws) (hs:starEach [a,b] X.env=[(false,eval a X.env),(false,eval b X.env)]:=by rfl) (hs2:starEach [b] X.env=[(false,eval b X.env)]:=by rfl) :
  JI X tg (.Call (.Name "range" p) [a,b] [] pos) (iRange2 ws) :=
 pi_of (pi_range2 hg hm ha hs hs2) fun σ H R ⟨τ,Q0,Rs,hw,k⟩=>⟨τ,_,Rs,hw,fun ts vs H1 S1 r q=>by
   obtain⟨i,j,e0,q⟩:=two_int (P:=fun i j=>(-(2 ^ 62)<=i/\i < 2 ^ 62 /\ -(2 ^ 62)<=j/\j < 2 ^ 62)/\Q0 (rangeT i (j - i).toNat)) q
   subst e0
   obtain⟨v,v',rfl,r1,r2⟩:=reps2 r
   exact⟨i,j,by rw[rep_int.mp r1,rep_int.mp r2],q.1,k _ _ H1 S1 (wk_range i (j - i).toNat) q.2⟩⟩
end
end TL
end
section
namespace TL
open PySem PySem.Spec PyProof.Rows L2
section
variable {X:Cx} {pins:List (Addr×Obj)} {σ:St} {H:Hp} {s:Shared} {h':Heap}
theorem Inv.turnedT{t':Nat}{ch:List Addr}{p:Addr}{xs:List V}{us:List Value}(I:Inv X pins σ H s)(k:∀b o,b∉ch->s.heap.get? b=some o->h'.get? b=some o)(kt:∀b∈ch,∃o,h'.get? b=some o)
  (hch:∀b∈ch,FpOk X pins H b) (hp:s.heap.objs.size<=p) (hz:xs.length<=sizeLine) (r:Vals xs us) (ht:IsTup h' p us.toArray):Inv X pins σ (upd H p (.tup xs)) {s with heap:=h',toks:=t' }:=by
 have hpn:H p=none:=I.hok.fresh hp
 have nch:∀b u,H b=some u->b∉ch:=fun b u e z=>by rw[(hch b z).1]at e;cases e
 have nep:∀b u,H b=some u->b≠p:=fun b u e z=>by subst z;rw[hpn]at e;cases e
 have nlt:∀b o,s.heap.get? b=some o->b≠p:=fun b o e=>Nat.ne_of_lt (Nat.lt_of_lt_of_le (Heap.lt_size e) hp)
 refine I.step (g':=s.gens) (d':=s.drawn) (ch:=ch) (fun b hb=>?_) (fun b o _ _ hc e _=>k b o hc e) (fun b o _ _ hc e _=>⟨o.slots,k b o hc e⟩) (fun b o _ e n=>by rw[upd_ne (nlt b o e)];exact n)
  (fun b o hc e=>⟨o,k b o hc e⟩) (fun b ys e=>by rw[upd_ne (nep b _ e)];exact e) (fun b o u e=>by rw[upd_ne (nep b _ e)];exact e) (fun b ps e=>⟨#[],by rw[upd_ne (nep b _ e),e];simp⟩) (fun m hm=>?_) (fun b u e=>?_) I.bare
 ·obtain⟨f0,f1,f2,f3,f4,f5⟩:=hch b hb
  exact⟨f3,f1,f4,f5⟩
 ·obtain⟨o,es,ep,ho,r⟩:=hm
  exact⟨o,es,ep,k _ o (fun z=>(hch _ z).2.1 rfl) ho,r⟩
 ·by_cases hb:b=p
  ·subst hb
   rw[upd_same]at e
   cases e
   exact⟨hz,us,r,ht⟩
  ·rw[upd_ne hb]at e
   refine(I.hok b u e).stay (fun c v hc q=>k c v ?_ q) (fun c q=>by rw[upd_ne (nep c _ q)];exact q) fun c ys q=>by rw[upd_ne (nep c _ q)];exact q
   rcases hc with z|z
   ·rw[z];exact nch b u e
   ·exact nch c _ z
theorem Inv.turnedL{t':Nat}{ch:List Addr}(I:Inv X pins σ H s)(k:∀b o,b∉ch->s.heap.get? b=some o->h'.get? b=some o)
  (hch:∀b∈ch,FpOk X pins H b):Inv X pins σ H {s with heap:=h',toks:=t' }:=by
 have nch:∀b u,H b=some u->b∉ch:=fun b u e z=>by rw[(hch b z).1]at e;cases e
 refine I.step (g':=s.gens) (d':=s.drawn) (ch:=ch) (fun b hb=>?_) (fun b o _ _ hc e _=>k b o hc e) (fun b o _ _ hc e _=>⟨o.slots,k b o hc e⟩) (fun b o _ e n=>n)
  (fun b o hc e=>⟨o,k b o hc e⟩) (fun b ys e=>e) (fun b o u e=>e) (fun b ps e=>⟨#[],by rw[e];simp⟩) (fun m hm=>?_) (fun b u e=>?_) I.bare
 ·obtain⟨f0,f1,f2,f3,f4,f5⟩:=hch b hb
  exact⟨f3,f1,f4,f5⟩
 ·obtain⟨o,es,ep,ho,r⟩:=hm
  exact⟨o,es,ep,k _ o (fun z=>(hch _ z).2.1 rfl) ho,r⟩
 ·refine(I.hok b u e).stay (fun c v hc q=>k c v ?_ q) (fun _ q=>q) fun _ _ q=>q
  rcases hc with z|z
  ·rw[z];exact nch b u e
  ·exact nch c _ z
end
def Ite(K:PySem.W.Frag)(a:Addr):It :=
 ⟨fun i H=>∃xs x,SqL K H a xs/\xs[i]?=some x,fun i H x H'=>∃p y,H p=none/\x=.ref p/\H'=upd H p (.tup [.int i,y])/\∀xs,SqL K H a xs->xs[i]?=some y,fun i H=>∃xs,SqL K H a xs/\xs.length<=i⟩
theorem turn_enum{P:Program}{w:World}{K:PySem.W.Frag}{elts:List Expr}{x1}{tp:Pos}(a it en:Addr)(hne:en≠it) :
  Turn P w K (.Tuple elts x1 tp) (Ite K a) [en,it] en (fun i h=>(∃old,IsEnum h en it i old)/\h.IsListIter it a i) where
 mem:=by simp
 obj:=fun i h st b hb=>by
  obtain⟨⟨old,he⟩,o,e,c,d⟩:=st
  rcases List.mem_cons.mp hb with rfl|hb
  ·exact⟨_,he,fun v z=>by cases z⟩
  ·have e':b=it:=by simpa using hb
   subst e'
   exact⟨o,e,fun v z=>by rw[d]at z;cases z⟩
 keep:=fun i h h' st k=>⟨let ⟨old,he⟩:=st.1;⟨old,k en (by simp) _ he⟩,st.2.at fun o e=>k it (by simp) o e⟩
 item:=by
  intro X hP hw hK hc i pins s σ H E I hf st hg
  subst hP hw hK
  obtain⟨⟨old,he⟩,hit⟩:=st
  obtain⟨xs,x,hq,hx⟩:=hg
  obtain⟨its,rv,p,hz⟩:=I.list hq
  obtain⟨u,hu,ru⟩:=rv.get hx
  refine wpAny_pyNext_enum_item he hit p.isList (x:=u) (by simpa using hu) hne fun h1 heo hit1 ht1 hz1 hk1=>⟨_,rfl,?_⟩
  refine wpAny_letOwnedTupleGo_enum heo fun h2 he2 hs2=>?_
  have hpn:H s.heap.objs.size=none:=I.hok.fresh (Nat.le_refl _)
  have lt:∀b∈[en,it],b < s.heap.objs.size:=fun b hb=>by
   rcases List.mem_cons.mp hb with rfl|hb
   ·exact Heap.lt_size he
   ·have e':b=it:=by simpa using hb
    subst e'
    obtain⟨o,e,_⟩:=hit
    exact Heap.lt_size e
  have ht2:IsTup h2 s.heap.objs.size [Value.int i s.toks,u].toArray:=⟨_,(hs2.2 _ (Nat.ne_of_gt (lt en (by simp)))).trans ht1,rfl,_,rfl⟩
  have I2:Inv X pins σ (upd H s.heap.objs.size (.tup [.int i,x])) {s with heap:=h2,toks:=s.toks + 1}:=by
   refine Inv.turnedT (ch:=[en,it]) I (fun b o hb e=>?_) (fun b hb=>?_) hf (Nat.le_refl _) (by show 2<=sizeLine;decide) (.cons ⟨_,rfl⟩ (.cons ru .nil)) ht2
   ·have n1:b≠en:=fun z=>hb (by simp[z])
    have n2:b≠it:=fun z=>hb (by simp[z])
    exact(hs2.2 b n1).trans (hk1 b o n1 n2 e)
   ·rcases List.mem_cons.mp hb with rfl|hb
    ·exact⟨_,he2⟩
    ·have e':b=it:=by simpa using hb
     subst e'
     obtain⟨o,e,_⟩:=hit1
     exact⟨o,(hs2.2 b (Ne.symm hne)).trans e⟩
  refine⟨.ref s.heap.objs.size,_,I2,rfl,⟨_,x,hpn,rfl,rfl,fun ys hy=>by rw[I.list_inj hy hq];exact hx⟩,⟨⟨u,?_⟩,?_⟩,fun b hb=>?_⟩
  ·exact he2
  ·obtain⟨o,e,r⟩:=hit1
   exact⟨o,(hs2.2 it (Ne.symm hne)).trans e,r⟩
  ·rw[upd_ne (Nat.ne_of_lt (lt b hb))]
   exact(hf b hb).1
 done:=by
  intro X hP hw hK hc i pins s σ H E I hf st hg
  subst hP hw hK
  obtain⟨⟨old,he⟩,hit⟩:=st
  obtain⟨xs,hq,hx⟩:=hg
  obtain⟨its,rv,p,hz⟩:=I.list hq
  have hl:=rv.length
  refine wpAny_pyNext_enum_end (I.ok.hd hc) he hit p.isList (by simp;omega) fun h1 eb=>⟨rfl,?_⟩
  refine Inv.turnedL (ch:=[en,it]) I (t':=s.toks) (fun b o hb e=>eb b o (fun z=>hb (by simp[z])) e) hf
 self:=fun _ _ _ _ _ st h=>let ⟨old,he⟩:=st.1;wpAny_pyIter_enum he h
def enumT:Nat->List T->List T
 | _,[]=>[]
 | i,x::xs=>.tup [.int i,x]::enumT (i + 1) xs
theorem enumT_length:∀(i:Nat)(ts:List T),(enumT i ts).length=ts.length
 | _,[]=>rfl
 | i,_::r=>by simp[enumT,enumT_length (i + 1) r]
theorem enumT_get:∀(ts:List T)(j i:Nat)(t:T),ts[i]?=some t->(enumT j ts)[i]?=some (.tup [.int ((j + i:Nat):Int),t])
 | [],_,_,_,h=>by simp at h
 | x::r,j,0,t,h=>by simp at h;subst h;simp[enumT]
 | x::r,j,i + 1,t,h=>by
  simp only[enumT,List.getElem?_cons_succ]
  rw[enumT_get r (j + 1) i t (by simpa using h)]
  congr 5
  omega
section
variable {X:Cx} {a:Expr} {wa w:WE} {ws:WA} {pos:Pos}
def iEnum(ws:WA):WI:=fun τ Q=>ws τ fun ts=>match ts with
 | [.lst xs]=>Q (enumT 0 xs)
 | _=>False
theorem one_lst{P:List T->Prop}{ts:List T}(h:match ts with|[.lst xs]=>P xs|_=>False):∃xs,ts=[.lst xs]/\P xs:=by
 split at h
 ·exact⟨_,rfl,h⟩
 ·exact h.elim
theorem jiEnum{elts:List Expr}{x1}{tp p:Pos} (hg:Gl X "enumerate") (hm:X.mg "enumerate" = none) (ha:JA X [a] ws) (hs:starEach [a] X.env=[(false,eval a X.env)]:=by rfl) :
  JI X (.Tuple elts x1 tp) (.Call (.Name "enumerate" p) [a] [] pos) (iEnum ws):=by
 intro pins s σ H R I hw
 obtain⟨τ,Q0,Rs,hw,k⟩:=hw
 refine Call_ (ld_blt I hg hm boot_enumerate (PyProof.Rows.callWith_type1 (thn (ha pos pins s σ H (fun vs H1=>∃ts,Same H H1/\Reps X.K H1 ts vs/\(match ts with|[.lst xs]=>Q0 (enumT 0 xs)|_=>False)) I ⟨τ,_,Rs,hw,fun ts vs H1 S r q=>⟨ts,S,r,q⟩⟩) fun us s1 ⟨vs,H1,I1,r1,ts,S1,rt,q1⟩=>?_) hs rfl))
 ·obtain⟨xs,e0,q1⟩:=one_lst (P:=fun xs=>Q0 (enumT 0 xs)) q1
  subst e0
  obtain⟨v,rfl,rt1⟩:=reps1 rt
  rw[rep_lst]at rt1
  obtain⟨l,vs,rfl,hq,rr⟩:=rt1
  obtain⟨u,rfl,ru⟩:=vals1 r1
  cases ru
  obtain⟨its,rv,pl,hz⟩:=I1.list hq.sq
  refine call_enumerate_list pl.isList fun h2 he hit hsz hk=>?_
  refine wpAny_pyIter_enum he ?_
  have I2:Inv X pins σ H1 {s1 with heap:=h2}:=I1.kept (t':=s1.toks) hk
  refine⟨s1.heap.objs.size + 1,[s1.heap.objs.size + 1,s1.heap.objs.size],_,Ite X.K l,H1,rfl,I2,turn_enum l s1.heap.objs.size (s1.heap.objs.size + 1) (Nat.succ_ne_self _),⟨⟨_,he⟩,hit⟩,fun b hb=>?_,k _ _ H1 S1 ?_ q1⟩
  ·have hb':s1.heap.objs.size<=b:=by
    rcases List.mem_cons.mp hb with rfl|hb
    ·exact Nat.le_succ _
    ·have e:b=s1.heap.objs.size:=by simpa using hb
     rw[e]
     exact Nat.le_refl _
   exact I1.fpOk hb' (I1.hok.fresh hb')
  ·intro H2 K2
   have sq2:=(sqF_kp K2 hq).sq
   refine⟨fun i t ei=>?_,⟨vs,sq2,by rw[rr.length,enumT_length];exact Nat.le_refl _⟩⟩
   have hi:i < xs.length:=by
    have:=(List.getElem?_eq_some_iff.mp ei).1
    rwa [enumT_length]at this
   have ex:xs[i]?=some xs[i]:=List.getElem?_eq_getElem hi
   rw[enumT_get xs 0 i _ ex]at ei
   cases ei
   obtain⟨v,ev,rv⟩:=rr.get ex
   refine⟨⟨vs,v,sq2,ev⟩,fun x H3 y=>?_⟩
   obtain⟨p,y,hp,rfl,rfl,hy⟩:=y
   have z:=hy vs sq2
   rw[ev]at z
   cases z
   refine⟨same_new hp _,rep_tup.mpr ⟨p,_,rfl,SqT.of upd_same,.cons (rep_int.mpr ?_) (.one ((rv.kp K2).kp (.of (same_new hp _))))⟩⟩
   simp
end
end TL
end
section
namespace TL
open PySem PySem.Spec PyProof.Rows L2
def Cal(P:Program)(w:World)(K:PySem.W.Frag)(mg:Str->Option Value)(base:Heap)(k:Nat)(x:Str)(ps:List Str)(S:SpT):Prop :=
 ∃f fd,FnT P w K mg base k f fd ps S/\Binds K fd ps []/\PySem.W.keepIn K (.ref f)=true/\mg x=some (.ref f)
theorem Cal.mk{P:Program}{w:World}{K:PySem.W.Frag}{mg:Str->Option Value}{base:Heap}{k:Nat}{x qual:Str}{ps:List Str}{S:SpT}{st:Stmt}{f:Addr}{fd:FuncData}(F:Fun K x qual st f fd)(m:mg x=some (.ref f))
  (b:Binds K fd ps []) (h:FnT P w K mg base k f fd ps S):Cal P w K mg base k x ps S:=⟨f,fd,h,b,F.kp,m⟩
section
variable {X:Cx} {a b c e:Expr} {es:List Expr} {wa wb wc w:WE} {ws:WA} {pos:Pos} {st:Stmt}
theorem jcallC{k:Nat}{ps:List Str}{S:SpT}{x:Str}{p:Pos}(C:Cal X.prog X.w X.K X.mg X.base k x ps S)(hr:Room k X.A)(hg:Gl X x)
  (ha:JA X (e::es) ws) (hdb:(x==("__debug__" : Str))=false:=by decide) (he:starEach (e::es) X.env=(false,eval e X.env)::starEach es X.env:=by exact star1 rfl)
  (hpl:(backTo pos (starEach es X.env)).any (·.1)=false:=by exact stars rfl):JE X (.Call (.Name x p) (e::es) [] pos) (wCall S ws):=by
 obtain⟨f,fd,F,hb,hk,hm⟩:=C
 exact jcall F hr hg hm hk hb ha hdb he hpl
def sNever:WS:=fun _ _=>False
theorem jnever:JS X st sNever:=ps_of ps_never fun D σ H ⟨τ,D0,R,hw,_⟩=>hw.elim
end
def lawSp:SpT:=fun ts Q=>∃ns:List Int,ts=[.lst (ns.map T.int)]/\ns.length<=63/\Q (.bl true)
theorem len_law:∀ts Q,lawSp ts Q->ts.length=1:=fun ts Q ⟨ns,e,_⟩=>by subst e;rfl
theorem law_start{K:PySem.W.Frag}{H:Hp}{a:Addr}{ns:List Int}(hl:ns.length<=63)(hO:Only H)(hS:SqL K H a (ns.map V.int)):spT K 1 lawSp [.ref a] H (fun v _=>v=.bl true) fun _ _ _=>False:=by
 have sq:SqF K H a (ns.map V.int):=by
  rcases hS with (h|⟨o,h⟩)|h
  ·rcases hO a with z|⟨o,xs,z⟩
   ·rw[z]at h;cases h
   ·rw[z]at h;cases h
  ·exact .inl ⟨o,h⟩
  ·exact .inr h
 exact⟨_,fun t=>t=.bl true,rfl,.one (rep_lst.mpr ⟨a,_,rfl,sq,reps_ints ns⟩),⟨ns,rfl,hl,rfl⟩,fun t v H' S r q=>by subst q;exact rep_bl.mp r⟩
theorem walk{l:PySem.W.OpenLaw}{k:Nat}{x:Str}{q:Program}{loose:List Str}{XP:(Str->Option Value)->Heap->Prop}{YP:World->Heap->Prop}{d:DefRec}{K:Params->PySem.W.Frag}(hn:l.most=some 63)(hdf:d.params.defaults=[])(hr:Room k callerA)
  (hY:∀(w:World)(h:Heap),YP w h->(K w.params).In h)
  (F:∀(w:World)(mg:Str->Option Value)(fa:Addr)(h:Heap),(K w.params).In h->h.Ns mainGlobals mg->mg d.name=some (.ref fa) →
   ∃fd:FuncData,(∀(s:Shared)(u:Value),BindsTo s fd ⟨[u],[]⟩ [(x,u)])/\∀base:Heap,(K w.params).In base->base.Ns mainGlobals mg->FnOk l.prog w (K w.params) mg base CX0 k fa fd [x] (spT (K w.params) 1 lawSp)) :
  PySem.W.WalkO q loose XP YP l.row.toRowW d [] (fun f vs=>PySem.call f vs) :=
 L2.walk_of (n:=63) (k:=k) (x:=x) (CX:=fun _=>CX0) (sp:=fun w=>spT (K w.params) 1 lawSp) hn (by decide) hdf hr hY F (fun _ _ _ _ hl hO hS=>law_start hl hO hS) fun _ _ _ _ _ z=>z
end TL
end
section
namespace TL
open PySem PySem.Spec PyProof.Rows L2
theorem closLoop{env:Env}:∀(names:List (Str×NameKind))(cs:List (Str×Addr)),(∀x∈names,x.2=.free->∃c,env.cells.lookup x.1=some c)->(∀x c,cs.lookup x=some c->env.cells.lookup x=some c) →
  ∃cl,(forIn names cs fun x cs=>(if (x.2==NameKind.free)=true then do let a ← cellOf env x.1;pure (ForInStep.yield ((x.1,a)::cs)) else pure (ForInStep.yield cs):Sem (ForInStep (List (Str×Addr)))))=(pure cl:Sem (List (Str×Addr))) ∧
   (∀x c,cl.lookup x=some c->env.cells.lookup x=some c)/\(∀x c,cs.lookup x=some c->∃c,cl.lookup x=some c)/\∀x∈names,x.2=.free->∃c,cl.lookup x.1=some c
 | [],cs,_,hc=>⟨cs,rfl,hc,fun x c e=>⟨c,e⟩,fun _ h=>nomatch h⟩
 | (n,k)::r,cs,h,hc=>by
  by_cases hk:k=.free
  ·subst hk
   obtain⟨c,ec⟩:=h (n,.free) List.mem_cons_self rfl
   have e0:cellOf env n=pure c:=by unfold cellOf;rw[ec]
   obtain⟨cl,e,p1,p2,p3⟩:=closLoop (env:=env) r ((n,c)::cs) (fun x hx=>h x (List.mem_cons_of_mem _ hx)) (fun x d e=>by
    by_cases hx:x=n
    ·subst hx
     simp at e
     subst e
     exact ec
    ·have hb:(x==n)=false:=by simpa using hx
     rw[List.lookup_cons,hb]at e
     exact hc x d e)
   refine⟨cl,?_,p1,fun x d e=>?_,fun x hx hf=>?_⟩
   ·rw[List.forIn_cons]
    show ((if (NameKind.free==NameKind.free)=true then _ else _) >>= _)=_
    rw[if_pos (show (NameKind.free==NameKind.free)=true from rfl)]
    show ((cellOf env n >>= fun a=>pure (ForInStep.yield ((n,a)::cs))) >>= _)=_
    rw[e0]
    exact e
   ·by_cases hx:x=n
    ·subst hx
     exact p2 x c (by simp)
    ·have hb:(x==n)=false:=by simpa using hx
     exact p2 x d (by rw[List.lookup_cons,hb];exact e)
   ·rcases List.mem_cons.mp hx with rfl|hx
    ·exact p2 n c (by simp)
    ·exact p3 x hx hf
  ·have hb:(k==NameKind.free)=false:=by simpa using hk
   obtain⟨cl,e,p1,p2,p3⟩:=closLoop (env:=env) r cs (fun x hx=>h x (List.mem_cons_of_mem _ hx)) hc
   refine⟨cl,?_,p1,p2,fun x hx hf=>?_⟩
   ·rw[List.forIn_cons]
    show ((if (k==NameKind.free)=true then _ else _) >>= _)=_
    rw[if_neg (by rw[hb];exact Bool.false_ne_true)]
    exact e
   ·rcases List.mem_cons.mp hx with rfl|hx
    ·exact absurd hf hk
    ·exact p3 x hx hf
theorem closureFor_of{scope:Scope}{env:Env}(h:∀x∈scope.names,x.2=.free->∃c,env.cells.lookup x.1=some c) :
  ∃cl,closureFor scope env=pure cl/\(∀x c,cl.lookup x=some c->env.cells.lookup x=some c)/\∀x∈scope.names,x.2=.free->∃c,cl.lookup x.1=some c:=by
 obtain⟨cl,e,p1,_,p3⟩:=closLoop (env:=env) scope.names [] h (fun x c e=>by simp at e)
 refine⟨cl,?_,p1,p3⟩
 unfold closureFor
 have:(forIn scope.names ([]:List (Str×Addr)) fun x cs=>(match x with|(name,kind)=>(if (kind==NameKind.free)=true then do let a ← cellOf env name;pure (ForInStep.yield ((name,a)::cs)) else pure (ForInStep.yield cs):Sem (ForInStep (List (Str×Addr))))))=(pure cl:Sem (List (Str×Addr))):=e
 first
  | (rw[this];rfl)
  | (show (forIn scope.names ([]:List (Str×Addr)) _ >>= fun cs=>pure cs)=_;rw[this];rfl)
def compCx(X:Cx)(N:List Str)(scope:Scope)(cl:List (Str×Addr))(C:Addr)(s3:Shared)(H2:Hp)(ex:List Addr):Cx where
 prog:=X.prog
 w:=X.w
 K:=X.K
 mg:=X.mg
 base:=X.base
 A:=X.A
 N:=N
 s₀:=s3
 H₀:=H2
 env:=compEnvC scope cl C X.env
 outer:=X.stack
 stack:=X.stack
 ex:=ex
 fn:=fun _=>false
 calm:=true
 pn:=[]
 xe:=fun _ _=>False
section
variable {prog:Program} {w:World} {A:Around} {E:Value->Shared->Prop} {R:Result->Shared->Prop} {s:Shared}
theorem codeAny_compLoop_any{elt target iter:Expr}{ifs:List Expr}{scope:Scope}{pos:Pos}{it acc:Value}{env:Env}(I:Nat->Shared->Prop)
  (turn:∀n s,I n s->wpAny (model prog w) A (pyNext it) (fun r s₁=>match r with
   | none=>R (.ok .next) s₁
   | some v=>wpAny (model prog w) A (letOwnedTupleGo target it v) (fun _ s₁'=>wpAny (model prog w) A (assign target env v) (fun _ s₂ =>
     wpAny (model prog w) A (forIn ifs true fun c r=>if r=true then do let ok ← isTrue c env (eval c env);pure (ForInStep.yield ok) else pure (ForInStep.yield r)) (fun ok s₃ =>
      if ok=true then wpAny (model prog w) A (eval elt env) (fun x s₄ =>
       wpAny (model prog w) A (call (.builtin "list.append") [acc,x]) (fun _ s₅=>∃m,m < n/\I m s₅) (fun _ _=>False) s₄) (fun _ _=>False) s₃
      else ∃m,m < n/\I m s₃) (fun _ _=>False) s₂) (fun _ _=>False) s₁') (fun _ _=>False) s₁) (fun _ _=>False) s)
  (n:Nat) (h:I n s) :
  codeAny (model prog w) A (.compLoop (.ListComp elt [⟨target,iter,ifs,0⟩] scope pos) 0 it acc env) R s:=by
 refine codeAny_loop rfl I (fun n s hI=>?_) n h
 show wpAny _ A ((compTurn (.ListComp elt [⟨target,iter,ifs,0⟩] scope pos) 0 it acc env).onRaise (fun x=>do noteFrame x env;theTreesLotGoes x)) _ _ s
 refine wpAny_noted ?_
 rw[compTurn_list]
 refine wpAny_bind (wpAny_standAt (wpAny_bind (wpAny_mono (turn n s hI) (fun r s₁ h₁=>?_) fun _ _ h'=>h'.elim)))
 cases r with
 | none=>exact wpAny_pure h₁
 | some v =>
  refine wpAny_bind (wpAny_mono h₁ (fun _ s₁' h₁'=>?_) fun _ _ h'=>h'.elim)
  refine wpAny_bind (wpAny_mono h₁' (fun _ s₂ h₂=>wpAny_bind (wpAny_mono h₂ (fun ok s₃ h₃=>?_) fun _ _ h'=>h'.elim)) fun _ _ h'=>h'.elim)
  cases ok with
  | false=>exact wpAny_pure ⟨rfl,h₃⟩
  | true =>
   exact wpAny_bind (wpAny_bind (wpAny_mono h₃ (fun x s₄ h₄=>wpAny_bind (wpAny_mono h₄ (fun _ s₅ h₅=>wpAny_pure (wpAny_pure ⟨rfl,h₅⟩)) fun _ _ h'=>h'.elim)) fun _ _ h'=>h'.elim))
end
def hide:Slot->Slot
 | .own ts=>.see ts
 | .see _=>.no
 | .vat t _=>.val t
 | s=>s
def compT(g:TGt)(ut:WT)(we:WE):List T->List T->List Slot->(List T->Prop)->Prop
 | [],acc,_,Q=>Q acc
 | x::xs,acc,τ,Q=>g x τ fun τ1=>ut τ1 fun k=>(k=true->we τ1 fun t=>compT g ut we xs (acc++[t]) τ1 Q)/\(k=false->compT g ut we xs acc τ1 Q)
def wComp(wi:WI)(g:TGt)(ut:WT)(we:WE)(n:Nat)(fr:List Nat):WE:=fun τ Q=>wi τ fun ts=>ts.length<=1000/\compT g ut we ts [] (List.replicate n Slot.no++fr.map fun i=>hide (sget τ i)) fun rs=>Q (.lst rs)
def JTs(X:Cx)(ifs:List Expr)(u:WT):Prop :=
 ∀(pins:List (Addr×Obj))(s:Shared)(σ:St)(H:Hp)(Q:Bool->Hp->Prop),Inv X pins σ H s->upT X.K X.H₀ u σ H Q →
  wpAny (model X.prog X.w) X.A (forIn ifs true fun c r=>if r=true then do let ok ← isTrue c X.env (eval c X.env);pure (ForInStep.yield ok) else pure (ForInStep.yield r)) (TP X pins σ Q) X.xe s
def tTrue:WT:=fun _ Q=>Q true
theorem jts0{X:Cx}:JTs X [] tTrue:=fun pins s σ H Q I ⟨τ,Q0,R,hw,k⟩=>wpAny_tests_nil ⟨H,I,k _ H (.refl H) hw⟩
theorem jts1{X:Cx}{c:Expr}{u:WT}(h:JT X c u):JTs X [c] u:=fun pins s σ H Q I hw=>wpAny_tests_one (h pins s σ H Q I hw)
theorem relabel_mem{scope:Scope}{env:Env}{x:Str}{k':NameKind}(h:(relabel scope env).names.lookup x=some k'):∃k,(x,k)∈scope.names/\(k'=k∨(k=.free/\k'=.cell)):=by
 have hm:=PySem.mem_of_lookup h
 obtain⟨⟨n,k⟩,hn,e⟩:=List.mem_map.mp hm
 by_cases hc:(k==NameKind.free&&env.scope.kind == .function&&env.kindOf n==some .cell)=true
 ·have e':(n,NameKind.cell)=(x,k'):=by simpa [hc] using e
  cases e'
  have hfree:=(Bool.and_eq_true_iff.mp (Bool.and_eq_true_iff.mp hc).1).1
  exact⟨_,hn,.inr ⟨by simpa using hfree,rfl⟩⟩
 ·have e':(n,k)=(x,k'):=by simpa [hc] using e
  cases e'
  exact⟨_,hn,.inl rfl⟩
theorem relabel_free{env:Env}(hk:env.scope.kind=.function):∀{names:List (Str×NameKind)}{x:Str},names.lookup x=some .free->env.kindOf x=some .cell →
  (names.map fun (n,k)=>if (k==NameKind.free&&env.scope.kind == .function&&env.kindOf n==some .cell) then (n,NameKind.cell) else (n,k)).lookup x=some .cell
 | [],_,h,_=>by simp at h
 | (n,k)::r,x,h,hx=>by
  have ih:=@relabel_free env hk r x
  show List.lookup x ((if (k==NameKind.free&&env.scope.kind == .function&&env.kindOf n==some .cell)=true then (n,NameKind.cell) else (n,k))::_)=_
  cases hb:x==n with
  | true =>
   have e:x=n:=by simpa using hb
   subst e
   simp only[List.lookup_cons,hb]at h
   cases h
   rw[if_pos (by rw[hk,hx];rfl)]
   simp[List.lookup_cons]
  | false =>
   simp only[List.lookup_cons,hb]at h
   by_cases hc:(k==NameKind.free&&env.scope.kind == .function&&env.kindOf n==some .cell)=true
   ·rw[if_pos hc];simp only[List.lookup_cons,hb];exact ih h hx
   ·rw[if_neg hc];simp only[List.lookup_cons,hb];exact ih h hx
section
variable {X:Cx} {pos:Pos}
theorem comp_start{pins:List (Addr×Obj)}{σ:St}{H:Hp}{s:Shared}{scope:Scope}{cl:List (Str×Addr)}{C:Addr}{N:List Str}{σ':St}{s4:Shared}{ex:List Addr}
  (I:Inv X pins σ H s) (hc:X.calm=true) (hk:scope.kind=.function) (hC:s.heap.objs.size<=C)
  (hcl:∀x c,cl.lookup x=some c->X.env.cells.lookup x=some c)
  (hhas:∀x,((relabel scope X.env).names.lookup x=some .cell∨(relabel scope X.env).names.lookup x=some .free)->∃c,cl.lookup x=some c)
  (hex:∀b∈ex,FpOk X pins H b) (hlt:∀b∈ex,b < s.heap.objs.size)
  (hos:s4.os=s.os) (hbare:AllBare s4.gens) (hkeep:∀b o,s.heap.get? b=some o->s4.heap.get? b=some o) {m:Str->Option Value} (hns:s4.heap.Ns C m)
  (hloc:∀(i:Nat)(x:Str)(v:V),N[i]?=some x->σ'[i]?=some (some v)->∃u,RelV v u/\Look (compEnvC scope cl C X.env) s4.heap m x u) (hlen:σ'.length=N.length) :
  Inv (compCx X N scope cl C s H ex) [] σ' H s4:=by
 have bs:=I.bs
 refine⟨⟨I.ok.mod,hk,I.ok.glob,I.ok.blt,hC,fun x y c h1 h2=>I.ok.inj x y c (hcl _ _ h1) (hcl _ _ h2),hhas,fun _ _ z=>(by cases z),fun _=>I.ok.hd hc,I.ok.frames,.inl rfl,
   fun b hb=>⟨Nat.ne_of_lt (Nat.lt_of_lt_of_le (hlt b hb) hC),fun x c e=>(hex b hb).2.2.2.2.1 x c (hcl _ _ e)⟩,bs,Nat.le_trans I.ok.bsz I.sz,fun b o e hb=>?_,fun b hb=>?_,I.stack,I.stkFree⟩,
  hos,hbare,Un.kept hkeep,⟨m,hns,fun i x v h1 h2 _=>hloc i x v h1 h2⟩,fun x c e=>?_,I.hok.fresh hC,fun x c e=>I.freeC x c (hcl _ _ e),fun p hp=>absurd (show p∈([]:List (Addr×Obj)) from hp) (by simp),I.hok.kept hkeep,hlen⟩
 ·rcases (hex b hb).2.2.2.1 with z|z
  ·exact I.ok.noex b o e z
  ·exact absurd (Nat.lt_of_lt_of_le (Heap.lt_size e) (Nat.le_trans I.ok.bsz z)) (Nat.lt_irrefl _)
 ·intro z
  obtain⟨_,f1,f2,_⟩:=hex b hb
  rcases List.mem_cons.mp (I.stkSub b z) with e|e
  ·exact f1 e
  ·exact f2 e
 ·obtain⟨v,o,ho,hd⟩:=I.cell x c (hcl _ _ e)
  exact⟨v,o,hkeep c o ho,hd⟩
def slotsOf(σ:St)(n:Nat)(fr:List (Str×Nat)):St:=List.replicate n none++fr.map fun p=>(σ[p.2]?).getD none
theorem repSt_comp{K:PySem.W.Frag}{H0 H H2:Hp}{σ:St}{τ:List Slot}(n:Nat)(fr:List (Str×Nat))(R:RepSt K H0 H σ τ)(S:Same H H2) :
  RepSt K H2 H2 (slotsOf σ n fr) (List.replicate n Slot.no++(fr.map (·.2)).map fun i=>hide (sget τ i)):=by
 have key:∀i,sget (List.replicate n Slot.no++(fr.map (·.2)).map fun i=>hide (sget τ i)) i=.no∨∃p,fr[i - n]?=some p/\n<=i/\sget (List.replicate n Slot.no++(fr.map (·.2)).map fun i=>hide (sget τ i)) i=hide (sget τ p.2):=fun i=>by
  by_cases hi:i < n
  ·left
   rw[sget_append_left (by simpa using hi),sget_no]
  ·rw[sget_append_right (by simpa using hi),List.length_replicate]
   have gen:∀(l:List (Str×Nat))(j:Nat),sget ((l.map (·.2)).map fun i=>hide (sget τ i)) j=.no∨∃p,l[j]?=some p/\sget ((l.map (·.2)).map fun i=>hide (sget τ i)) j=hide (sget τ p.2):=by
    intro l
    induction l with
    | nil=>intro j;left;rfl
    | cons p r ih =>
     intro j
     cases j with
     | zero=>exact .inr ⟨p,rfl,rfl⟩
     | succ j=>exact ih j
   rcases gen fr (i - n) with z|⟨p,e1,e2⟩
   ·exact .inl z
   ·exact .inr ⟨p,e1,by omega,e2⟩
 have noOwn:∀s ts,hide s ≠ .own ts:=fun s ts=>by cases s<;>simp[hide]
 refine⟨.refl H2,by simp[slotsOf],fun i=>?_,fun i j ts us p _ h1 _ _ _=>?_⟩
 ·rcases key i with z|⟨p,e1,hi,e2⟩
  ·rw[z];trivial
  ·rw[e2]
   have ge:(slotsOf σ n fr)[i]?=some ((σ[p.2]?).getD none):=by
    unfold slotsOf
    rw[List.getElem?_append_right (by simpa using hi),List.length_replicate,List.getElem?_map,e1]
    rfl
   have sl:=R.slot p.2
   cases e:sget τ p.2 with
   | no=>trivial
   | see ts=>trivial
   | vat t v =>
    rw[e]at sl
    exact⟨v,by rw[ge,sl.1];rfl,sl.2.kp (.of S)⟩
   | dic ps =>
    rw[e]at sl
    obtain⟨q,o,kvs,ev,h1,ek,r⟩:=sl
    exact⟨q,o,kvs,by rw[ge,ev];rfl,S _ _ h1,ek,r.kp (.of S)⟩
   | own ts =>
    rw[e]at sl
    obtain⟨q,vs,ev,h1,r,_⟩:=sl
    exact⟨q,vs,by rw[ge,ev];rfl,S _ _ h1,r.kp (.of S),by rw[S _ _ h1];exact fun z=>by cases z⟩
   | val t =>
    rw[e]at sl
    obtain⟨v,ev,r⟩:=sl
    exact⟨v,by rw[ge,ev];rfl,r.kp (.of S)⟩
 ·rcases key i with z|⟨p,_,_,e2⟩
  ·rw[z]at h1;cases h1
  ·rw[e2]at h1;exact noOwn _ _ h1
theorem comp_end{X X':Cx}{pins pins':List (Addr×Obj)}{σ σ5:St}{H2 H5:Hp}{s2 s6:Shared}{fp:List Addr}{Da:Addr}{h3:Heap}{vs:List V}{its:List Value}{k5:Nat}(eP:X'.prog=X.prog)(eW:X'.w=X.w)(eFs:X'.fs=frs X.stack)(eEx:X'.ex=Da::fp)(eH:X'.H₀=H2)
  (eS:X'.s₀.heap=h3) (eOs:X'.s₀.os=s2.os) (hCn:X'.env.locals=Da + 1) (pushK:∀b o,s2.heap.get? b=some o->h3.get? b=some o) (hDa:s2.heap.objs.size=Da) (I2:Inv X pins σ H2 s2) (f2:∀b∈fp,FpOk X pins H2 b) (I6:Inv X' pins' σ5 H5 s6)
  (frD:H5 Da=none) (hD:s6.heap.get? Da=some {cls:=.type "list", dict:=none,data:=.seq its.toArray k5}) (rv:Vals vs its) (hz:vs.length<=sizeLine) :
  Inv X pins σ (upd H5 Da (.frz {cls:=.type "list", dict:=none,data:=.seq its.toArray k5} (.lst vs))) s6:=by
 have un:=I6.base
 rw[eFs,eEx,eH,eS]at un
 have old:∀b o,s2.heap.get? b=some o->b≠Da:=fun b o e=>by
  have lt:=Heap.lt_size e
  rw[hDa]at lt
  exact Nat.ne_of_lt lt
 have hnD:∀b,H5 b≠none->b≠Da:=fun b h z=>h (by rw[z];exact frD)
 have ex:∀b o,s2.heap.get? b=some o->b∉fp->b∉Da::fp:=fun b o e hb z=>by
  rcases List.mem_cons.mp z with z|z
  ·exact old b o e z
  ·exact hb z
 refine I2.call' (s':=s6) (ch:=fp) (by rw[I6.os,eOs]) ⟨fun b o e n hf hx=>?_,fun b o e n hf hx=>?_,fun b o e n hx=>?_,fun b o e hx=>?_,fun b xs e=>?_,fun b o u e=>?_,fun b ps e=>?_⟩ (fun b ob eb=>?_) I6.bare fun b hb=>?_
 ·exact un.keep b o (pushK b o e) n hf (ex b o e hx)
 ·exact un.slot b o (pushK b o e) n hf (ex b o e hx)
 ·rw[upd_ne (old b o e)]
  exact un.free b o (pushK b o e) n (ex b o e hx)
 ·exact un.there b o (pushK b o e) (ex b o e hx)
 ·have e1:=un.tups b xs e
  rw[upd_ne (hnD b (by rw[e1];simp))]
  exact e1
 ·have e1:=un.frzs b o u e
  rw[upd_ne (hnD b (by rw[e1];simp))]
  exact e1
 ·obtain⟨more,e1⟩:=un.tbls b ps e
  exact⟨more,by rw[upd_ne (hnD b (by rw[e1];simp))];exact e1⟩
 ·by_cases hb:b=Da
  ·subst hb
   rw[upd_same]at eb
   cases eb
   exact⟨hD,hz,its,k5,rv,hD⟩
  ·rw[upd_ne hb]at eb
   have o5:=I6.hok b ob eb
   rw[eP,eW]at o5
   exact o5.stay (fun c v hc q=>q) (fun c q=>by rw[upd_ne (hnD c (by rw[q];simp))];exact q) fun c ys q=>by rw[upd_ne (hnD c (by rw[q];simp))];exact q
 ·obtain⟨g1,g2,g3,g4,g5,g6⟩:=f2 b hb
  exact⟨g4,g2,g5,g6⟩
def WkS(K:PySem.W.Frag)(J:It)(ts:List T)(H1:Hp):Prop:=∀H2,Same H1 H2->(∀i t,ts[i]?=some t->J.go i H2/\∀x H3,J.yld i H2 x H3->Same H2 H3/\Rep K H3 t x)/\J.stop ts.length H2
theorem Wk.s{K:PySem.W.Frag}{J:It}{ts:List T}{H:Hp}(h:Wk K J ts H):WkS K J ts H:=fun H2 S=>h H2 (.of S)
def upIc(K:PySem.W.Frag)(H0:Hp)(w:WI):TI:=fun σ H R=>∃(τ:List Slot) (Q0:List T->Prop),RepSt K H0 H σ τ/\w τ Q0/\∀ts J H',Same H H'->WkS K J ts H'->Q0 ts->R J H'
def JIc(X:Cx)(tg iter:Expr)(w:WI):Prop:=PI X tg iter (upIc X.K X.H₀ w)
theorem JI.c{X:Cx}{tg iter:Expr}{w:WI}(h:JI X tg iter w):JIc X tg iter w:=pi_of h fun σ H R ⟨τ,Q0,R0,hw,k⟩=>⟨τ,Q0,R0,hw,fun ts J H' S wk q=>k ts J H' S wk.s q⟩
inductive CompInv (K:PySem.W.Frag) (X':Cx) (ts:List T) (g:TGt) (ut:WT) (we:WE) (Q0:T->Prop) (tn':Nat->Heap->Prop) (Da:Addr) (fp:List Addr) (n:Nat) (s':Shared):Prop
 | mk (i:Nat) (σ':St) (H':Hp) (τ':List Slot) (acc:List T) (vs:List V) (its:List Value) (k:Nat) (e:n=ts.length - i) (hi:i<=ts.length) (I:Inv X' [] σ' H' s') (st:tn' i s'.heap) (fr:∀b∈Da::fp,H' b=none)
  (R:RepSt X'.K X'.H₀ H' σ' τ') (hD:s'.heap.get? Da=some {cls:=.type "list", dict:=none,data:=.seq (List.toArray its) k}) (rv:Vals vs its) (ra:Reps K H' acc vs) (hl:acc.length<=i) (q:compT g ut we (ts.drop i) acc τ' fun rs=>Q0 (.lst rs)) :
  CompInv K X' ts g ut we Q0 tn' Da fp n s'
theorem comp_loop{X X':Cx}{elt target iter:Expr}{ifs:List Expr}{scope:Scope}{pos:Pos}{g:TGt}{ut:WT}{we:WE}{use:Option (Value->Sem Unit)}{QQ:Value->Shared->Prop}{pins:List (Addr×Obj)}{σ σ4:St}{H H2:Hp}{s2 s4:Shared}{h3:Heap}{it Da:Addr}{fp:List Addr}{tn':Nat->Heap->Prop}{J:It}{ts:List T}{Q0:T->Prop}{τ4:List Slot}
  (hg':JG X' target g) (hu':JTs X' ifs ut) (he':JE X' elt we) (eP:X'.prog=X.prog) (eW:X'.w=X.w) (eK:X'.K=X.K) (eA:X'.A=X.A) (eH:X'.H₀=H2) (eE:X'.xe=fun _ _=>False) (eC:X'.calm=true) (eFs:X'.fs=frs X.stack) (eEx:X'.ex=Da::fp) (eS:X'.s₀.heap=h3) (eOs:X'.s₀.os=s2.os) (ePn:X'.pn=[])
  (hCn:X'.env.locals=Da + 1) (pushK:∀b o,s2.heap.get? b=some o->h3.get? b=some o) (hDa:s2.heap.objs.size=Da) (I2:Inv X pins σ H2 s2) (f2:∀b∈fp,FpOk X pins H2 b) (Tn:Turn X.prog X.w X.K target J fp it tn') (ne:Da∉fp) (S2:Same H H2) (wk:WkS X.K J ts H2) (hlen:ts.length<=1000)
  (J4:Inv X' [] σ4 H2 s4) (R4:RepSt X'.K X'.H₀ H2 σ4 τ4) (st4:tn' 0 s4.heap) (fr4:∀b∈Da::fp,H2 b=none) (hDat:s4.heap.get? Da=some {cls:=.type "list", dict:=none,data:=.seq ([]:List Value).toArray}) (q:compT g ut we ts [] τ4 fun rs=>Q0 (.lst rs))
  (hfp:∀H6:Hp,H6 X'.env.locals=none->FpOk X pins H6 X'.env.locals)
  (hend:∀(s6:Shared)(H6:Hp)(D C:Addr)(m6:Str->Option Value)(t:T)(f:Flow),Inv X pins σ H6 s6->FpOk X pins H6 C->s6.heap.Ns C m6->Same H H6->Rep X.K H6 t (.ref D)->Q0 t->(∃(H5:Hp) (o:Obj) (vs:List V) (ts:List T),H6=upd H5 D (.frz o (.lst vs))/\H5 D=none/\Same H H5/\t=.lst ts/\Reps X.K H5 ts vs)->compPost (model X.prog X.w) X.A X.xe use QQ (.ref D) C (.ok f) s6) :
  codeAny (model X.prog X.w) X.A (.compLoop (.ListComp elt [⟨target,iter,ifs,0⟩] scope pos) 0 (.ref it) (.ref Da) X'.env) (compPost (model X.prog X.w) X.A X.xe use QQ (.ref Da) X'.env.locals) s4:=by
 have stat:∀{H':Hp}{b:Addr},b∈Da::fp->H' b=none->FpOk X' [] H' b:=fun {H' b} hb hn=>by
  have o:=(J4.ok.exf b (by rw[eEx];exact hb))
  refine⟨hn,o.1,J4.ok.exfs b (by rw[eEx];exact hb),.inl (by rw[eEx];exact hb),o.2,fun p hp=>?_⟩
  rw[ePn]at hp
  exact absurd (show p∈([]:List (Addr×Obj)) from hp) (by simp)
 refine codeAny_compLoop_any (CompInv X.K X' ts g ut we Q0 tn' Da fp) ?_ ts.length
  ⟨0,_,H2,_,[],[],[],0,by simp,Nat.zero_le _,J4,st4,fr4,R4,hDat,.nil,reps_nil.mpr rfl,Nat.le_refl _,by simpa using q⟩
 rintro n s5 ⟨i,σ5,H5,τ5,acc,vs,its,k5,rfl,hi5,I5,st5,fr5,R5,hD5,rv5,ra5,hl5,q5⟩
 have K5:Same H2 H5:=by
  have:=R5.same
  rwa [eH]at this
 obtain⟨wi5,ws5⟩:=wk H5 K5
 have fp5:∀b∈fp,FpOk X' [] H5 b:=fun b hb=>stat (List.mem_cons_of_mem _ hb) (fr5 b (List.mem_cons_of_mem _ hb))
 rw[← eA]
 by_cases hlt:i < ts.length
 ·have ei:ts[i]?=some ts[i]:=List.getElem?_eq_getElem hlt
  obtain⟨go,yl⟩:=wi5 i _ ei
  rw[List.drop_eq_getElem_cons hlt]at q5
  have ID:Inv X' ([]++pinsAt [Da] s5.heap) σ5 H5 s5:=I5.pinned (fp:=[Da]) (fun b hb=>stat (by rw[List.mem_singleton.mp hb];exact List.mem_cons_self) (fr5 b (by rw[List.mem_singleton.mp hb];exact List.mem_cons_self))) fun b hb=>by
   rw[List.mem_singleton.mp hb]
   exact⟨_,hD5,fun v z=>(by cases z)⟩
  have fpp:∀{H':Hp},(∀b∈fp,H' b=none)->∀b∈fp,FpOk X' ([]++pinsAt [Da] s5.heap) H' b:=fun hn b hb=>by
   obtain⟨g1,g2,g3,g4,g5,g6⟩:=stat (H':=_) (List.mem_cons_of_mem _ hb) (hn b hb)
   refine⟨g1,g2,g3,g4,g5,fun p hp=>?_⟩
   rcases List.mem_append.mp hp with z|z
   ·rw[ePn]at z;exact absurd (show p∈([]:List (Addr×Obj)) from z) (by simp)
   ·rw[List.nil_append]at z
    obtain⟨z1,_⟩:=of_pinsAt z
    rw[List.mem_singleton.mp z1]
    intro e
    exact ne (by rw[e];exact hb)
  have frf:∀b∈fp,H5 b=none:=fun b hb=>fr5 b (List.mem_cons_of_mem _ hb)
  refine wpAny_mono (Tn.item X' eP eW eK eC i _ s5 σ5 H5 (fun _ _=>False) ID (fpp frf) st5 go) (fun r s6 h6=>?_) fun _ _ z=>z
  obtain⟨u,rfl,h6⟩:=h6
  refine wpAny_mono h6 (fun _ s7 h7=>?_) fun _ _ z=>z
  obtain⟨x,H7,I7,rx,y7,st7,fr7⟩:=h7
  obtain⟨S7,r7⟩:=yl x H7 y7
  have I7p:=I7.pinned (fpp fr7) (Tn.obj _ _ st7)
  have R7:=R5.mono S7
  have g7:=hg' _ s7 σ5 H7 x u (fun σ8 H8=>∃τ8,Same H7 H8/\RepSt X'.K X'.H₀ H8 σ8 τ8/\ut τ8 fun k=>(k=true->we τ8 fun t=>compT g ut we (ts.drop (i + 1)) (acc++[t]) τ8 fun rs=>Q0 (.lst rs))/\(k=false->compT g ut we (ts.drop (i + 1)) acc τ8 fun rs=>Q0 (.lst rs))) I7p rx
   ⟨ts[i],τ5,_,R7,(by rw[eK];exact r7),q5,fun τ8 σ8 H8 S8 R8 q8=>⟨τ8,S8,R8,q8⟩⟩
  rw[eE,eP,eW]at g7
  refine wpAny_mono g7 (fun _ s8 h8=>?_) fun _ _ z=>z
  obtain⟨σ8,H8,I8,τ8,S8,R8,q8⟩:=h8
  have u8:=hu' _ s8 σ8 H8 (fun k H9=>Same H8 H9/\((k=true->we τ8 fun t=>compT g ut we (ts.drop (i + 1)) (acc++[t]) τ8 fun rs=>Q0 (.lst rs))/\(k=false->compT g ut we (ts.drop (i + 1)) acc τ8 fun rs=>Q0 (.lst rs)))) I8 ⟨τ8,_,R8,q8,fun k H9 S9 q9=>⟨S9,q9⟩⟩
  rw[eE,eP,eW]at u8
  refine wpAny_mono u8 (fun k s9 h9=>?_) fun _ _ z=>z
  obtain⟨H9,I9,S9,q9⟩:=h9
  have R9:=R8.mono S9
  have pinD:∀{s':Shared}{σ':St}{H':Hp},Inv X' (([]++pinsAt [Da] s5.heap)++pinsAt fp s7.heap) σ' H' s'->s'.heap.get? Da=some {cls:=.type "list", dict:=none,data:=.seq its.toArray k5}/\H' Da=none:=fun I'=>by
   have z:=I'.pin (Da,_) (List.mem_append_right _ (List.mem_append_left _ (by rw[List.nil_append];exact mem_pinsAt (List.mem_singleton.mpr rfl) hD5)))
   exact⟨z.1,z.2.1⟩
  have pinF:∀{s':Shared}{σ':St}{H':Hp},Inv X' (([]++pinsAt [Da] s5.heap)++pinsAt fp s7.heap) σ' H' s'->tn' (i + 1) s'.heap/\∀b∈fp,H' b=none:=fun {s' σ' H'} I'=>by
   refine⟨Tn.keep _ _ _ st7 fun b hb o e=>(I'.pin (b,o) (List.mem_append_right _ (List.mem_append_right _ (mem_pinsAt hb e)))).1,fun b hb=>?_⟩
   obtain⟨o,e,d⟩:=Tn.obj _ _ st7 b hb
   exact(I'.pin (b,o) (List.mem_append_right _ (List.mem_append_right _ (mem_pinsAt hb e)))).2.1
  have frD:∀{H':Hp},H' Da=none->(∀b∈fp,H' b=none)->∀b∈Da::fp,H' b=none:=fun h1 h2 b hb=>by
   rcases List.mem_cons.mp hb with rfl|hb
   ·exact h1
   ·exact h2 b hb
  have unp:∀{s':Shared}{σ':St}{H':Hp},Inv X' (([]++pinsAt [Da] s5.heap)++pinsAt fp s7.heap) σ' H' s'->Inv X' [] σ' H' s':=fun I'=>I'.pins_of fun p hp=>absurd hp (by simp)
  cases k with
  | false =>
   rw[if_neg Bool.false_ne_true]
   refine⟨ts.length - (i + 1),by omega,i + 1,σ8,H9,τ8,acc,vs,its,k5,rfl,hlt,unp I9,(pinF I9).1,frD (pinD I9).2 (pinF I9).2,R9,(pinD I9).1,rv5,ra5.kp (.of (S7.trans (S8.trans S9))),by omega,q9.2 rfl⟩
  | true =>
   rw[if_pos rfl]
   have e9:=he' _ s9 σ8 H9 (fun v H10=>∃t,Same H9 H10/\Rep X'.K H10 t v/\compT g ut we (ts.drop (i + 1)) (acc++[t]) τ8 fun rs=>Q0 (.lst rs)) I9 ⟨τ8,_,R9,q9.1 rfl,fun t v H10 S10 r10 q10=>⟨t,S10,r10,q10⟩⟩
   rw[eE,eP,eW]at e9
   refine wpAny_mono e9 (fun y s10 h10=>?_) fun _ _ z=>z
   obtain⟨v,H10,I10,rv,t,S10,r10,q10⟩:=h10
   have hlen5:its.length<=1000:=by
    have e1:=rv5.length
    have e2:=ra5.length
    omega
   refine wpAny_list_append_plain (hsz:=by rw[List.size_toArray];exact few hlen5) ⟨k5,(pinD I10).1⟩ fun h11 hl11 hs11=>?_
   obtain⟨k11,hl11⟩:=hl11
   have I11:Inv X' [] σ8 H10 {s10 with heap:=h11}:=by
    obtain⟨g1,g2,g3,g4,g5,g6⟩:=stat (H':=H10) List.mem_cons_self (pinD I10).2
    exact(unp I10).turned (t':=s10.toks) (it:=Da) (fun b o hb e=>(hs11.2 b hb).trans e) g1 g2 g4 g5 g6
   have st11:tn' (i + 1) h11:=Tn.keep _ _ _ (pinF I10).1 fun b hb o e=>(hs11.2 b (fun z=>ne (by rw[← z];exact hb))).trans e
   refine⟨ts.length - (i + 1),by omega,i + 1,σ8,H10,τ8,acc++[t],vs++[v],its++[y],k11,rfl,hlt,I11,st11,frD (pinD I10).2 (pinF I10).2,R9.mono S10,?_,rv5.append (.cons rv .nil),(ra5.kp (.of (S7.trans (S8.trans (S9.trans S10))))).append (.one (by rw[← eK];exact r10)),by simp;omega,q10⟩
   have ea:(its++[y]).toArray=its.toArray.push y:=by simp
   rw[ea]
   exact hl11
 ·have e:i=ts.length:=by omega
  subst e
  rw[List.drop_length]at q5
  have q5':Q0 (.lst acc):=q5
  refine wpAny_mono (Tn.done X' eP eW eK eC ts.length ([]++pinsAt [Da] s5.heap) s5 σ5 H5 (fun _ _=>False) ?_ ?_ st5 ws5) (fun r s6 h6=>?_) fun _ _ z=>z
  ·exact I5.pinned (fp:=[Da]) (fun b hb=>stat (by rw[List.mem_singleton.mp hb];exact List.mem_cons_self) (fr5 b (by rw[List.mem_singleton.mp hb];exact List.mem_cons_self))) fun b hb=>by
    rw[List.mem_singleton.mp hb]
    exact⟨_,hD5,fun v z=>(by cases z)⟩
  ·intro b hb
   obtain⟨g1,g2,g3,g4,g5,g6⟩:=stat (H':=H5) (List.mem_cons_of_mem _ hb) (fr5 b (List.mem_cons_of_mem _ hb))
   refine⟨g1,g2,g3,g4,g5,fun p hp=>?_⟩
   rcases List.mem_append.mp hp with z|z
   ·rw[ePn]at z;exact absurd (show p∈([]:List (Addr×Obj)) from z) (by simp)
   ·rw[List.nil_append]at z
    obtain⟨z1,_⟩:=of_pinsAt z
    rw[List.mem_singleton.mp z1]
    intro e
    exact ne (by rw[e];exact hb)
  obtain⟨rfl,I6⟩:=h6
  have z6:=I6.pin (Da,_) (List.mem_append_right _ (by rw[List.nil_append];exact mem_pinsAt (List.mem_singleton.mpr rfl) hD5))
  obtain⟨m6,hn6,_⟩:=I6.loc
  have hz:vs.length<=sizeLine:=by rw[ra5.length];exact few (by omega)
  have fin:=comp_end eP eW eFs eEx eH eS eOs hCn pushK hDa I2 f2 I6 (fr5 _ List.mem_cons_self) z6.1 rv5 hz
  have S5:Same H2 H5:=by have:=R5.same;rwa [eH]at this
  have S6:Same H2 (upd H5 Da (.frz {cls:=.type "list", dict:=none,data:=.seq its.toArray k5} (.lst vs))):=S5.trans (same_new (fr5 _ List.mem_cons_self) _)
  have hfpC:=hfp _ (show (upd H5 Da (.frz {cls:=.type "list", dict:=none,data:=.seq its.toArray k5} (.lst vs))) X'.env.locals=none by rw[upd_ne (by rw[hCn];exact Nat.succ_ne_self _)];exact I6.free)
  show compPost (model X.prog X.w) X'.A X.xe use QQ (.ref Da) X'.env.locals (.ok .next) s6
  rw[eA]
  exact hend s6 _ _ _ m6 (.lst acc) _ fin hfpC hn6 (S2.trans S6) (rep_lst.mpr ⟨_,vs,rfl,.inl ⟨_,upd_same⟩,ra5.kp (.of (same_new (fr5 _ List.mem_cons_self) _))⟩) q5' ⟨H5,_,vs,acc,rfl,fr5 _ List.mem_cons_self,S2.trans S5,rfl,ra5⟩
theorem comp_core{elt target iter:Expr}{ifs:List Expr}{scope sc0:Scope}{tn N0:List Str}{fr:List (Str×Nat)}{wi:WI}{g:TGt}{ut:WT}{we:WE}(hsc:X.env.scope=sc0)(hN0:X.N=N0)(hc:X.calm=true)
  (hi:JIc X target iter wi) (hk:scope.kind=.function) (hk0:sc0.kind=.function)
  (hnames:(scope.names.all fun x=>x.2 != .local||scope.names.lookup x.1==some .local)=true) (hcell:(scope.names.all fun x=>x.2 != .cell)=true)
  (hfree:(scope.names.all fun x=>x.2 != .free||sc0.names.lookup x.1==some .cell)=true)
  (hfr:(fr.all fun p=>(sc0.names.lookup p.1==some .cell&&scope.names.lookup p.1==some .free)&&N0[p.2]?==some p.1)=true)
  (hg:∀cl C s3 H2 ex,JG (compCx X (tn++fr.map (·.1)) scope cl C s3 H2 ex) target g) (hu:∀cl C s3 H2 ex,JTs (compCx X (tn++fr.map (·.1)) scope cl C s3 H2 ex) ifs ut)
  (he:∀cl C s3 H2 ex,JE (compCx X (tn++fr.map (·.1)) scope cl C s3 H2 ex) elt we)
  (hs:∀x,foldedSetIterable iter X.env x=pure x) {pos':Pos} {pins:List (Addr×Obj)} {s:Shared} {σ:St} {H:Hp} {QQ:Value->Shared->Prop} {use:Option (Value->Sem Unit)} (I:Inv X pins σ H s)
  {τ:List Slot} {Q0:T->Prop} (R0:RepSt X.K X.H₀ H σ τ) (hw:wComp wi g ut we tn.length (fr.map (·.2)) τ Q0)
  (hend:∀(s6:Shared)(H6:Hp)(D C:Addr)(m6:Str->Option Value)(t:T)(f:Flow),Inv X pins σ H6 s6->FpOk X pins H6 C->s6.heap.Ns C m6->Same H H6->Rep X.K H6 t (.ref D)->Q0 t->(∃(H5:Hp) (o:Obj) (vs:List V) (ts:List T),H6=upd H5 D (.frz o (.lst vs))/\H5 D=none/\Same H H5/\t=.lst ts/\Reps X.K H5 ts vs)->compPost (model X.prog X.w) X.A X.xe use QQ (.ref D) C (.ok f) s6) :
  wpAny (model X.prog X.w) X.A (comprehension (.ListComp elt [⟨target,iter,ifs,0⟩] scope pos) scope X.env pos' (newList []) false (eval iter X.env) use) QQ X.xe s:=by
 have hkindOf:∀x,X.env.kindOf x=sc0.names.lookup x:=fun x=>by show X.env.scope.names.lookup x=_;rw[hsc]
 have hfree':∀x∈scope.names,x.2=.free->X.env.kindOf x.1=some .cell:=fun x hx hf=>by
  have:=List.all_eq_true.mp hfree x hx
  rw[hkindOf]
  simpa [hf] using this
 have hcell':∀x∈scope.names,x.2 ≠ .cell:=fun x hx=>by
  have:=List.all_eq_true.mp hcell x hx
  simpa using this
 have hfN:∀p∈fr,X.N[p.2]?=some p.1:=fun p hp=>by
  have:=List.all_eq_true.mp hfr p hp
  rw[hN0]
  simp only[Bool.and_eq_true,beq_iff_eq]at this
  exact this.2
 have hfr':∀p∈fr,X.env.kindOf p.1=some .cell/\scope.names.lookup p.1=some .free:=fun p hp=>by
  have:=List.all_eq_true.mp hfr p hp
  rw[hkindOf]
  simp only[Bool.and_eq_true,beq_iff_eq]at this
  exact this.1
 obtain⟨cl,hclos,p1,p3⟩:=closureFor_of (scope:=scope) (env:=X.env) fun x hx hf=>I.ok.has x.1 (.inl (hfree' x hx hf))
 refine wpAny_comprehension_free (use:=use) rfl hs hclos hk (fun x hx hl=>?_) ?_
 ·have:=List.all_eq_true.mp hnames x hx
  simpa [hl] using this
 refine thn (hi pins s σ H (fun J H1=>∃ts,Same H H1/\WkS X.K J ts H1/\ts.length<=1000/\compT g ut we ts [] (List.replicate tn.length Slot.no++(fr.map (·.2)).map fun i=>hide (sget τ i)) fun rs=>Q0 (.lst rs)) I
  ⟨τ,_,R0,hw,fun ts J H' S wk q=>⟨ts,S,wk,q.1,q.2⟩⟩) fun v s1 h1=>thn h1 fun itv s2 h2=>?_
 obtain⟨it,fp,tn',J,H2,rfl,I2,Tn,st2,f2,ts,S2,wk,hlen,q⟩:=h2
 refine wpAny_newObj_type (wpAny_newFunctionEnv hcell' (by intro y hy;simp at hy) (fun h4 hns hsb=>?_) hk)
 dsimp only at hns hsb ⊢
 have hDn:H2 s2.heap.objs.size=none:=I2.hok.fresh (Nat.le_refl _)
 have I3:Inv X pins σ H2 {s2 with heap:=s2.heap.push {cls:=.type "list", dict:=none,data:=.seq ([]:List Value).toArray} }:=I2.kept (t':=s2.toks) fun b u e=>Heap.get?_push_of_some _ e
 have hsz:(s2.heap.push {cls:=.type "list", dict:=none,data:=.seq ([]:List Value).toArray}).objs.size=s2.heap.objs.size + 1:=Heap.size_push ..
 have hkeep:∀b o,(s2.heap.push {cls:=.type "list", dict:=none,data:=.seq ([]:List Value).toArray}).get? b=some o->h4.get? b=some o:=fun b o e=>hsb.extBut b o (Nat.ne_of_lt (Heap.lt_size e)) (Heap.get?_push_of_some _ e)
 have hDat:h4.get? s2.heap.objs.size=some {cls:=.type "list", dict:=none,data:=.seq ([]:List Value).toArray}:=hkeep _ _ (Heap.get?_push_size _ rfl)
 have fpD:∀b∈s2.heap.objs.size::fp,FpOk X pins H2 b:=fun b hb=>by
  rcases List.mem_cons.mp hb with rfl|hb
  ·exact I2.fpOk (Nat.le_refl _) hDn
  ·exact f2 b hb
 have ltD:∀b∈fp,b < s2.heap.objs.size:=fun b hb=>by
  obtain⟨o,e,_⟩:=Tn.obj _ _ st2 b hb
  exact Heap.lt_size e
 have ltD':∀b∈s2.heap.objs.size::fp,b < (s2.heap.push {cls:=.type "list", dict:=none,data:=.seq ([]:List Value).toArray}).objs.size:=fun b hb=>by
  rw[hsz]
  rcases List.mem_cons.mp hb with rfl|hb
  ·exact Nat.lt_succ_self _
  ·exact Nat.lt_succ_of_lt (ltD b hb)
 have hhas:∀x,((relabel scope X.env).names.lookup x=some .cell∨(relabel scope X.env).names.lookup x=some .free)->∃c,cl.lookup x=some c:=fun x hx=>by
  have z:∃k',(relabel scope X.env).names.lookup x=some k'/\(k'=.cell∨k'=.free):=by
   rcases hx with hx|hx
   ·exact⟨_,hx,.inl rfl⟩
   ·exact⟨_,hx,.inr rfl⟩
  obtain⟨k',e,hk'⟩:=z
  obtain⟨k,hm,hkk⟩:=relabel_mem e
  have hf:k=.free:=by
   rcases hkk with rfl|⟨h,_⟩
   ·rcases hk' with rfl|rfl
    ·exact absurd rfl (hcell' _ hm)
    ·rfl
   ·exact h
  subst hf
  exact p3 (x,.free) hm rfl
 obtain⟨m3,hn3,hl3⟩:=I3.loc
 have J4:Inv (compCx X (tn++fr.map (·.1)) scope cl (s2.heap.push {cls:=.type "list", dict:=none,data:=.seq ([]:List Value).toArray}).objs.size {s2 with heap:=s2.heap.push {cls:=.type "list", dict:=none,data:=.seq ([]:List Value).toArray} } H2 (s2.heap.objs.size::fp)) []
   (slotsOf σ tn.length fr) H2 {s2 with heap:=h4,toks:=s2.toks + ([]:List (Str×Value)).length}:=by
  refine comp_start I3 hc hk (Nat.le_refl _) p1 hhas fpD ltD' rfl I2.bare hkeep hns (fun i x v h1 h2=>?_) (by simp[slotsOf])
  unfold slotsOf at h2
  by_cases hi:i < tn.length
  ·rw[List.getElem?_append_left (by simpa using hi),List.getElem?_replicate]at h2
   split at h2<;>cases h2
  ·rw [List.getElem?_append_right (by simpa using hi),List.length_replicate,List.getElem?_map]at h2
   rw[List.getElem?_append_right (by omega),List.getElem?_map]at h1
   cases ep:fr[i - tn.length]? with
   | none=>rw[ep]at h1;cases h1
   | some p =>
    rw[ep]at h1 h2
    have h1':p.1=x:=by simpa using h1
    have h2':(σ[p.2]?).getD none=some v:=by simpa using h2
    have h2'':σ[p.2]?=some (some v):=by
     cases e:σ[p.2]? with
     | none=>rw[e]at h2';cases h2'
     | some z=>rw[e]at h2';exact congrArg some h2'
    have hp:p∈fr:=List.mem_of_getElem? ep
    obtain⟨k1,k2⟩:=hfr' p hp
    subst h1'
    obtain⟨u,ru,lk⟩:=hl3 p.2 p.1 v (hfN p hp) h2'' (.inr (.inl k1))
    refine⟨u,ru,.inr ⟨.inl ?_,?_⟩⟩
    ·exact relabel_free (by rw[hsc];exact hk0) k2 k1
    ·rcases lk with ⟨z,_⟩|⟨_,c,e,o,ho,hd⟩
     ·rw[k1]at z;cases z
     ·obtain⟨c',e'⟩:=p3 (p.1,.free) (PySem.mem_of_lookup k2) rfl
      have:=p1 _ _ e'
      rw[e]at this
      cases this
      exact⟨c,e',o,hkeep c o ho,hd⟩
 have R4:RepSt X.K H2 H2 (slotsOf σ tn.length fr) (List.replicate tn.length Slot.no++(fr.map (·.2)).map fun i=>hide (sget τ i)):=repSt_comp tn.length fr R0 S2
 have ne:(s2.heap.objs.size:Addr)∉fp:=fun z=>absurd (ltD _ z) (Nat.lt_irrefl _)
 have st4:tn' 0 h4:=Tn.keep _ _ _ st2 fun b hb o e=>hkeep b o (Heap.get?_push_of_some _ e)
 have lp:=comp_loop (scope:=scope) (H2:=H2) (s2:=s2) (X:=X) (X':=compCx X (tn++fr.map (·.1)) scope cl (s2.heap.push {cls:=.type "list", dict:=none,data:=.seq ([]:List Value).toArray}).objs.size {s2 with heap:=s2.heap.push {cls:=.type "list", dict:=none,data:=.seq ([]:List Value).toArray} } H2 (s2.heap.objs.size::fp)) (h3:=s2.heap.push {cls:=.type "list", dict:=none,data:=.seq ([]:List Value).toArray}) (pins:=pins) (s4:={s2 with heap:=h4,toks:=s2.toks + ([]:List (Str×Value)).length}) (use:=use) (QQ:=QQ) (iter:=iter) (pos:=pos) (hg _ _ _ _ _) (hu _ _ _ _ _) (he _ _ _ _ _) rfl rfl rfl rfl rfl rfl rfl rfl rfl rfl rfl rfl hsz (fun b o e=>Heap.get?_push_of_some _ e) rfl I2 f2 Tn ne S2 wk hlen J4 R4 st4 (fun b hb=>(fpD b hb).1) hDat q (fun H6 h=>I3.fpOk (Nat.le_refl _) h) hend
 exact codeAny_compStart_list lp (Tn.self _ 0 _ _ _ st4 lp)
theorem jcomp{elt target iter:Expr}{ifs:List Expr}{scope sc0:Scope}{tn N0:List Str}{fr:List (Str×Nat)}{wi:WI}{g:TGt}{ut:WT}{we:WE}(hsc:X.env.scope=sc0)(hN0:X.N=N0)(hc:X.calm=true)
  (hi:JI X target iter wi) (hk:scope.kind=.function) (hk0:sc0.kind=.function)
  (hnames:(scope.names.all fun x=>x.2 != .local||scope.names.lookup x.1==some .local)=true) (hcell:(scope.names.all fun x=>x.2 != .cell)=true)
  (hfree:(scope.names.all fun x=>x.2 != .free||sc0.names.lookup x.1==some .cell)=true)
  (hfr:(fr.all fun p=>(sc0.names.lookup p.1==some .cell&&scope.names.lookup p.1==some .free)&&N0[p.2]?==some p.1)=true)
  (hg:∀cl C s3 H2 ex,JG (compCx X (tn++fr.map (·.1)) scope cl C s3 H2 ex) target g) (hu:∀cl C s3 H2 ex,JTs (compCx X (tn++fr.map (·.1)) scope cl C s3 H2 ex) ifs ut)
  (he:∀cl C s3 H2 ex,JE (compCx X (tn++fr.map (·.1)) scope cl C s3 H2 ex) elt we)
  (hs:∀x,foldedSetIterable iter X.env x=pure x:=by intro _;rfl):JE X (.ListComp elt [⟨target,iter,ifs,0⟩] scope pos) (wComp wi g ut we tn.length (fr.map (·.2))):=by
 intro pins s σ H Q I hw
 obtain⟨τ,Q0,R0,hw,kk⟩:=hw
 rw[eval_ListComp]
 refine comp_core hsc hN0 hc hi.c hk hk0 hnames hcell hfree hfr hg hu he hs (pos':=_) (use:=none) I R0 hw fun s6 H6 D C m6 t f I6 fp hn S r q _=>?_
 refine⟨m6,hn,fun h7 hs7=>?_⟩
 obtain⟨g1,g2,g3,g4,g5,g6⟩:=fp
 exact⟨.ref D,H6,I6.turned (t':=s6.toks) (it:=C) (fun b o hb e=>(hs7.2 b hb).trans e) g1 g2 g4 g5 g6,rfl,kk _ _ _ S r q⟩
theorem jsetc{elt target iter:Expr}{ifs:List Expr}{scope sc0:Scope}{tn N0:List Str}{fr:List (Str×Nat)}{wi:WI}{g:TGt}{ut:WT}{we:WE}{i:Nat}{x:Str}{pos' spos:Pos}(hN:X.N.Nodup)(hiN:X.N[i]?=some x)(hx:Loc X.env.scope x)
  (hsc:X.env.scope=sc0) (hN0:X.N=N0) (hc:X.calm=true)
  (hi:JI X target iter wi) (hk:scope.kind=.function) (hk0:sc0.kind=.function)
  (hnames:(scope.names.all fun x=>x.2 != .local||scope.names.lookup x.1==some .local)=true) (hcell:(scope.names.all fun x=>x.2 != .cell)=true)
  (hfree:(scope.names.all fun x=>x.2 != .free||sc0.names.lookup x.1==some .cell)=true)
  (hfr:(fr.all fun p=>(sc0.names.lookup p.1==some .cell&&scope.names.lookup p.1==some .free)&&N0[p.2]?==some p.1)=true)
  (hg:∀cl C s3 H2 ex,JG (compCx X (tn++fr.map (·.1)) scope cl C s3 H2 ex) target g) (hu:∀cl C s3 H2 ex,JTs (compCx X (tn++fr.map (·.1)) scope cl C s3 H2 ex) ifs ut)
  (he:∀cl C s3 H2 ex,JE (compCx X (tn++fr.map (·.1)) scope cl C s3 H2 ex) elt we)
  (hs:∀x,foldedSetIterable iter X.env x=pure x:=by intro _;rfl)
  (hsw:swapsWith (.ListComp elt [⟨target,iter,ifs,0⟩] scope pos) (some (.Name x pos')) spos.line X.env=pure true:=by rfl)
  (hf:X.fn x=true∨X.env.scope.names.lookup x=some .local:=by first|exact .inl rfl|exact .inr rfl|assumption) :
  JS X (.Assign [.Name x pos'] (.ListComp elt [⟨target,iter,ifs,0⟩] scope pos) spos) (sSet i (wComp wi g ut we tn.length (fr.map (·.2)))):=by
 intro pins s σ H D I ⟨τ,D0,R0,hw,k,_⟩
 rw[exec_Assign_Name_used _ _ _ _ hsw]
 refine wpAny_bind (wpAny_standAt (wpAny_bind ?_))
 rw[arm_evalThenUse_ListComp]
 dsimp only
 refine wpAny_bind (wpAny_mono (comp_core (QQ:=fun _ s'=>SP X pins D .next s') hsc hN0 hc hi.c hk hk0 hnames hcell hfree hfr hg hu he hs (use:=some (assign (.Name x pos') X.env)) I R0 hw fun s6 H6 Da C m6 t f I6 fp hn S r q _=>?_) (fun _ s' h=>wpAny_pure (wpAny_pure h)) fun _ _ z=>z)
 obtain⟨oC,es,ep,hoC,hdC,hrC⟩:=id hn
 have Ip:=I6.pinned (fp:=[C]) (fun b hb=>by rw[List.mem_singleton.mp hb];exact fp) fun b hb=>by
  rw[List.mem_singleton.mp hb]
  exact⟨oC,hoC,fun v z=>by rw[hdC]at z;cases z⟩
 have gn:=pg_name (pos:=pos') hN hiN hx hf _ s6 σ H6 (.ref Da) (.ref Da) (fun σ' H'=>σ'=σ.set i (some (.ref Da))/\H'=H6) Ip rfl ⟨rfl,rfl⟩
 refine wpAny_mono gn (fun _ s7 h7=>?_) fun _ _ z=>z
 obtain⟨σ7,H7,I7,rfl,rfl⟩:=h7
 have pC:=(I7.pin (C,oC) (List.mem_append_right _ (List.mem_append_right _ (mem_pinsAt (List.mem_singleton.mpr rfl) hoC)))).1
 refine⟨m6,⟨oC,es,ep,pC,hdC,hrC⟩,fun h8 hs8=>?_⟩
 obtain⟨g1,g2,g3,g4,g5,g6⟩:=fp
 have I8:Inv X pins (σ.set i (some (.ref Da))) H7 s7:=I7.pins_of fun p hp=>I7.pin p (List.mem_append_right _ (List.mem_append_left _ hp))
 exact⟨_,H7,I8.turned (t':=s7.toks) (it:=C) (fun b o hb e=>(hs8.2 b hb).trans e) g1 g2 g4 g5 g6,k _ _ H7 (.of S) ((R0.mono S).put r) q⟩
end
end TL
end
section
namespace TL
open PySem PySem.Spec PyProof.Rows L2
def SeqIt(h:Heap)(it l:Addr)(k:Nat)(xs:Array Value):Prop:=(h.IsListIter it l k/\h.IsList l xs)∨(h.IsTupleIter it l k/\h.IsTuple l xs)
theorem SeqIt.keep{h h':Heap}{it l:Addr}{k:Nat}{xs:Array Value}(x:SeqIt h it l k xs)(q:∀b o,b=it∨b=l->h.get? b=some o->h'.get? b=some o):SeqIt h' it l k xs:=by
 rcases x with ⟨⟨o,e,r⟩,p,e2,r2⟩|⟨⟨o,e,r⟩,p,e2,r2⟩
 ·exact .inl ⟨⟨o,q _ _ (.inl rfl) e,r⟩,p,q _ _ (.inr rfl) e2,r2⟩
 ·exact .inr ⟨⟨o,q _ _ (.inl rfl) e,r⟩,p,q _ _ (.inr rfl) e2,r2⟩
theorem SeqIt.lt{h:Heap}{it l:Addr}{k:Nat}{xs:Array Value}(x:SeqIt h it l k xs):it < h.objs.size/\l < h.objs.size:=by
 rcases x with ⟨⟨o,e,_⟩,p,e2,_⟩|⟨⟨o,e,_⟩,p,e2,_⟩
 ·exact⟨Heap.lt_size e,Heap.lt_size e2⟩
 ·exact⟨Heap.lt_size e,Heap.lt_size e2⟩
theorem SeqIt.ne{h:Heap}{it l:Addr}{k:Nat}{xs:Array Value}(x:SeqIt h it l k xs):l≠it:=by
 rintro rfl
 rcases x with ⟨⟨o,e,c,d⟩,p,e2,c2,n,d2⟩|⟨⟨o,e,c,d⟩,p,e2,c2,n,d2⟩
 ·rw[e]at e2;cases e2;rw[d]at d2;cases d2
 ·rw[e]at e2;cases e2;rw[d]at d2;cases d2
theorem SeqIt.obj{h:Heap}{it l:Addr}{k:Nat}{xs:Array Value}(x:SeqIt h it l k xs):∃o,h.get? it=some o/\∀v,o.data ≠ .cell v:=by
 rcases x with ⟨⟨o,e,c,d⟩,_⟩|⟨⟨o,e,c,d⟩,_⟩
 ·exact⟨o,e,fun v z=>by rw[d]at z;cases z⟩
 ·exact⟨o,e,fun v z=>by rw[d]at z;cases z⟩
section
variable {prog:Program} {w:World} {A:Around} {E:Value->Shared->Prop} {s:Shared}
structure Zp(h:Heap)(z TI TO i j l m:Addr)(f:Value)(k:Nat)(xs ys:Array Value):Prop where
 z:IsZip h z TI TO f
 ti:IsPair h TI (.ref i) (.ref j)
 to:∃a b,IsPair h TO a b
 one:SeqIt h i l k xs
 two:SeqIt h j m k ys
structure Zd(z TI TO i j l m:Addr):Prop where
 nd:[z,TI,TO,i,j].Nodup
 l:l∉[z,TI,TO,i,j]
 m:m∉[z,TI,TO,i,j]
theorem Zd.all{z TI TO i j l m:Addr}(d:Zd z TI TO i j l m):(z≠TI/\z≠TO/\z≠i/\z≠j)/\(TI≠TO/\TI≠i/\TI≠j)/\(TO≠i/\TO≠j)/\i≠j/\(l≠z/\l≠TI/\l≠TO/\l≠i/\l≠j)/\(m≠z/\m≠TI/\m≠TO/\m≠i/\m≠j):=by
 obtain⟨a,b,c⟩:=d
 simp only[List.nodup_cons,List.mem_cons,List.not_mem_nil,or_false,not_or,List.nodup_nil,not_false_eq_true,and_true]at a b c
 exact⟨⟨a.1.1,a.1.2.1,a.1.2.2.1,a.1.2.2.2⟩,⟨a.2.1.1,a.2.1.2.1,a.2.1.2.2⟩,⟨a.2.2.1.1,a.2.2.1.2⟩,a.2.2.2,⟨b.1,b.2.1,b.2.2.1,b.2.2.2.1,b.2.2.2.2⟩,c.1,c.2.1,c.2.2.1,c.2.2.2.1,c.2.2.2.2⟩
end
end TL
end
section
namespace TL
open PySem PySem.Spec PyProof.Rows L2
def SeqK(h:Heap)(c:Bool)(l:Addr)(xs:Array Value):Prop:=match c with|true=>h.IsList l xs|false=>h.IsTuple l xs
def ItK(h:Heap)(c:Bool)(it l:Addr)(k:Nat):Prop:=match c with|true=>h.IsListIter it l k|false=>h.IsTupleIter it l k
theorem SeqK.lt{h:Heap}{c:Bool}{l:Addr}{xs:Array Value}(x:SeqK h c l xs):l < h.objs.size:=by
 cases c
 ·obtain⟨o,e,_⟩:=x;exact Heap.lt_size e
 ·obtain⟨o,e,_⟩:=x;exact Heap.lt_size e
theorem SeqK.push{h:Heap}{c:Bool}{l:Addr}{xs:Array Value}(x:SeqK h c l xs)(o:Obj):SeqK (h.push o) c l xs:=by
 cases c
 ·exact Heap.IsTuple.push x o
 ·exact Heap.IsList.push x o
theorem ItK.get{h:Heap}{c:Bool}{it l:Addr}{k:Nat}(x:ItK h c it l k):∃o,h.get? it=some o/\∀v,o.data ≠ .cell v:=by
 cases c
 ·obtain⟨o,e,c,d⟩:=x;exact⟨o,e,fun v z=>by rw[d]at z;cases z⟩
 ·obtain⟨o,e,c,d⟩:=x;exact⟨o,e,fun v z=>by rw[d]at z;cases z⟩
theorem ItK.keep{h h':Heap}{c:Bool}{it l:Addr}{k:Nat}(x:ItK h c it l k)(q:∀o,h.get? it=some o->h'.get? it=some o):ItK h' c it l k:=by
 cases c
 ·obtain⟨o,e,r⟩:=x;exact⟨o,q o e,r⟩
 ·obtain⟨o,e,r⟩:=x;exact⟨o,q o e,r⟩
theorem ItK.seq{h:Heap}{c:Bool}{it l:Addr}{k:Nat}{xs:Array Value}(x:ItK h c it l k)(y:SeqK h c l xs):SeqIt h it l k xs:=by
 cases c
 ·exact .inr ⟨x,y⟩
 ·exact .inl ⟨x,y⟩
theorem SeqIt.kind{h:Heap}{c:Bool}{it l:Addr}{k:Nat}{xs ys:Array Value}(x:SeqIt h it l k xs)(y:SeqK h c l ys):ItK h c it l k:=by
 rcases x with ⟨a,o,e,c1,_⟩|⟨a,o,e,c1,_⟩
 ·cases c
  ·obtain⟨o',e',c2,_⟩:=y
   rw[e]at e';cases e';rw[c1]at c2;simp at c2
  ·exact a
 ·cases c
  ·exact a
  ·obtain⟨o',e',c2,_⟩:=y
   rw[e]at e';cases e';rw[c1]at c2;simp at c2
section
variable {prog:Program} {w:World} {A:Around} {E:Value->Shared->Prop} {s:Shared}
end
section
variable {prog:Program} {w:World} {A:Around} {E:Value->Shared->Prop} {s:Shared}
end
def SqK(K:PySem.W.Frag)(H:Hp)(c:Bool)(a:Addr)(xs:List V):Prop:=match c with|true=>SqF K H a xs|false=>SqT K H a xs
theorem SqK.kp{K:PySem.W.Frag}{H H':Hp}{c:Bool}{a:Addr}{xs:List V}(h:SqK K H c a xs)(k:Kp H H'):SqK K H' c a xs:=by
 cases c
 ·exact sqT_kp k h
 ·exact sqF_kp k h
structure Zt(h:Heap)(z TI TO i j l m:Addr)(c d:Bool)(k:Nat):Prop where
 z:IsZip h z TI TO .none
 ti:IsPair h TI (.ref i) (.ref j)
 to:∃a b,IsPair h TO a b
 one:ItK h c i l k
 two:ItK h d j m k
def seqOf:T->Option (List T)
 | .tup ts=>some ts
 | .lst ts=>some ts
 | _=>none
def zipT:List T->List T->List T
 | x::xs,y::ys=>.tup [x,y]::zipT xs ys
 | _,_=>[]
def iZip(ws:WA):WI:=fun τ Q=>ws τ fun ts=>match ts with
 | [a,b]=>(match seqOf a,seqOf b with|some xs,some ys=>Q (zipT xs ys)|_,_=>False)
 | _=>False
section
variable {X:Cx} {a b:Expr} {ws:WA} {pos:Pos}
end
end TL
end
section
namespace TL
open PySem PySem.Spec PyProof.Rows L2
section
variable {X:Cx}
def intsOf:List T->Option (List Int)
 | []=>some []
 | .int i::r=>(intsOf r).map (i :: ·)
 | _=>none
theorem intsOf_eq:∀{ts:List T}{ns:List Int},intsOf ts=some ns->ts=ns.map T.int
 | [],ns,h=>by simp only[intsOf,Option.some.injEq]at h;subst h;rfl
 | t::r,ns,h=>by
  cases t with
  | int i =>
   simp only[intsOf,Option.map_eq_some_iff]at h
   obtain⟨ms,e,rfl⟩:=h
   rw[intsOf_eq e]
   rfl
  | _=>simp[intsOf]at h
theorem reps_ints_inv{K:PySem.W.Frag}{H:Hp}:∀{ns:List Int}{vs:List V},Reps K H (ns.map T.int) vs->vs=ns.map V.int
 | [],vs,h=>by simpa using reps_nil.mp h
 | n::ns,vs,h=>by
  simp only[List.map_cons]at h
  rw[reps_cons]at h
  obtain⟨v,r,rfl,h1,h2⟩:=h
  rw[rep_int.mp h1,reps_ints_inv h2]
  rfl
def rSumT(ts:List T)(Q:T->Prop):Prop:=match ts with
 | [.lst xs]=>(match intsOf xs with|some ns=>Q (.int ns.sum)|none=>False)
 | _=>False
theorem boolsAre_of:∀{bs:List Bool}{us:List Value},Vals (bs.map V.bl) us->LSm.BoolsAre us bs
 | [],us,h=>by cases h;exact .nil
 | b::bs,us,h=>by
  simp only[List.map_cons]at h
  cases h with
  | cons r1 r2=>cases r1;exact .cons b (boolsAre_of r2)
theorem call_allL(hc:X.calm=true):CallR X (.builtin "all") (fun xs H Q=>∃(p:Addr) (bs:List Bool),xs=[.ref p]/\SqL X.K H p (bs.map V.bl)/\Q (.bl (bs.all id)) H):=by
 intro pins s σ H xs us Q I r h
 obtain⟨p,bs,rfl,hq,q⟩:=h
 obtain⟨u,rfl,rx⟩:=vals1 r
 cases rx
 obtain⟨its,r',pl,hz⟩:=I.list hq
 have hb:LSm.BoolsAre its bs:=boolsAre_of r'
 have hl:=pl.isList
 have hlt:p < s.heap.objs.size:=by obtain⟨_,e,_⟩:=hl;exact Heap.lt_size e
 refine call_all_walk (wpAny_pyIter_list hl ?_)
 refine⟨s.heap.objs.size,[s.heap.objs.size,p],[s.heap.objs.size],its.toArray.size,_,_,fun i=>(bs[i]?).getD true,rfl,Walks.list (A:=X.A.in1) (I.ok.hd hc) _ p (Nat.ne_of_lt hlt) its.toArray,
  ⟨⟨_,Heap.get?_push_size _ rfl,rfl,rfl⟩,hl.push _⟩,fun i v s' Q' E' hP hQ=>?_,fun h' tk hk=>?_⟩
 ·obtain⟨b,e,rfl⟩:=hb.get i v (by simpa using hP)
  simp only[e,Option.getD_some]at hQ
  exact wpAny_truthy_bool hQ
 ·have e:((List.range its.toArray.size).all fun i=>(bs[i]?).getD true)=bs.all id:=by
   rw[List.size_toArray,hb.length];exact LSm.range_all bs
  rw[e]
  exact⟨.bl (bs.all id),H,I.kept (t':=tk) (LSm.kept_iter hk),rfl,q⟩
def boolsOf:List T->Option (List Bool)
 | []=>some []
 | .bl i::r=>(boolsOf r).map (i :: ·)
 | _=>none
theorem boolsOf_eq:∀{ts:List T}{ns:List Bool},boolsOf ts=some ns->ts=ns.map T.bl
 | [],ns,h=>by simp only[boolsOf,Option.some.injEq]at h;subst h;rfl
 | t::r,ns,h=>by
  cases t with
  | bl i =>
   simp only[boolsOf,Option.map_eq_some_iff]at h
   obtain⟨ms,e,rfl⟩:=h
   rw[boolsOf_eq e]
   rfl
  | _=>simp[boolsOf]at h
theorem reps_bools_inv{K:PySem.W.Frag}{H:Hp}:∀{ns:List Bool}{vs:List V},Reps K H (ns.map T.bl) vs->vs=ns.map V.bl
 | [],vs,h=>by simpa using reps_nil.mp h
 | n::ns,vs,h=>by
  simp only[List.map_cons]at h
  rw[reps_cons]at h
  obtain⟨v,r,rfl,h1,h2⟩:=h
  rw[rep_bl.mp h1,reps_bools_inv h2]
  rfl
def rAllT(ts:List T)(Q:T->Prop):Prop:=match ts with
 | [.lst xs]=>(match boolsOf xs with|some bs=>Q (.bl (bs.all id))|none=>False)
 | _=>False
theorem bl_all(hc:X.calm=true):BlR X (.builtin "all") rAllT:=by
 refine⟨_,call_allL hc,fun ts vs H Q0 Q r q k=>?_⟩
 unfold rAllT at q
 split at q
 ·obtain⟨v,rfl,r1⟩:=reps1 r
  split at q
  ·rename_i ns e
   rw[boolsOf_eq e,rep_lst]at r1
   obtain⟨p,ys,rfl,sq,rr⟩:=r1
   rw[reps_bools_inv rr]at sq
   exact⟨p,ns,rfl,sq.sq,k _ _ H (.refl H) (rep_bl.mpr rfl) q⟩
  ·exact q.elim
 ·exact q.elim
theorem upd_upd{H:Hp}{p:Addr}{a b:HO}:upd (upd H p a) p b=upd H p b:=by
 funext c
 by_cases h:c=p
 ·subst h;rw[upd_same,upd_same]
 ·rw[upd_ne h,upd_ne h,upd_ne h]
def rListT(ts:List T)(Q:T->Prop):Prop:=match ts with
 | [.tup xs]=>Q (.lst xs)
 | [.lst xs]=>Q (.lst xs)
 | _=>False
end
end TL
end
section
namespace TL
open PySem PySem.Spec PyProof.Rows L2
section
variable {X:Cx} {a b c e:Expr} {es:List Expr} {wa wb wc w:WE} {ws:WA} {pos:Pos}
def rSeqCat(K:PySem.W.Frag):R2:=fun x y H Q=>∃a b xs ys,x=.ref a/\y=.ref b/\xs.length + ys.length<=sizeLine ∧
  ((SqL K H a xs/\SqL K H b ys/\∀p o,H p=none->Q (.ref p) (upd H p (.frz o (.lst (xs++ys))))) ∨
   (SqT K H a xs/\SqT K H b ys/\(xs=[]->Q (.ref b) H)/\(xs≠[]->ys=[]->Q (.ref a) H)/\(xs≠[]->ys≠[]->∀p,H p=none->Q (.ref p) (upd H p (.tup (xs++ys))))))
theorem op_seqCat:OpR X (binaryOp .Add) (rSeqCat X.K):=by
 intro pins s σ H x y v u Q I rx ry h
 obtain⟨a,b,xs,ys,rfl,rfl,hz,h⟩:=h
 cases rx
 cases ry
 rcases h with ⟨ha,hb,q⟩|⟨ha,hb,q0,q1,q2⟩
 ·obtain⟨its,r1,p1,_⟩:=I.list ha
  obtain⟨its2,r2,p2,_⟩:=I.list hb
  have hl1:=r1.length
  have hl2:=r2.length
  obtain⟨⟨cls,dd,data,sl⟩,ho,hc,n,hd⟩:=p1.isList
  obtain⟨⟨cls2,dd2,data2,sl2⟩,ho2,hc2,n2,hd2⟩:=p2.isList
  simp only at hc hd hc2 hd2
  subst hc hd hc2 hd2
  refine concat_meets ⟨_,ho,rfl⟩ ⟨_,ho2,rfl⟩ noFill_list_add seq_list_add PySem.F.slot_list_add PySem.F.entry_list_add (PySem.F.args_list_add_2 _ _) (list_addW a b its.toArray its2.toArray n n2 dd dd2 sl sl2 (by simp only[List.size_toArray];omega)) ⟨ho,ho2,?_⟩
  have e:its.toArray++its2.toArray=(its++its2).toArray:=by simp
  rw[e]
  have hf:H s.heap.objs.size=none:=I.hok.fresh (Nat.le_refl _)
  refine⟨.ref s.heap.objs.size,upd H s.heap.objs.size (.frz {cls:=.type "list", data:=.seq (its++its2).toArray} (.lst (xs++ys))),I.laid (t':=s.toks) (fun b u e=>Heap.get?_push_of_some _ e) (Nat.le_refl _) ?_,rfl,q _ _ hf⟩
  exact⟨Heap.get?_push_size _ rfl,by rw[List.length_append];exact hz,its++its2,0,r1.append r2,Heap.get?_push_size _ rfl⟩
 ·obtain⟨its,r1,p1,_⟩:=I.tuple ha
  obtain⟨its2,r2,p2,_⟩:=I.tuple hb
  by_cases hx:xs=[]
  ·subst hx
   have hi:its=[]:=r1.nil_iff.mpr rfl
   subst hi
   obtain⟨⟨cls,dd,data,sl⟩,ho,hc,n,hd⟩:=p1
   obtain⟨⟨cls2,dd2,data2,sl2⟩,ho2,hc2,n2,hd2⟩:=p2
   simp only at hc hd hc2 hd2
   subst hc hd hc2 hd2
   refine concat_meets ⟨_,ho,rfl⟩ ⟨_,ho2,rfl⟩ noFill_tuple_add seq_tuple_add PySem.F.slot_tuple_add PySem.F.entry_tuple_add (PySem.F.args_tuple_add_2 _ _) (tuple_addW0 a b _ _ n n2 dd dd2 sl sl2 rfl) ⟨ho,ho2,?_⟩
   exact⟨.ref b,H,I,rfl,q0 rfl⟩
  ·refine HT.cat_tup p1 p2 (fun z=>hx (r1.nil_iff.mp z)) (fun z=>⟨.ref a,H,I,rfl,q1 hx (r2.nil_iff.mp z)⟩) (fun z=>?_) (by rw[← r1.length,← r2.length];exact hz)
   refine⟨.ref s.heap.objs.size,_,I.laid (t':=s.toks) (o:=.tup (xs++ys)) (fun b ob q=>Heap.get?_push_of_some _ q) (Nat.le_refl _) ?_,rfl,q2 hx (fun w=>z (r2.nil_iff.mpr w)) _ (I.hok.fresh (Nat.le_refl _))⟩
   exact⟨by rw[List.length_append];exact hz,_,r1.append r2,IsTup.new _ _⟩
def rCatLT(x y:T)(Q:T->Prop):Prop:=match x,y with
 | .lst xs,.lst ys=>xs.length + ys.length<=1000/\Q (.lst (xs++ys))
 | .tup xs,.tup ys=>xs.length + ys.length<=1000/\Q (.tup (xs++ys))
 | _,_=>False
theorem b_cat:BR X .Add rCatLT:=by
 refine⟨_,op_seqCat,fun t1 t2 v1 v2 H Q0 Q r1 r2 q k=>?_⟩
 unfold rCatLT at q
 split at q
 ·rw[rep_lst]at r1 r2
  obtain⟨p,vs,rfl,sq,rr⟩:=r1
  obtain⟨p',vs',rfl,sq',rr'⟩:=r2
  exact⟨p,p',vs,vs',rfl,rfl,by rw[rr.length,rr'.length];exact few q.1,.inl ⟨sq.sq,sq'.sq,fun l o hl =>
   k _ _ _ (same_new hl _) (rep_lst.mpr ⟨l,_,rfl,.inl ⟨o,upd_same⟩,(rr.append rr').kp (.of (same_new hl _))⟩) q.2⟩⟩
 ·have e1:=r1
  have e2:=r2
  rw[rep_tup]at r1 r2
  obtain⟨p,vs,rfl,sq,rr⟩:=r1
  obtain⟨p',vs',rfl,sq',rr'⟩:=r2
  have z1:=rr.length
  have z2:=rr'.length
  refine⟨p,p',vs,vs',rfl,rfl,by rw[rr.length,rr'.length];exact few q.1,.inr ⟨sq,sq',fun hx=>?_,fun _ hy=>?_,fun _ _ l hl =>
   k _ _ _ (same_new hl _) (rep_tup.mpr ⟨l,_,rfl,SqT.of upd_same,(rr.append rr').kp (.of (same_new hl _))⟩) q.2⟩⟩
  ·subst hx
   rename_i xs ys
   have:xs=[]:=List.length_eq_zero_iff.mp (by simpa using z1.symm)
   subst this
   exact k _ _ H (.refl H) e2 q.2
  ·rename_i xs ys _
   subst hy
   have:ys=[]:=List.length_eq_zero_iff.mp (by simpa using z2.symm)
   subst this
   have q':=q.2
   rw[List.append_nil]at q'
   exact k _ _ H (.refl H) e1 q'
 ·exact q.elim
def rMin3T(ts:List T)(Q:T->Prop):Prop:=match ts with
 | [.int i,.int j,.int k]=>Q (.int (if j < i then (if k < j then k else j) else (if k < i then k else i)))
 | _=>False
end
end TL
end
section
namespace TL
open PySem PySem.Spec PyProof.Rows L2
section
variable {X:Cx} {a b c e:Expr} {es:List Expr} {wa wb wc w:WE} {ws:WA} {pos:Pos}
def cnt3(lo hi c:Int):Nat:=(Builtin.Range.rangeSize lo hi c).toNat
def range3T:Int->Int->Nat->List T
 | _,_,0=>[]
 | lo,c,n + 1=>.int lo::range3T (lo + c) c n
def iRange3(ws:WA):WI:=fun τ Q=>ws τ fun ts=>match ts with
 | [.int i,.int j,.int k]=>(-(2 ^ 30)<=i/\i < 2 ^ 30 /\ -(2 ^ 30)<=j/\j < 2 ^ 30/\0 < k/\k < 2 ^ 30)/\Q (range3T i k (cnt3 i j k))
 | _=>False
theorem Vals.reverse:∀{vs:List V}{us:List Value},Vals vs us->Vals vs.reverse us.reverse
 | _,_,.nil=>.nil
 | _,_,.cons r rr=>by
  rw[List.reverse_cons,List.reverse_cons]
  exact(Vals.reverse rr).append (.cons r .nil)
theorem Reps.reverse{K:PySem.W.Frag}{H:Hp}:∀{ts:List T}{vs:List V},Reps K H ts vs->Reps K H ts.reverse vs.reverse
 | [],vs,h=>by rw[reps_nil]at h;subst h;simp[reps_nil]
 | t::ts,vs,h=>by
  rw[reps_cons]at h
  obtain⟨v,r,rfl,a,b⟩:=h
  rw[List.reverse_cons,List.reverse_cons]
  exact(Reps.reverse b).append (.one a)
def wRev(wa ws:WE):WE:=fun τ Q=>wa τ fun x=>ws τ fun y=>match x,y with | .lst ts,.int i=>i=-1/\Q (.lst ts.reverse)|_,_=>False
end
end TL
end
section
namespace TL
open PySem PySem.Spec PyProof.Rows L2
section
variable {prog:Program} {w:World} {A:Around} {E:Value->Shared->Prop} {s:Shared}
end
section
variable {X:Cx} {a b c e:Expr} {es:List Expr} {wa wb wc w:WE} {ws:WA} {pos:Pos}
def wRevA(wa ws:WE):WE:=fun τ Q=>wa τ fun x=>ws τ fun y=>match x,y with | .tup ts,.int i=>i=-1/\Q (.tup ts.reverse) | .lst ts,.int i=>i=-1/\Q (.lst ts.reverse)|_,_=>False
abbrev WO:=List Slot->(Option Int->Prop)->Prop
def upO(K:PySem.W.Frag)(H0:Hp)(w:WO):TO:=fun σ H Q=>∃(τ:List Slot) (Q0:Option Int->Prop),RepSt K H0 H σ τ/\w τ Q0/\∀o H',Same H H'->Q0 o->Q o H'
def JO(X:Cx)(e:Option Expr)(w:WO):Prop:=PO X e (upO X.K X.H₀ w)
def wo0:WO:=fun _ Q=>Q none
def wo(wa:WE):WO:=fun τ Q=>wa τ fun x=>match x with | .int i=>Q (some i)|_=>False
theorem po_of{e:Option Expr}{t t':TO}(h:PO X e t)(f:∀σ H Q,t' σ H Q->t σ H Q):PO X e t':=fun pins s σ H Q I hw=>h pins s σ H Q I (f σ H Q hw)
theorem jo0:JO X none wo0:=po_of po_none fun σ H Q ⟨τ,Q0,R,hw,k⟩=>k _ H (.refl H) hw
theorem jo(h:JE X e wa):JO X (some e) (wo wa):=po_of (po_some h) fun σ H Q ⟨τ,Q0,R,hw,k⟩=>⟨τ,_,R,hw,fun t v H1 S1 r q=>by
 cases t<;>first|exact q.elim|skip
 exact⟨_,rep_int.mp r,k _ H1 S1 q⟩⟩
def cutT(ts:List T)(lo hi:Option Int):List T:=(ts.drop (HT.sIx ts.length 0 lo)).take (HT.sIx ts.length ts.length hi - HT.sIx ts.length 0 lo)
theorem cut_reps{K:PySem.W.Frag}{H:Hp}{ts:List T}{vs:List V}{lo hi:Option Int}(r:Reps K H ts vs):Reps K H (cutT ts lo hi) (cutV vs lo hi):=by
 unfold cutT cutV
 rw[r.length]
 exact(r.drop _).take _
def rSlTT(x:T)(lo hi:Option Int)(Q:T->Prop):Prop:=match x with
 | .tup ts=>¬ (HT.sIx ts.length 0 lo=0/\HT.sIx ts.length ts.length hi=ts.length)/\Q (.tup (cutT ts lo hi))
 | .lst ts=>Q (.lst (cutT ts lo hi))
 | _=>False
def wSl(wa:WE)(wl wh:WO):WE:=fun τ Q=>wa τ fun x=>wl τ fun lo=>wh τ fun hi=>rSlTT x lo hi Q
def rSlF(K:PySem.W.Frag):V->Option Int->Option Int->Hp->VK->Prop:=fun x lo hi H Q=>∃a xs,x=.ref a/\SqL K H a xs/\∀p o,H p=none->Q (.ref p) (upd H p (.frz o (.lst (cutV xs lo hi))))
theorem sl_listF:SlR X (rSlF X.K):=by
 intro pins s σ H x v vl vu lo hi sl Q I rx hs pl pu h
 obtain⟨a,xs,rfl,hx,q⟩:=h
 cases rx
 obtain⟨its,r,ht,hz⟩:=I.list hx
 have hlen:=r.length
 refine⟨"list", _,slot_list_getitem.lookup,ht.isList.typeIs,?_⟩
 refine wpAny_getItem_list_slice ht.isList hs pl pu .none (by simp) ?_ (by rw[List.size_toArray]<;>omega)
 rw[slicePick_cut,← hlen]
 refine⟨.ref s.heap.objs.size,_,I.laid (t':=s.toks) (o:=.frz {cls:=.type "list", data:=.seq ((its.drop (HT.sIx xs.length 0 lo)).take (HT.sIx xs.length xs.length hi - HT.sIx xs.length 0 lo)).toArray} (.lst (cutV xs lo hi))) (fun b ob q=>Heap.get?_push_of_some _ q) (Nat.le_refl _) ?_,rfl,q _ _ (I.hok.fresh (Nat.le_refl _))⟩
 exact⟨Heap.get?_push_size _ rfl,Nat.le_trans (cutV_length xs lo hi) hz,_,0,(r.drop (HT.sIx xs.length 0 lo)).take (HT.sIx xs.length xs.length hi - HT.sIx xs.length 0 lo),Heap.get?_push_size _ rfl⟩
theorem jsl{lo hi:Option Expr}{wl wh:WO}{p2:Pos}(ha:JE X e wa)(hl:JO X lo wl)(hh:JO X hi wh):JE X (.Subscript e (.Slice lo hi none p2) pos) (wSl wa wl wh):=pe_of (pe_slice (sl_listF.or sl_tup) ha hl hh) fun σ H Q ⟨τ,Q0,R,hw,k⟩ =>
 ⟨τ,_,R,hw,fun t v H1 S1 r1 q1=>⟨τ,_,R.mono S1,q1,fun l H2 S2 q2=>⟨τ,_,R.mono (S1.trans S2),q2,fun h H3 S3 q3=>by
  have r1':=r1.kp (.of (S2.trans S3))
  cases t<;>first|exact q3.elim|skip
  ·rename_i ts
   rw[rep_tup]at r1'
   obtain⟨p,vs,rfl,sq,rr⟩:=r1'
   refine .inr ⟨p,vs,rfl,sq,by rw[rr.length];exact q3.1,fun pp hp=>k _ _ _ (S1.trans (S2.trans (S3.trans (same_new hp _)))) (rep_tup.mpr ⟨pp,_,rfl,SqT.of upd_same,(cut_reps rr).kp (.of (same_new hp _))⟩) q3.2⟩
  ·rename_i ts
   rw[rep_lst]at r1'
   obtain⟨p,vs,rfl,sq,rr⟩:=r1'
   exact .inl ⟨p,vs,rfl,sq.sq,fun pp o hp=>k _ _ _ (S1.trans (S2.trans (S3.trans (same_new hp _)))) (rep_lst.mpr ⟨pp,_,rfl,.inl ⟨o,upd_same⟩,(cut_reps rr).kp (.of (same_new hp _))⟩) q3⟩⟩⟩⟩
end
end TL
end
section
namespace TL
open PySem PySem.Spec PyProof.Rows L2
open AutoSeq1 (wpAny_loadPart')
open MeetsSeq
end TL
end
section
namespace TL
open PySem PySem.Spec PyProof.Rows L2
def cNeE(x y:T)(Q:Bool->Prop):Prop:=match x,y with
 | .lst xs,.lst []=>Q (!xs.isEmpty)
 | _,_=>False
theorem c_neE{X:Cx}{k:Nat}(hr:Room k X.A):CRT X .NotEq cNeE:=by
 refine⟨fun x y H Q=>∃xs,Rep X.K H (.lst xs) x/\Rep X.K H (.lst []) y/\Q (.bl (!xs.isEmpty)) H,?_,fun t1 t2 v1 v2 H Q0 Q r1 r2 q k=>?_⟩
 ·intro pins s σ H x y v u Q I rx ry h
  obtain⟨xs,r1,r2,q⟩:=h
  have hu:=hr.units
  rw[rep_lst]at r1 r2
  obtain⟨p,vs,rfl,sq,rr⟩:=r1
  obtain⟨p',vs',rfl,sq',rr'⟩:=r2
  cases rx
  cases ry
  rw[reps_nil]at rr'
  subst rr'
  obtain⟨its,rv,pl,_⟩:=I.list sq.sq
  obtain⟨its',rv',pl',_⟩:=I.list sq'.sq
  have e':its'=[]:=by cases rv';rfl
  subst e'
  have n1:its.length=xs.length:=by rw[← rv.length,rr.length]
  cases xs with
  | nil =>
   have e:its=[]:=List.length_eq_zero_iff.mp n1
   subst e
   exact SeqAt.RcNeAt.lists (e:=fun _=>true) pl.isList pl'.isList rfl (by omega) (fun j h1=>by simp at h1) X.prog X.w _ _ ⟨.bl _,H,I,rfl,q⟩
  | cons a b =>
   have n2:its.toArray.size=b.length + 1:=by simpa using n1
   exact SeqAt.RcNeAt.lists_lengths pl.isList pl'.isList (by rw[n2];simp) (by omega) X.prog X.w _ _ ⟨.bl _,H,I,rfl,q⟩
 ·unfold cNeE at q
  split at q
  ·exact⟨_,r1,r2,k _ q⟩
  ·exact q.elim
end TL
end
section
namespace TL
open PySem PySem.Spec PyProof.Rows L2
section
variable {X:Cx} {a b c e:Expr} {es:List Expr} {wa wb wc w:WE} {pos:Pos}
def wOIx(i:Nat)(wb:WE):WE:=fun τ Q=>match sget τ i with
 | .own ts=>wb τ fun y=>(match y with | .int k=>(match atI ts k with|some t=>Q t|none=>False)|_=>False)
 | _=>False
def wOLen(i:Nat):WE:=fun τ Q=>match sget τ i with | .own ts=>Q (.int ts.length)|_=>False
theorem jlenO{i:Nat}{x:Str}{p pc:Pos}(hv:PE X (.Name x p) (tVar i)) (hg:Gl X "len") (hm:X.mg "len" = none) (hb:bootBuiltins "len" = some (.builtin "len"):=by rfl)
  (he:starEach [.Name x p] X.env=(false,eval (.Name x p) X.env)::starEach [] X.env:=by exact star1 rfl) (hpl:(backTo pos (starEach [] X.env)).any (·.1)=false:=by exact stars rfl) :
  JE X (.Call (.Name "len" pc) [.Name x p] [] pos) (wOLen i):=pe_of (pe_callB call_len_seq hg hm hb (pa_cons hv pa_nil he) (by decide) (by decide) he hpl) fun σ H Q ⟨τ,Q0,R,hw,k⟩=>by
 unfold wOLen at hw
 cases own:sget τ i with
 | no=>rw[own]at hw;exact hw.elim
 | val t=>rw[own]at hw;exact hw.elim
 | see t=>rw[own]at hw;exact hw.elim
 | dic t=>rw[own]at hw;exact hw.elim
 | vat t v=>rw[own]at hw;exact hw.elim
 | own ts =>
  rw[own]at hw
  have sl:=R.slot i
  rw[own]at sl
  obtain⟨q,vs,ev,hp,rr,n0⟩:=sl
  refine⟨.ref q,ev,?_⟩
  exact⟨q,vs,rfl,.inl (SqL.of hp),by rw[rr.length];exact k _ _ H (.refl H) (rep_int.mpr rfl) hw⟩
def tONe(i:Nat):WT:=fun τ Q=>match sget τ i with | .own ts=>Q (!ts.isEmpty)|_=>False
end
end TL
end
section
namespace TL
open PySem PySem.Spec PyProof.Rows L2
section
variable {X:Cx} {a b c e:Expr} {es:List Expr} {wa wb wc w:WE} {pos:Pos}
def rIxST(x y:T)(Q:T->Prop):Prop:=match x,y with
 | .str z,.int i=>z.length<=1000/\(match atI z.cps.toList i with|some c=>Q (.str ⟨#[c]⟩)|none=>False)
 | _,_=>False
theorem jixS(ha:JE X a wa)(hb:JE X b wb)(hs:PlainIx b:=by intro _ _;rfl):JE X (.Subscript a b pos) (w2 rIxST wa wb):=pe_of (pe_ix ix_seq ha hb hs) (up2 fun t1 t2 v1 v2 H Q0 Q r1 r2 q k=>by
 cases t1<;>cases t2<;>first|exact q.elim|skip
 rename_i z i
 obtain⟨hz,q⟩:z.length<=1000/\(match atI z.cps.toList i with|some c=>Q0 (.str ⟨#[c]⟩)|none=>False):=q
 cases e:atI z.cps.toList i with
 | none=>rw[e]at q;exact q.elim
 | some c =>
  rw[e]at q
  exact .inr (.inr ⟨z,i,c,rep_str.mp r1,rep_int.mp r2,few hz,e,k _ _ H (.refl H) (rep_str.mpr rfl) q⟩))
def rAddST(x y:T)(Q:T->Prop):Prop:=match x,y with
 | .str i,.str j=>i.length + j.length<=1000/\Q (.str (i++j))
 | _,_=>False
theorem b_addS:BR X .Add rAddST:=⟨_,op_add_str,fun t1 t2 v1 v2 H Q0 Q r1 r2 q k=>by
 cases t1<;>cases t2<;>first|exact q.elim|skip
 rename_i i j
 obtain⟨hz,q⟩:i.length + j.length<=1000/\Q0 (.str (i++j)):=q
 exact⟨i,j,rep_str.mp r1,rep_str.mp r2,few hz,k _ _ H (.refl H) (rep_str.mpr rfl) q⟩⟩
def repS(z:Str)(n:Int):Str:=if n < 1 then Str.empty else if (n==1||z.length==0)=true then z else ⟨(List.replicate n.toNat z.cps).foldl (· ++ ·) #[]⟩
def rMulST(x y:T)(Q:T->Prop):Prop:=match x,y with
 | .str z,.int n=>z.length<=1/\0<=n/\n<=1000/\Q (.str (repS z n))
 | _,_=>False
theorem op_mulS:OpR X (binaryOp .Mult) (fun x y H Q=>∃z n,x=.str z/\y=.int n/\z.length<=1/\0<=n/\n<=1000/\Q (.str (repS z n)) H):=by
 intro pins s σ H x y v u Q I rx ry h
 obtain⟨z,n,rfl,rfl,hz,h0,h1,q⟩:=h
 obtain⟨t,rfl⟩:=rx
 obtain⟨t',rfl⟩:=ry
 have e1:decide (n < -(2 ^ 63:Int))=false:=decide_eq_false (by omega)
 have e2:decide (n ≥ 2 ^ 63)=false:=decide_eq_false (by omega)
 have line:1000<=sizeLine:=few (Nat.le_refl _)
 refine PySem.P.mul_str (by rw[e1,e2];rfl) (fun _ _=>?_) (fun _ _=>?_) ?_
 ·have:(1000:Int)<=(2 ^ 63 - 1) / n:=by
   have hn:0 < n:=by omega
   have:=Int.le_ediv_of_mul_le hn (show (1000:Int) * n<=2 ^ 63 - 1 by omega)
   exact this
  omega
 ·have:z.length * n.toNat<=1000:=by
   have:z.length * n.toNat<=1 * n.toNat:=Nat.mul_le_mul_right _ hz
   omega
  unfold Builtin.Str.tooLong
  simp only[decide_eq_false_iff_not]
  omega
 ·unfold repS at q
  split
  ·rename_i hn
   rw[if_pos hn]at q
   exact⟨by decide,.str _,H,I.tok _,⟨_,rfl⟩,q⟩
  ·rename_i hn
   rw[if_neg hn]at q
   split
   ·rename_i hc
    rw[if_pos hc]at q
    exact⟨.str z,H,I,⟨_,rfl⟩,q⟩
   ·rename_i hc
    rw[if_neg hc]at q
    refine⟨?_,.str _,H,I.tok _,⟨_,rfl⟩,q⟩
    have e:=len_reps z.cps n.toNat #[]
    show (List.foldl (fun x1 x2=>x1++x2) #[] (List.replicate n.toNat z.cps)).size<=sizeLine
    have hz':z.cps.size<=1:=hz
    have:n.toNat * z.cps.size<=n.toNat * 1:=Nat.mul_le_mul_left _ hz'
    simp only[Array.size_empty,Nat.zero_add]at e
    rw[e]
    omega
theorem b_mulS:BR X .Mult rMulST:=⟨_,op_mulS,fun t1 t2 v1 v2 H Q0 Q r1 r2 q k=>by
 cases t1<;>cases t2<;>first|exact q.elim|skip
 rename_i z n
 obtain⟨hz,h0,h1,q⟩:z.length<=1/\0<=n/\n<=1000/\Q0 (.str (repS z n)):=q
 exact⟨z,n,rep_str.mp r1,rep_int.mp r2,hz,h0,h1,k _ _ H (.refl H) (rep_str.mpr rfl) q⟩⟩
def tTruT(wa:WE):WT:=fun τ Q=>wa τ fun x=>match x with | .bl k=>Q k | .lst ts=>Q (!ts.isEmpty)|_=>False
theorem ttru(ha:JE X a wa)(he:∀whole,isTrue a X.env whole=(do let v ← whole;standAt a.pos;holding [v] (truthy v)):=by intro _;rfl):JT X a (tTruT wa) :=
 pt_of (pt_truth ha he) fun σ H Q ⟨τ,Q0,R,hw,k⟩=>⟨τ,_,R,hw,fun t v H1 S1 r q=>by
  cases t<;>first|exact q.elim|skip
  ·rename_i b
   rw[rep_bl]at r
   subst r
   exact⟨b,rfl,k _ H1 S1 q⟩
  ·rename_i ts
   rw[rep_lst]at r
   obtain⟨p,vs,rfl,sq,rr⟩:=r
   refine⟨!vs.isEmpty,.inl ⟨vs,sq.sq,rfl⟩,?_⟩
   have e:(!vs.isEmpty)=!ts.isEmpty:=by
    have:=rr.length
    cases vs<;>cases ts<;>simp_all
   rw[e]
   exact k _ H1 S1 q⟩
def strsOf:List T->Option (List Str)
 | []=>some []
 | .str z::r=>(strsOf r).map (z :: ·)
 | _=>none
theorem strsOf_eq:∀{ts:List T}{zs:List Str},strsOf ts=some zs->ts=zs.map T.str
 | [],zs,h=>by simp only[strsOf,Option.some.injEq]at h;subst h;rfl
 | t::r,zs,h=>by
  cases t<;>simp only[strsOf,reduceCtorEq]at h
  rename_i z
  cases e:strsOf r with
  | none=>rw[e]at h;cases h
  | some us =>
   rw[e]at h
   simp only[Option.map_some,Option.some.injEq]at h
   subst h
   rw[strsOf_eq e]
   rfl
theorem strsOf_map(zs:List Str):strsOf (zs.map T.str)=some zs:=by
 induction zs with
 | nil=>rfl
 | cons z r ih=>simp only[List.map_cons,strsOf,ih,Option.map_some]
theorem reps_strs{K:PySem.W.Frag}{H:Hp}:∀zs:List Str,Reps K H (zs.map T.str) (zs.map V.str)
 | []=>reps_nil.mpr rfl
 | z::r=>reps_cons.mpr ⟨_,_,rfl,rep_str.mpr rfl,reps_strs r⟩
theorem reps_strs_inv{K:PySem.W.Frag}{H:Hp}:∀{zs:List Str}{vs:List V},Reps K H (zs.map T.str) vs->vs=zs.map V.str
 | [],vs,r=>by rw[List.map_nil,reps_nil]at r;exact r
 | z::zs,vs,r=>by
  rw[List.map_cons,reps_cons]at r
  obtain⟨v,vr,rfl,r1,r2⟩:=r
  rw[rep_str.mp r1,reps_strs_inv r2]
  rfl
def cInT(x y:T)(Q:Bool->Prop):Prop:=match x,y with
 | .str z,.lst ts=>(match strsOf ts with|some zs=>Q (zs.contains z)|none=>False)
 | .int z,.lst ts=>(match intsOf ts with|some zs=>Q (zs.contains z)|none=>False)
 | _,_=>False
def cNotInT(x y:T)(Q:Bool->Prop):Prop:=match x,y with
 | .str z,.lst ts=>(match strsOf ts with|some zs=>Q (!zs.contains z)|none=>False)
 | .int z,.lst ts=>(match intsOf ts with|some zs=>Q (!zs.contains z)|none=>False)
 | _,_=>False
theorem flat_strs(zs:List Str):(zs.map V.str).all flatV=true:=by
 induction zs with
 | nil=>rfl
 | cons z r ih=>rw[List.map_cons,List.all_cons,ih];rfl
theorem inV_strs(z:Str)(zs:List Str):inV (.str z) (zs.map V.str)=zs.contains z:=by
 unfold inV
 induction zs with
 | nil=>rfl
 | cons y r ih =>
  rw[List.map_cons,List.any_cons,ih,List.contains_cons]
  have:eqV (.str y) (.str z)=(z==y):=by
   show (y==z)=(z==y)
   exact Bool.eq_iff_iff.mpr ⟨fun h=>by rw[beq_iff_eq]at h ⊢;exact h.symm,fun h=>by rw[beq_iff_eq]at h ⊢;exact h.symm⟩
  rw[this]
theorem flat_ints(zs:List Int):(zs.map V.int).all flatV=true:=by
 induction zs with
 | nil=>rfl
 | cons z r ih=>rw[List.map_cons,List.all_cons,ih];rfl
theorem inV_ints(z:Int)(zs:List Int):inV (.int z) (zs.map V.int)=zs.contains z:=by
 unfold inV
 induction zs with
 | nil=>rfl
 | cons y r ih =>
  rw[List.map_cons,List.any_cons,ih,List.contains_cons]
  have:eqV (.int y) (.int z)=(z==y):=by
   show (decide (y=z))=(z==y)
   exact Bool.eq_iff_iff.mpr ⟨fun h=>by rw[decide_eq_true_eq]at h;rw[beq_iff_eq];exact h.symm,fun h=>by rw[beq_iff_eq]at h;rw[decide_eq_true_eq];exact h.symm⟩
  rw[this]
theorem c_in:CRT X .In cInT:=by
 refine⟨_,op_in_seq,fun t1 t2 v1 v2 H Q0 Q r1 r2 q k=>?_⟩
 cases t1<;>cases t2<;>first|exact q.elim|skip
 ·rename_i z ts
  have q':(match intsOf ts with|some zs=>Q0 (zs.contains z)|none=>False):=q
  cases e:intsOf ts with
  | none=>rw[e]at q';exact q'.elim
  | some zs =>
   rw[e]at q'
   rw[intsOf_eq e,rep_lst]at r2
   obtain⟨p,vs,rfl,sq,rr⟩:=r2
   have ev:=reps_ints_inv rr
   subst ev
   have ez:=rep_int.mp r1
   subst ez
   refine⟨p,_,rfl,.inl sq.sq,rfl,flat_ints zs,?_⟩
   rw[inV_ints]
   exact k _ q'
 ·rename_i z ts
  have q':(match strsOf ts with|some zs=>Q0 (zs.contains z)|none=>False):=q
  cases e:strsOf ts with
  | none=>rw[e]at q';exact q'.elim
  | some zs =>
   rw[e]at q'
   rw[strsOf_eq e,rep_lst]at r2
   obtain⟨p,vs,rfl,sq,rr⟩:=r2
   have ev:=reps_strs_inv rr
   subst ev
   have ez:=rep_str.mp r1
   subst ez
   refine⟨p,_,rfl,.inl sq.sq,rfl,flat_strs zs,?_⟩
   rw[inV_strs]
   exact k _ q'
theorem c_notin:CRT X .NotIn cNotInT:=by
 refine⟨_,op_notIn_seq,fun t1 t2 v1 v2 H Q0 Q r1 r2 q k=>?_⟩
 cases t1<;>cases t2<;>first|exact q.elim|skip
 ·rename_i z ts
  have q':(match intsOf ts with|some zs=>Q0 (!zs.contains z)|none=>False):=q
  cases e:intsOf ts with
  | none=>rw[e]at q';exact q'.elim
  | some zs =>
   rw[e]at q'
   rw[intsOf_eq e,rep_lst]at r2
   obtain⟨p,vs,rfl,sq,rr⟩:=r2
   have ev:=reps_ints_inv rr
   subst ev
   have ez:=rep_int.mp r1
   subst ez
   refine⟨p,_,rfl,.inl sq.sq,rfl,flat_ints zs,?_⟩
   rw[if_pos rfl,inV_ints]
   exact k _ q'
 ·rename_i z ts
  have q':(match strsOf ts with|some zs=>Q0 (!zs.contains z)|none=>False):=q
  cases e:strsOf ts with
  | none=>rw[e]at q';exact q'.elim
  | some zs =>
   rw[e]at q'
   rw[strsOf_eq e,rep_lst]at r2
   obtain⟨p,vs,rfl,sq,rr⟩:=r2
   have ev:=reps_strs_inv rr
   subst ev
   have ez:=rep_str.mp r1
   subst ez
   refine⟨p,_,rfl,.inl sq.sq,rfl,flat_strs zs,?_⟩
   rw[if_pos rfl,inV_strs]
   exact k _ q'
theorem strsAre_of:∀{zs:List Str}{us:List Value},Vals (zs.map V.str) us->StrsAre us zs
 | [],us,h=>by cases h;exact .nil
 | z::zs,us,h=>by
  simp only[List.map_cons]at h
  cases h with
  | cons r1 r2=>obtain⟨t,rfl⟩:=r1;exact .cons z t (strsAre_of r2)
theorem vals_strs:∀{us:List Value}{zs:List Str},StrsAre us zs->Vals (zs.map V.str) us
 | _,_,.nil=>.nil
 | _,_,.cons y t r=>.cons ⟨t,rfl⟩ (vals_strs r)
theorem call_sortedS:CallR X (.builtin "sorted") (fun xs H Q=>∃(p:Addr) (zs:List Str),xs=[.ref p]/\SqL X.K H p (zs.map V.str)/\zs.length < 64/\∀us:List Str,us.Perm zs->sortedS us=true->∀l o,H l=none->Q (.ref l) (upd H l (.frz o (.lst (us.map V.str))))):=by
 intro pins s σ H xs us Q I r h
 obtain⟨p,zs,rfl,hq,hl,q⟩:=h
 obtain⟨u,rfl,rx⟩:=vals1 r
 cases rx
 obtain⟨its,r',pl,hz⟩:=I.list hq
 have hS:=strsAre_of r'
 have n1:its.length=zs.length:=by rw[← r'.length,List.length_map]
 refine sorted_strs (vs:=its) pl.isList hS (by omega) fun out ss' h1 h2 h3=>?_
 obtain⟨en,he⟩:=sortedAll_at s.heap its out
 have hn:H (s.heap.objs.size + 1)=none:=I.hok.fresh (Nat.le_succ _)
 have hlen:out.toList.length<=sizeLine:=by
  have a1:=(vals_strs h1).length
  have a2:=h2.length_eq
  rw[List.length_map]at a1
  have a3:(64:Nat)<=sizeLine:=Nat.le_trans (by decide) (few (Nat.le_refl 1000))
  omega
 refine⟨.ref (s.heap.objs.size + 1),upd H (s.heap.objs.size + 1) (.frz (seqObj "list" out en) (.lst (ss'.map V.str))),I.laid (t':=s.toks) (fun b u e=>sortedAll_old e) (Nat.le_succ _) ?_,rfl,q ss' h2 h3 _ _ hn⟩
 refine⟨he,by rw[(vals_strs h1).length];exact hlen,out.toList,en,vals_strs h1,?_⟩
 exact he
def rSortT(ts:List T)(Q:T->Prop):Prop:=match ts with
 | [.lst xs]=>(match strsOf xs with|some zs=>zs.length < 64/\∀us:List Str,us.Perm zs->sortedS us=true->Q (.lst (us.map T.str))|none=>False)
 | _=>False
theorem bl_sorted:BlR X (.builtin "sorted") rSortT:=by
 refine⟨_,call_sortedS,fun ts vs H Q0 Q r q k=>?_⟩
 unfold rSortT at q
 split at q
 ·obtain⟨v,rfl,r1⟩:=reps1 r
  split at q
  ·rename_i zs e
   rw[strsOf_eq e,rep_lst]at r1
   obtain⟨p,ys,rfl,sq,rr⟩:=r1
   rw[reps_strs_inv rr]at sq
   refine⟨p,zs,rfl,sq.sq,q.1,fun us hp hs l o hl=>k _ _ _ (same_new hl _) (rep_lst.mpr ⟨l,_,rfl,.inl ⟨o,upd_same⟩,reps_strs us⟩) (q.2 us hp hs)⟩
  ·exact q.elim
 ·exact q.elim
end
end TL
end
section
namespace TL
open PySem PySem.Spec PyProof.Rows L2
section
variable {X:Cx}
end
end TL
namespace TL
open PySem PySem.Spec PyProof.Rows L2
section
end
end TL
namespace TL
open PySem PySem.Spec PyProof.Rows L2
section
variable {X:Cx}
end
end TL
namespace TL
open PySem PySem.Spec PyProof.Rows L2
section
variable {X:Cx}
end
end TL
end
section
namespace TL
open PySem PySem.Spec PyProof.Rows L2
section
variable {X:Cx} {a b c e:Expr} {es:List Expr} {wa wb wc w:WE} {pos:Pos}
end
end TL
end
section
namespace TL
open PySem PySem.Spec PyProof.Rows L2
section
variable {prog:Program} {w:World} {A:Around} {E:Value->Shared->Prop} {s:Shared}
end
section
variable {X:Cx} {a b e:Expr} {wa wb:WE} {pos:Pos}
def rIxD:R2:=fun x y H Q=>∃(p:Addr) (o:Obj) (kvs:List IntP) (i:Int) (v:V),x=.ref p/\y=.int i/\H p=some (.frz o (.dK (kvs.map toK)))/\(kvs.map (·.1)).Nodup/\(i,v)∈kvs/\Q v H
theorem valueAt_mem{K:Type} [DecidableEq K] {vs:List (K×Value)} {k:K} {v:Value} (hn:(vs.map (·.1)).Nodup) (h:(k,v)∈vs):valueAt vs k=some v:=by
 induction vs with
 | nil=>simp at h
 | cons q r ih =>
  simp only[List.map_cons,List.nodup_cons]at hn
  unfold valueAt
  rw[List.find?_cons]
  rcases List.mem_cons.mp h with e|h
  ·subst e;simp
  ·have ne:q.1≠k:=fun e=>hn.1 (by rw[e];exact List.mem_map.mpr ⟨_,h,rfl⟩)
   rw[decide_eq_false ne]
   exact ih hn.2 h
theorem kv_mem{vs:List (Key×Value)}{kvs:List (Key×V)}{k:Key}{z:V}(rel:KV kvs vs)(h:(k,z)∈kvs):∃w,(k,w)∈vs/\RelV z w:=by
 induction rel with
 | nil=>simp at h
 | @cons a b as bs h1 h2 ih =>
  rcases List.mem_cons.mp h with e|h
  ·subst e
   obtain⟨b1,b2⟩:=b
   exact⟨b2,by have:=h1.1;simp only at this;subst this;exact List.mem_cons_self,h1.2⟩
  ·obtain⟨w,m,r⟩:=ih h
   exact⟨w,List.mem_cons_of_mem _ m,r⟩
theorem kv_keys{vs:List (Key×Value)}{kvs:List (Key×V)}(rel:KV kvs vs):vs.map (·.1)=kvs.map (·.1):=by
 induction rel with
 | nil=>rfl
 | cons h1 h2 ih=>simp only[List.map_cons,ih,h1.1]
theorem toK_nodup{kvs:List IntP}(hn:(kvs.map (·.1)).Nodup):((kvs.map toK).map (·.1)).Nodup:=by
 have e:(kvs.map toK).map (·.1)=(kvs.map (·.1)).map (Sum.inl:Int->Key):=by simp[toK,Function.comp_def]
 rw[e]
 exact List.pairwise_map.mpr (hn.imp fun h e=>h (Sum.inl.inj e))
theorem ix_dict:IxR X rIxD:=by
 intro value slice pins s σ H x y v u Q I rx ry h hs
 obtain⟨p,o,kvs,i,z,rfl,rfl,hp,hn,hm,q⟩:=h
 cases rx
 obtain⟨t,rfl⟩:=ry
 obtain⟨_,hz,big,vs,rel,dd⟩:=I.hok p _ hp
 have hT:s.TypeIs (.ref p) "dict" := dd.typeIs
 obtain⟨w,hw,rw'⟩:∃w,valueAt vs (.inl i)=some w/\RelV z w:=by
  obtain⟨w,m,r⟩:=kv_mem rel (List.mem_map.mpr ⟨(i,z),hm,rfl⟩:((Sum.inl i:Key),z)∈kvs.map toK)
  exact⟨w,valueAt_mem (by rw[kv_keys rel];exact toK_nodup hn) m,r⟩
 exact subscriptTail_builtinR (x:=w) hT F.slot_dict_getitem.lookup
  (wpAny_getItem_of (Q:=fun r s'=>r=w/\EP X pins σ Q r s') (mixKind_int _ _ i t) dd.mapOf hw ⟨rfl,z,H,I.tok _,rw',q⟩) hs
def prT(p:Int×T):T:=.tup [.int p.1,p.2]
def wDIx(wa wb:WE):WE:=fun τ Q=>wa τ fun x=>∃ps:List (Int×T),x=.lst (ps.map prT)/\(ps.map (·.1)).Nodup/\wb τ fun y=>∃i t,y=.int i/\(i,t)∈ps/\Q t
def sDic(i:Nat)(wa:WE):WS:=fun D τ=>wa τ fun x=>∃ps:List (Int×T),x=.lst (ps.map prT)/\(ps.map (·.1)).Nodup/\D.nx (sput τ i (.dic ps))
def wDis(i:Nat)(wb:WE):WE:=fun τ Q=>match sget τ i with
 | .dic ps=>(ps.map (·.1)).Nodup/\wb τ fun y=>∃j t,y=.int j/\(j,t)∈ps/\Q t
 | _=>False
def tNinD(i:Nat)(wa:WE):WT:=fun τ Q=>wa τ fun y=>match y,sget τ i with | .int j,.dic ps=>Q (!decide (j∈ps.map (·.1)))|_,_=>False
def wRepL(ws:WA)(wb:WE):WE:=fun τ Q=>ws τ fun ts=>ts.length<=1000/\wb τ fun y=>∃k:Nat,y=.int k/\k<=1000/\ts.length * k<=1000/\Q (.lst (List.replicate k ts).flatten)
end
end TL
end
section
namespace TL
open PySem PySem.Spec PyProof.Rows L2
section
variable {X:Cx} {a b e:Expr} {wa wb:WE} {pos:Pos}
def rJoinT(sep:Str)(y:T)(Q:T->Prop):Prop:=match y with
 | .lst ts=>(match strsOf ts with|some zs=>(zs.map (·.length)).sum + zs.length * sep.length<=16777216/\Q (.str (Txt.join sep zs))|none=>False)
 | _=>False
def wJoin(wa wb:WE):WE:=fun τ Q=>wa τ fun x=>match x with
 | .str sep=>wb τ fun y=>rJoinT sep y Q
 | _=>False
def rStrT(ts:List T)(Q:T->Prop):Prop:=match ts with
 | [.str z]=>Q (.str z)
 | [.int i]=>i.natAbs < 2 ^ 64/\Q (.str (Str.ofString (toString i)))
 | _=>False
def rLenST(ts:List T)(Q:T->Prop):Prop:=match ts with
 | [.str z]=>z.length<=1000/\Q (.int z.length)
 | _=>False
def wSlS(wa:WE)(wl wh:WO):WE:=fun τ Q=>wa τ fun x=>wl τ fun lo=>wh τ fun hi=>match x with | .str z=>z.length<=1000/\Q (.str (Txt.slice z lo hi))|_=>False
def rAddAT(x y:T)(Q:T->Prop):Prop:=match x,y with
 | .int i,.int j=>Q (.int (i + j))
 | .tup xs,.tup ys=>xs.length + ys.length<=1000/\Q (.tup (xs++ys))
 | .lst xs,.lst ys=>xs.length + ys.length<=1000/\Q (.lst (xs++ys))
 | .str i,.str j=>i.length + j.length<=1000/\Q (.str (i++j))
 | _,_=>False
theorem Inv.unfreeze{pins:List (Addr×Obj)}{σ:St}{H:Hp}{s:Shared}{p:Addr}{o:Obj}{xs:List V}(I:Inv X pins σ H s)(h:H p=some (.frz o (.lst xs)))(h0:X.H₀ p=none):Inv X pins σ (upd H p (.lst xs)) s:=by
 have nn:∀{b:Addr},H b=none->b≠p:=fun q z=>by subst z;rw[h]at q;cases q
 have n0:∀{b:Addr}{u:HO},X.H₀ b=some u->b≠p:=fun q z=>by subst z;rw[h0]at q;cases q
 refine⟨I.ok,I.os,I.bare,⟨I.base.keep,I.base.slot,fun b o q n hx=>?_,I.base.there,fun b ys q=>?_,fun b o u q=>?_,fun b ps q=>?_⟩,I.loc,I.cell,?_,fun x c q=>?_,fun q hq=>?_,fun b ob q=>?_,I.len⟩
 ·have:=I.base.free b o q n hx
  rw[upd_ne (nn this)];exact this
 ·rw[upd_ne (n0 q)];exact I.base.tups b ys q
 ·rw[upd_ne (n0 q)];exact I.base.frzs b o u q
 ·obtain⟨more,e⟩:=I.base.tbls b ps q
  exact⟨more,by rw[upd_ne (n0 q)];exact e⟩
 ·rw[upd_ne (nn I.free)];exact I.free
 ·rw[upd_ne (nn (I.freeC x c q))];exact I.freeC x c q
 ·obtain⟨a1,a2,a3⟩:=I.pin q hq
  exact⟨a1,by rw[upd_ne (nn a2)];exact a2,a3⟩
 ·by_cases hb:b=p
  ·subst hb
   rw[upd_same]at q
   cases q
   obtain⟨_,z⟩:=I.hok _ _ h
   exact z
  ·rw[upd_ne hb]at q
   refine(I.hok b ob q).stay (fun c v _ q=>q) (fun c q=>?_) fun c ys q=>?_
   ·rw[upd_ne (by rintro rfl;rw[h]at q;cases q)];exact q
   ·rw[upd_ne (by rintro rfl;rw[h]at q;cases q)];exact q
def sOwnC(i:Nat)(w:WE):WS:=fun D τ=>w τ fun t=>match t with | .lst ts=>D.nx (sput τ i (.own ts))|_=>False
theorem jsetcO{elt target iter:Expr}{ifs:List Expr}{scope sc0:Scope}{tn N0:List Str}{fr:List (Str×Nat)}{wi:WI}{g:TGt}{ut:WT}{we:WE}{i:Nat}{x:Str}{pos' spos:Pos}(hN:X.N.Nodup)(hiN:X.N[i]?=some x)(hx:Loc X.env.scope x)
  (hsc:X.env.scope=sc0) (hN0:X.N=N0) (hc:X.calm=true)
  (hi:JI X target iter wi) (hk:scope.kind=.function) (hk0:sc0.kind=.function)
  (hnames:(scope.names.all fun x=>x.2 != .local||scope.names.lookup x.1==some .local)=true) (hcell:(scope.names.all fun x=>x.2 != .cell)=true)
  (hfree:(scope.names.all fun x=>x.2 != .free||sc0.names.lookup x.1==some .cell)=true)
  (hfr:(fr.all fun p=>(sc0.names.lookup p.1==some .cell&&scope.names.lookup p.1==some .free)&&N0[p.2]?==some p.1)=true)
  (hg:∀cl C s3 H2 ex,JG (compCx X (tn++fr.map (·.1)) scope cl C s3 H2 ex) target g) (hu:∀cl C s3 H2 ex,JTs (compCx X (tn++fr.map (·.1)) scope cl C s3 H2 ex) ifs ut)
  (he:∀cl C s3 H2 ex,JE (compCx X (tn++fr.map (·.1)) scope cl C s3 H2 ex) elt we)
  (hs:∀x,foldedSetIterable iter X.env x=pure x:=by intro _;rfl)
  (hsw:swapsWith (.ListComp elt [⟨target,iter,ifs,0⟩] scope pos) (some (.Name x pos')) spos.line X.env=pure true:=by rfl)
  (hf:X.fn x=true∨X.env.scope.names.lookup x=some .local:=by first|exact .inl rfl|exact .inr rfl|assumption) :
  JS X (.Assign [.Name x pos'] (.ListComp elt [⟨target,iter,ifs,0⟩] scope pos) spos) (sOwnC i (wComp wi g ut we tn.length (fr.map (·.2)))):=by
 intro pins s σ H D I ⟨τ,D0,R0,hw,k,_⟩
 rw[exec_Assign_Name_used _ _ _ _ hsw]
 refine wpAny_bind (wpAny_standAt (wpAny_bind ?_))
 rw[arm_evalThenUse_ListComp]
 dsimp only
 refine wpAny_bind (wpAny_mono (comp_core (QQ:=fun _ s'=>SP X pins D .next s') hsc hN0 hc hi.c hk hk0 hnames hcell hfree hfr hg hu he hs (use:=some (assign (.Name x pos') X.env)) I R0 hw fun s6 H6 Da C m6 t f I6 fp hn S r q ex=>?_) (fun _ s' h=>wpAny_pure (wpAny_pure h)) fun _ _ z=>z)
 obtain⟨H5,o5,vs,ts,rfl,h5,S5,rfl,rr⟩:=ex
 obtain⟨oC,es,ep,hoC,hdC,hrC⟩:=id hn
 have Ip:=I6.pinned (fp:=[C]) (fun b hb=>by rw[List.mem_singleton.mp hb];exact fp) fun b hb=>by
  rw[List.mem_singleton.mp hb]
  exact⟨oC,hoC,fun v z=>by rw[hdC]at z;cases z⟩
 have gn:=pg_name (pos:=pos') hN hiN hx hf _ s6 σ (upd H5 Da (.frz o5 (.lst vs))) (.ref Da) (.ref Da) (fun σ' H'=>σ'=σ.set i (some (.ref Da))/\H'=upd H5 Da (.frz o5 (.lst vs))) Ip rfl ⟨rfl,rfl⟩
 refine wpAny_mono gn (fun _ s7 h7=>?_) fun _ _ z=>z
 obtain⟨σ7,H7,I7,rfl,rfl⟩:=h7
 have pC:=(I7.pin (C,oC) (List.mem_append_right _ (List.mem_append_right _ (mem_pinsAt (List.mem_singleton.mpr rfl) hoC)))).1
 refine⟨m6,⟨oC,es,ep,pC,hdC,hrC⟩,fun h8 hs8=>?_⟩
 obtain⟨g1,g2,g3,g4,g5,g6⟩:=fp
 have I8:Inv X pins (σ.set i (some (.ref Da))) (upd H5 Da (.frz o5 (.lst vs))) s7:=I7.pins_of fun p hp=>I7.pin p (List.mem_append_right _ (List.mem_append_left _ hp))
 have I9:=I8.turned (t':=s7.toks) (it:=C) (h':=h8) (fun b o hb e=>(hs8.2 b hb).trans e) g1 g2 g4 g5 g6
 have I10:=Inv.unfreeze I9 upd_same (R0.same.free (S5.free h5))
 rw[upd_upd]at I10
 exact⟨_,_,I10,k _ _ _ (.of (S5.trans (same_new h5 _))) ((R0.mono S5).putOwn h5 rr) q⟩
end
end TL
end
section
namespace TL
open PySem PySem.Spec PyProof.Rows L2
section
variable {X:Cx} {a b:List Stmt} {t u:TS}
end
abbrev SpO:=List T->(List T->Prop)->Prop
def spO(K:PySem.W.Frag)(n:Nat)(S:SpO):Sp:=fun vs H Q _=>∃(ts:List T) (Q0:List T->Prop),vs.length=n/\Reps K H ts vs/\S ts Q0/\∀us p ws H',Same H H'->H p=none->H' p=some (.lst ws)->Reps K H' us ws->Q0 us->Q (.ref p) H'
structure FnO(P:Program)(w:World)(K:PySem.W.Frag)(mg:Str->Option Value)(base:Heap)(k:Nat)(f:Addr)(fd:FuncData)(ps:List Str)(S:SpO):Prop where
 ok:FnOk P w K mg base CX0 k f fd ps (spO K ps.length S)
 len:∀ts Q,S ts Q->ts.length=ps.length
def endO(i:Nat)(Q:List T->Prop):DT:={nx:=fun τ=>match sget τ i with | .own us=>Q us|_=>False,rt:=fun _=>False}
def CalO(P:Program)(w:World)(K:PySem.W.Frag)(mg:Str->Option Value)(base:Heap)(k:Nat)(x:Str)(ps:List Str)(S:SpO):Prop :=
 ∃f fd,FnO P w K mg base k f fd ps S/\Binds K fd ps []/\PySem.W.keepIn K (.ref f)=true/\mg x=some (.ref f)
theorem CalO.mk{P:Program}{w:World}{K:PySem.W.Frag}{mg:Str->Option Value}{base:Heap}{k:Nat}{x qual:Str}{ps:List Str}{S:SpO}{st:Stmt}{f:Addr}{fd:FuncData}(F:Fun K x qual st f fd)(m:mg x=some (.ref f))
  (b:Binds K fd ps []) (h:FnO P w K mg base k f fd ps S):CalO P w K mg base k x ps S:=⟨f,fd,h,b,F.kp,m⟩
abbrev frO(S:SpO):SpT:=fun ts Q=>S ts fun us=>Q (.lst us)
theorem FnO.frz{P:Program}{w:World}{K:PySem.W.Frag}{mg:Str->Option Value}{base:Heap}{k:Nat}{f:Addr}{fd:FuncData}{ps:List Str}{S:SpO}(F:FnO P w K mg base k f fd ps S):FnT P w K mg base k f fd ps (frO S):=by
 refine⟨⟨fun vs H Q E ⟨ts,Q0,e,_⟩=>e,fun A outer s H args us vs Q E hr e0 hb hv ⟨ts,Q0,e,r,hS,q⟩=>?_⟩,fun ts Q h=>F.len _ _ h⟩
 refine codeAny_mono (F.ok.run A outer s H args us vs (fun v H'=>∃zs p ws,v=.ref p/\Same H H'/\H p=none/\H' p=some (.lst ws)/\Reps K H' zs ws/\Q0 (.lst zs)) E hr e0 hb hv ⟨ts,_,e,r,hS,fun zs p ws H' S1 h0 hp rr n=>⟨zs,p,ws,rfl,S1,h0,hp,rr,n⟩⟩) fun res s' h=>?_
 cases res with
 | error e=>exact h
 | ok fl =>
  cases fl with
  | ret u =>
   obtain⟨v,H',os,bare,un,hok,rv,zs,p,ws,rfl,S1,h0,hp,rr,n⟩:=h
   obtain⟨z,its,m,rl,eh⟩:=hok p _ hp
   have K1:=Kp.write hp (.frz {cls:=.type "list", data:=.seq its.toArray m} (.lst ws))
   have ne:∀{b:Addr}{o:HO},H b=some o->b≠p:=fun q z=>by subst z;rw[h0]at q;cases q
   have S2:Same H (upd H' p (.frz {cls:=.type "list", data:=.seq its.toArray m} (.lst ws))):=fun b o q'=>by rw[upd_ne (ne q')];exact S1 b o q'
   refine⟨.ref p,_,os,bare,⟨un.keep,un.slot,fun b o q' n' hx=>?_,un.there,fun b ys q'=>?_,fun b o u' q'=>?_,fun b ps' q'=>?_⟩,fun b ob q'=>?_,rv,q (.lst zs) (.ref p) _ S2 (rep_lst.mpr ⟨p,ws,rfl,.inl ⟨_,upd_same⟩,rr.kp K1⟩) n⟩
   ·have e1:=un.free b o q' n' hx
    rw[upd_ne (by rintro rfl;rw[hp]at e1;cases e1)]
    exact e1
   ·rw[upd_ne (ne q')];exact un.tups b ys q'
   ·rw[upd_ne (ne q')];exact un.frzs b o u' q'
   ·obtain⟨more,e1⟩:=un.tbls b ps' q'
    exact⟨more,by rw[upd_ne (ne q')];exact e1⟩
   ·by_cases hb:b=p
    ·subst hb
     rw[upd_same]at q'
     cases q'
     exact⟨eh,z,its,m,rl,eh⟩
    ·rw[upd_ne hb]at q'
     refine(hok b ob q').stay (fun c v hc q=>q) (fun c q=>?_) fun c ys q=>?_
     ·rw[upd_ne (by rintro rfl;rw[hp]at q;cases q)];exact q
     ·rw[upd_ne (by rintro rfl;rw[hp]at q;cases q)];exact q
  | next=>exact False.elim h
  | brk=>exact False.elim h
  | cont=>exact False.elim h
theorem CalO.frz{P:Program}{w:World}{K:PySem.W.Frag}{mg:Str->Option Value}{base:Heap}{k:Nat}{x:Str}{ps:List Str}{S:SpO}(C:CalO P w K mg base k x ps S):Cal P w K mg base k x ps (frO S) :=
 let ⟨f,fd,F,b,kp,m⟩:=C;⟨f,fd,F.frz,b,kp,m⟩
theorem RepSt.putOwnS{K:PySem.W.Frag}{H0 H H':Hp}{σ:St}{τ:List Slot}{i:Nat}{ts:List T}{vs:List V}{p:Addr}(R:RepSt K H0 H σ τ)(S:Same H H')(hp:H p=none)(hp':H' p=some (.lst vs))(r:Reps K H' ts vs):RepSt K H0 H' (σ.set i (some (.ref p))) (sput τ i (.own ts)):=by
 refine⟨R.same.trans S,by rw[length_sput,List.length_set];exact R.len,fun j=>?_,fun a b ts' us q hab ha hb ea eb=>?_⟩
 ·by_cases hij:i=j
  ·subst hij
   by_cases hi:i < τ.length
   ·rw[sget_same hi]
    exact⟨p,vs,List.getElem?_set_self (by rw[← R.len];exact hi),hp',r,R.same.free hp⟩
   ·rw[sget_big (by rw[length_sput];omega)]
    trivial
  ·rw[sget_ne hij,List.getElem?_set_ne hij]
   exact(R.slot j).mono S
 ·-- an elder own list stands at a tracked place,the new one did not
  have old:∀c ts,i≠c->sget (sput τ i (.own ts')) c=.own ts->σ[c]?≠some (some (.ref p)):=fun c ts hc hcs e=>by
   rw[sget_ne hc]at hcs
   have:=R.slot c
   rw[hcs]at this
   obtain⟨p',vs',e',h1,_⟩:=this
   rw[e]at e'
   cases e'
   rw[hp]at h1
   cases h1
  have isI:∀c,i=c->∀us,sget (sput τ i (.own ts)) c=.own us->(σ.set i (some (.ref p)))[c]?=some (some (.ref p)):=fun c hc us hcs=>by
   subst hc
   by_cases hi:i < τ.length
   ·exact List.getElem?_set_self (by rw[← R.len];exact hi)
   ·rw[sget_big (by rw[length_sput];omega)]at hcs;cases hcs
  by_cases ia:i=a
  ·have z:=isI a ia _ ha
   rw[z]at ea
   cases ea
   have ib:i≠b:=fun e=>hab (ia.symm.trans e)
   rw[List.getElem?_set_ne ib]at eb
   refine old b us ib ?_ eb
   rw[sget_ne ib]at hb ⊢
   exact hb
  ·rw[List.getElem?_set_ne ia]at ea
   by_cases ib:i=b
   ·have z:=isI b ib _ hb
    rw[z]at eb
    cases eb
    refine old a ts' ia ?_ ea
    rw[sget_ne ia]at ha ⊢
    exact ha
   ·rw[List.getElem?_set_ne ib]at eb
    rw[sget_ne ia]at ha
    rw[sget_ne ib]at hb
    exact R.apart a b ts' us q hab ha hb ea eb
section
variable {X:Cx} {e:Expr} {b:Expr} {es:List Expr} {wa wb w:WE} {ws:WA} {pos:Pos}
def sOwnF(i:Nat)(S:SpO)(ws:WA):WS:=fun D τ=>ws τ fun ts=>S ts fun us=>D.nx (sput τ i (.own us))
def sSetIx(i:Nat)(wb wa:WE):WS:=fun D τ=>match sget τ i with
 | .own ts=>wa τ fun t=>wb τ fun y=>(match y with | .int k=>(match ixN ts.length k with|some j=>D.nx (sput τ i (.own (ts.set j t)))|none=>False)|_=>False)
 | _=>False
theorem Reps.set{K:PySem.W.Frag}{H:Hp}{t:T}{v:V}(r:Rep K H t v):∀{ts:List T}{vs:List V}{j:Nat},Reps K H ts vs->Reps K H (ts.set j t) (vs.set j v)
 | [],vs,j,h=>by
  rw[reps_nil]at h
  subst h
  exact reps_nil.mpr rfl
 | x::ts,vs,j,h=>by
  rw[reps_cons]at h
  obtain⟨u,us,rfl,h1,h2⟩:=h
  cases j with
  | zero=>exact reps_cons.mpr ⟨_,_,rfl,r,h2⟩
  | succ j=>exact reps_cons.mpr ⟨_,_,rfl,h1,Reps.set r h2⟩
def sCatO(i j:Nat)(ws:WA):WS:=fun D τ=>match sget τ j with
 | .own ts=>ws τ fun us=>us.length<=1000/\ts.length + us.length<=1000/\D.nx (sput τ i (.own (ts++us)))
 | _=>False
def iOwn(i:Nat):WI:=fun τ Q=>match sget τ i with | .own ts=>Q ts|_=>False
end
end TL
namespace TL
open PySem PySem.Spec PyProof.Rows L2
mutual
def noL:T->Bool
 | .non | .bl _ | .int _ | .str _=>true
 | .tup ts=>noLs ts
 | _=>false
def noLs:List T->Bool
 | []=>true
 | t::ts=>noL t&&noLs ts
end
mutual
theorem Rep.noL{K:PySem.W.Frag}{H H':Hp}(k:∀a xs,SqT K H a xs->SqT K H' a xs):∀{t:T}{v:V},TL.noL t=true->Rep K H t v->Rep K H' t v
 | .non,v,_,h=>by rw[rep_non]at h ⊢;exact h
 | .bl b,v,_,h=>by rw[rep_bl]at h ⊢;exact h
 | .int i,v,_,h=>by rw[rep_int]at h ⊢;exact h
 | .str x,v,_,h=>by rw[rep_str]at h ⊢;exact h
 | .tup ts,v,n,h=>by
  rw[rep_tup]at h ⊢
  obtain⟨p,vs,e,s,r⟩:=h
  exact⟨p,vs,e,k p vs s,Reps.noL k (by rw[TL.noL]at n;exact n) r⟩
 | .lst ts,v,n,h=>by simp[TL.noL]at n
 | .dct,v,n,h=>by simp[TL.noL]at n
 | .exc c,v,n,h=>by simp[TL.noL]at n
 | .exf c f t,v,n,h=>by simp[TL.noL]at n
 | .dic _ _,v,n,h=>by simp[TL.noL]at n
theorem Reps.noL{K:PySem.W.Frag}{H H':Hp}(k:∀a xs,SqT K H a xs->SqT K H' a xs):∀{ts:List T}{vs:List V},TL.noLs ts=true->Reps K H ts vs->Reps K H' ts vs
 | [],vs,_,h=>by rw[reps_nil]at h ⊢;exact h
 | t::ts,vs,n,h=>by
  rw[reps_cons]at h ⊢
  obtain⟨v,r,e,h1,h2⟩:=h
  rw[TL.noLs,Bool.and_eq_true]at n
  exact⟨v,r,e,Rep.noL k n.1 h1,Reps.noL k n.2 h2⟩
end
section
variable {X:Cx}
def wFz(i:Nat)(w:WE):WE:=fun τ Q=>match sget τ i with
 | .own ts=>w (sput τ i (.val (.lst ts))) fun t=>TL.noL t=true/\Q t
 | _=>False
def tFz(i:Nat)(w:WT):WT:=fun τ Q=>match sget τ i with
 | .own ts=>w (sput τ i (.val (.lst ts))) Q
 | _=>False
def vat1(v:V):Slot->Slot
 | .val t=>.vat t v
 | .vat t u=>.vat t u
 | _=>.no
def vatT(i:Nat)(ts:List T)(a:Nat->V):Nat->List Slot->List Slot
 | _,[]=>[]
 | n,s::r=>(if n=i then .vat (.lst ts) (a n) else vat1 (a n) s)::vatT i ts a (n + 1) r
def backT(Z:List Nat):Nat->List Slot->List Slot
 | _,[]=>[]
 | n,s::r=>(if n∈Z then .no else s)::backT Z (n + 1) r
def lone1:Slot->Bool
 | .no=>true
 | .val _=>true
 | .vat _ _=>true
 | _=>false
def lone(i:Nat):Nat->List Slot->Bool
 | _,[]=>true
 | n,s::r=>(decide (n=i)||lone1 s)&&lone i (n + 1) r
def sFzS(i:Nat)(Z:List Nat)(w:WS):WS:=fun D τ=>match sget τ i with
 | .own ts=>lone i 0 τ=true/\i∉Z/\∀a:Nat->V,w {nx:=fun τ'=>(τ'.length=τ.length/\∀j,j < τ.length->j∉Z->sget τ' j=sget (vatT i ts a 0 τ) j)/\D.nx (backT Z 0 τ),rt:=D.rt,bk:=fun _=>False,ct:=fun _=>False} (vatT i ts a 0 τ)
 | _=>False
end
section
variable {X:Cx} {a b c e:Expr} {es:List Expr} {wa wb wc w:WE} {ws:WA} {pos:Pos}
def rMulLT(x y:T)(Q:T->Prop):Prop:=match x,y with
 | .lst ts,.int n=>∃k:Nat,n=k/\k<=1000/\ts.length * k<=1000/\Q (.lst (List.replicate k ts).flatten)
 | _,_=>False
def lstQ(Q:List T->Prop):T->Prop:=fun t=>match t with | .lst us=>Q us|_=>False
def JF(X:Cx)(e:Expr)(w:WE):Prop:=PE X e fun σ H Q=>∃τ Q0,RepSt X.K X.H₀ H σ τ/\w τ (lstQ Q0)/\∀us p ws H',Same H H'->X.H₀ p=none->H p=none->H' p=some (.lst ws)->Reps X.K H' us ws->Q0 us->Q (.ref p) H'
theorem jcompF{elt target iter:Expr}{ifs:List Expr}{scope sc0:Scope}{tn N0:List Str}{fr:List (Str×Nat)}{wi:WI}{g:TGt}{ut:WT}{we:WE}(hsc:X.env.scope=sc0)(hN0:X.N=N0)(hc:X.calm=true)
  (hi:JI X target iter wi) (hk:scope.kind=.function) (hk0:sc0.kind=.function)
  (hnames:(scope.names.all fun x=>x.2 != .local||scope.names.lookup x.1==some .local)=true) (hcell:(scope.names.all fun x=>x.2 != .cell)=true)
  (hfree:(scope.names.all fun x=>x.2 != .free||sc0.names.lookup x.1==some .cell)=true)
  (hfr:(fr.all fun p=>(sc0.names.lookup p.1==some .cell&&scope.names.lookup p.1==some .free)&&N0[p.2]?==some p.1)=true)
  (hg:∀cl C s3 H2 ex,JG (compCx X (tn++fr.map (·.1)) scope cl C s3 H2 ex) target g) (hu:∀cl C s3 H2 ex,JTs (compCx X (tn++fr.map (·.1)) scope cl C s3 H2 ex) ifs ut)
  (he:∀cl C s3 H2 ex,JE (compCx X (tn++fr.map (·.1)) scope cl C s3 H2 ex) elt we)
  (hs:∀x,foldedSetIterable iter X.env x=pure x:=by intro _;rfl):JF X (.ListComp elt [⟨target,iter,ifs,0⟩] scope pos) (wComp wi g ut we tn.length (fr.map (·.2))):=by
 intro pins s σ H Q I hw
 obtain⟨τ,Q0,R0,hw,kk⟩:=hw
 rw[eval_ListComp]
 refine comp_core hsc hN0 hc hi.c hk hk0 hnames hcell hfree hfr hg hu he hs (pos':=_) (use:=none) I R0 hw fun s6 H6 D C m6 t f I6 fp hn S r q ex=>?_
 obtain⟨H5,o5,vs,ts,rfl,h5,S5,rfl,rr⟩:=ex
 refine⟨m6,hn,fun h7 hs7=>?_⟩
 obtain⟨g1,g2,g3,g4,g5,g6⟩:=fp
 have hD0:X.H₀ D=none:=R0.same.free (S5.free h5)
 have I7:=I6.turned (t':=s6.toks) (it:=C) (fun b o hb e=>(hs7.2 b hb).trans e) g1 g2 g4 g5 g6
 have I8:=Inv.unfreeze I7 upd_same hD0
 rw[upd_upd]at I8
 exact⟨.ref D,_,I8,rfl,kk ts D vs _ (S5.trans (same_new h5 _)) hD0 (S5.free h5) upd_same (rr.kp (.of (same_new h5 _))) q⟩
end
section
variable {X:Cx} {a b c e:Expr} {es:List Expr} {wa wb wc w:WE} {ws:WA} {pos:Pos}
def rCountTs(ts us:List T)(Q:T->Prop):Prop:=match us with
 | [.int k]=>(match intsOf ts with|some ns=>Q (.int (ns.count k:Nat))|none=>False)
 | _=>False
def wCount(wa:WE)(ws:WA):WE:=fun τ Q=>wa τ fun x=>match x with
 | .lst ts=>ws τ fun us=>rCountTs ts us Q
 | _=>False
def cInTT(x y:T)(Q:Bool->Prop):Prop:=match x,y with
 | .str z,.tup ts=>(match strsOf ts with|some zs=>Q (zs.contains z)|none=>False)
 | _,_=>False
end
end TL
end
section
namespace TL
open PySem PySem.Spec PyProof.Rows L2
open Classical in
noncomputable def hidH(H:Hp)(F:Addr->Prop):Hp:=fun b=>if F b then none else H b
theorem hid_in{H:Hp}{F:Addr->Prop}{b:Addr}(h:F b):hidH H F b=none:=if_pos h
theorem hid_out{H:Hp}{F:Addr->Prop}{b:Addr}(h:¬ F b):hidH H F b=H b:=if_neg h
theorem hid_some{H:Hp}{F:Addr->Prop}{b:Addr}{o:HO}(h:hidH H F b=some o):¬ F b/\H b=some o:=by
 by_cases z:F b
 ·rw[hid_in z]at h;cases h
 ·exact⟨z,by rw[hid_out z]at h;exact h⟩
theorem hid_same(H:Hp)(F:Addr->Prop):Same (hidH H F) H:=fun b o q=>(hid_some q).2
theorem hid_mono{H H':Hp}{F F':Addr->Prop}(S:Same H H')(h:∀b,F' b->F b∨H b=none):Same (hidH H F) (hidH H' F'):=fun b o q=>by
 obtain⟨n,e⟩:=hid_some q
 rw[hid_out fun z=>?_]
 ·exact S b o e
 ·rcases h b z with z|z
  ·exact n z
  ·rw[e]at z;cases z
theorem hid_upd{H:Hp}{F:Addr->Prop}{q:Addr}{o:HO}(h:F q):hidH (upd H q o) F=hidH H F:=by
 funext b
 by_cases z:F b
 ·rw[hid_in z,hid_in z]
 ·rw[hid_out z,hid_out z,upd_ne fun e=>z (by rw[e];exact h)]
def LikeT(K:PySem.W.Frag)(H H':Hp):Prop:=∀a xs,SqT K H a xs->SqT K H' a xs
theorem LikeT.same{K:PySem.W.Frag}{H H':Hp}(S:Same H H'):LikeT K H H':=fun a xs h=>by
 rcases h with (h|⟨o,h⟩)|h
 ·exact .inl (.inl (S _ _ h))
 ·exact .inl (.inr ⟨o,S _ _ h⟩)
 ·exact .inr h
theorem LikeT.but{K:PySem.W.Frag}{H H':Hp}{F:Addr->Prop}(hF:∀q,F q->(∃ws,H q=some (.lst ws))∨∃o ws,H q=some (.frz o (.lst ws)))(h:∀b,¬ F b->H' b=H b):LikeT K H H':=fun a xs q=>by
 have n:∀u,H a=some u->(∀ws,u ≠ .lst ws)->(∀o ws,u ≠ .frz o (.lst ws))->¬ F a:=fun u e n1 n2 z=>by
  rcases hF a z with ⟨ws,e'⟩|⟨o,ws,e'⟩
  ·rw[e']at e;cases e;exact n1 ws rfl
  ·rw[e']at e;cases e;exact n2 o ws rfl
 rcases q with (q|⟨o,q⟩)|q
 ·exact .inl (.inl (by rw[h a (n _ q (fun _ z=>by cases z) (fun _ _ z=>by cases z))];exact q))
 ·exact .inl (.inr ⟨o,by rw[h a (n _ q (fun _ z=>by cases z) (fun _ _ z=>by cases z))];exact q⟩)
 ·exact .inr q
abbrev rawL(H:Hp)(q:Addr)(ws:List V):Prop:=H q=some (.lst ws)
abbrev frzL(H:Hp)(q:Addr)(ws:List V):Prop:=∃o,H q=some (.frz o (.lst ws))
inductive OTs (K:PySem.W.Frag) (H:Hp) (L:Addr->List V->Prop):List T->List V->List Addr->Prop
 | nil:OTs K H L [] [] []
 | plain {t:T} {v:V} {ts:List T} {vs:List V} {F:List Addr}:noL t=true->Rep K H t v->OTs K H L ts vs F->OTs K H L (t::ts) (v::vs) F
 | list {q:Addr} {us ts:List T} {ws vs:List V} {F:List Addr}:L q ws->noLs us=true->Reps K H us ws->q∉F->OTs K H L ts vs F->OTs K H L (.lst us::ts) (.ref q::vs) (q::F)
theorem OTs.like{K:PySem.W.Frag}{H H':Hp}{L L':Addr->List V->Prop}{ts:List T}{vs:List V}{F:List Addr}(h:OTs K H L ts vs F)(k:LikeT K H H')(hL:∀q ws,q∈F->L q ws->L' q ws):OTs K H' L' ts vs F:=by
 induction h with
 | nil=>exact .nil
 | plain n r _ ih=>exact .plain n (Rep.noL k n r) (ih hL)
 | list l n r nq _ ih=>exact .list (hL _ _ List.mem_cons_self l) n (Reps.noL k n r) nq (ih fun q ws m=>hL q ws (List.mem_cons_of_mem _ m))
theorem OTs.lists{K:PySem.W.Frag}{H:Hp}{L:Addr->List V->Prop}{ts:List T}{vs:List V}{F:List Addr}(h:OTs K H L ts vs F):∀q∈F,∃ws,L q ws:=by
 induction h with
 | nil=>exact fun q m=>by cases m
 | plain _ _ _ ih=>exact ih
 | list l _ _ _ _ ih =>
  intro q m
  rcases List.mem_cons.mp m with rfl|m
  ·exact⟨_,l⟩
  ·exact ih q m
theorem OTs.length{K:PySem.W.Frag}{H:Hp}{L:Addr->List V->Prop}{ts:List T}{vs:List V}{F:List Addr}(h:OTs K H L ts vs F):ts.length=vs.length:=by
 induction h with
 | nil=>rfl
 | plain _ _ _ ih=>simp[ih]
 | list _ _ _ _ _ ih=>simp[ih]
theorem OTs.reps{K:PySem.W.Frag}{H:Hp}{ts:List T}{vs:List V}{F:List Addr}(h:OTs K H (frzL H) ts vs F):Reps K H ts vs:=by
 induction h with
 | nil=>exact reps_nil.mpr rfl
 | plain n r _ ih=>exact .cons r ih
 | list l n r _ _ ih =>
  obtain⟨o,e⟩:=l
  exact .cons (rep_lst.mpr ⟨_,_,rfl,.inl ⟨o,e⟩,r⟩) ih
section
variable {X:Cx} {pins:List (Addr×Obj)} {σ:St} {s:Shared}
theorem OTs.freeze{K:PySem.W.Frag}:∀{ts:List T}{vs:List V}{F:List Addr}{H:Hp},OTs K H (rawL H) ts vs F->Inv X pins σ H s->∃H',Inv X pins σ H' s/\OTs K H' (frzL H') ts vs F/\∀b,b∉F->H' b=H b
 | _,_,_,H,.nil,I=>⟨H,I,.nil,fun _ _=>rfl⟩
 | _,_,_,H,.plain n r h,I=>by
  have hl:=h.lists
  obtain⟨H',I',h',e⟩:=OTs.freeze h I
  exact⟨H',I',.plain n (Rep.noL (LikeT.but (F:=(· ∈ _)) (fun q m=>.inl (hl q m)) e) n r) h',e⟩
 | _,_,_,H,.list (q:=q) (ws:=ws) (F:=F) l n r nq h,I=>by
  obtain⟨o,I1⟩:=Inv.freeze I l
  have lk:LikeT K H (upd H q (.frz o (.lst ws))):=LikeT.but (F:=(·=q)) (fun b m=>.inl ⟨ws,by rw[m];exact l⟩) fun b m=>upd_ne m
  have h1:OTs K (upd H q (.frz o (.lst ws))) (rawL (upd H q (.frz o (.lst ws)))) _ _ F:=h.like lk fun b vs m z=>by
   show upd H q _ b=_
   rw[upd_ne (fun e=>nq (by rw[← e];exact m))]
   exact z
  have hl:=h1.lists
  obtain⟨H',I',h',e⟩:=OTs.freeze h1 I1
  have lk2:LikeT K (upd H q (.frz o (.lst ws))) H':=LikeT.but (F:=(· ∈ F)) (fun b m=>.inl (hl b m)) e
  refine⟨H',I',.list ⟨o,by rw[e q nq];exact upd_same⟩ n (Reps.noL lk2 n (Reps.noL lk n r)) nq h',fun b hb=>?_⟩
  rw[e b fun z=>hb (List.mem_cons_of_mem _ z),upd_ne fun z=>hb (by rw[z];exact List.mem_cons_self)]
end
def OT(K:PySem.W.Frag)(H:Hp)(L:Addr->List V->Prop)(ts:List T)(v:V)(F:List Addr):Prop:=∃p vs,v=.ref p/\SqT K H p vs/\OTs K H L ts vs F
theorem OT.like{K:PySem.W.Frag}{H H':Hp}{L L':Addr->List V->Prop}{ts:List T}{v:V}{F:List Addr}(h:OT K H L ts v F)(k:LikeT K H H')(hL:∀q ws,q∈F->L q ws->L' q ws):OT K H' L' ts v F:=by
 obtain⟨p,vs,e,sq,h⟩:=h
 exact⟨p,vs,e,k _ _ sq,h.like k hL⟩
theorem OT.rep{K:PySem.W.Frag}{H:Hp}{ts:List T}{v:V}{F:List Addr}(h:OT K H (frzL H) ts v F):Rep K H (.tup ts) v:=by
 obtain⟨p,vs,e,sq,h⟩:=h
 exact rep_tup.mpr ⟨p,vs,e,sq,h.reps⟩
theorem OT.mono{K:PySem.W.Frag}{H H':Hp}{ts:List T}{v:V}{F:List Addr}(h:OT K H (frzL H) ts v F)(S:Same H H'):OT K H' (frzL H') ts v F :=
 h.like (.same S) fun q ws _ ⟨o,e⟩=>⟨o,S _ _ e⟩
abbrev SpOT:=List T->(List T->Prop)->Prop
def spOT(K:PySem.W.Frag)(n:Nat)(S:SpOT):Sp:=fun vs H Q _=>∃(ts:List T) (Q0:List T->Prop),vs.length=n/\Reps K H ts vs/\S ts Q0/\∀us v F H',Same H H'->(∀q∈F,H q=none)->OT K H' (rawL H') us v F->Q0 us->Q v H'
structure FnOT(P:Program)(w:World)(K:PySem.W.Frag)(mg:Str->Option Value)(base:Heap)(k:Nat)(f:Addr)(fd:FuncData)(ps:List Str)(S:SpOT):Prop where
 ok:FnOk P w K mg base CX0 k f fd ps (spOT K ps.length S)
 len:∀ts Q,S ts Q->ts.length=ps.length
def ownsT(τ:List Slot):List Nat->(List T->Prop)->Prop
 | [],Q=>Q []
 | i::is,Q=>match sget τ i with | .own us=>noLs us=true/\ownsT τ is fun ts=>Q (.lst us::ts)|_=>False
def endOT(is:List Nat)(Q:List T->Prop):DT:={nx:=fun τ=>ownsT τ is Q,rt:=fun _=>False}
def CalOT(P:Program)(w:World)(K:PySem.W.Frag)(mg:Str->Option Value)(base:Heap)(k:Nat)(x:Str)(ps:List Str)(S:SpOT):Prop :=
 ∃f fd,FnOT P w K mg base k f fd ps S/\Binds K fd ps []/\PySem.W.keepIn K (.ref f)=true/\mg x=some (.ref f)
theorem CalOT.mk{P:Program}{w:World}{K:PySem.W.Frag}{mg:Str->Option Value}{base:Heap}{k:Nat}{x qual:Str}{ps:List Str}{S:SpOT}{st:Stmt}{f:Addr}{fd:FuncData}(F:Fun K x qual st f fd)(m:mg x=some (.ref f))
  (b:Binds K fd ps []) (h:FnOT P w K mg base k f fd ps S):CalOT P w K mg base k x ps S:=⟨f,fd,h,b,F.kp,m⟩
abbrev frOT(S:SpOT):SpT:=fun ts Q=>S ts fun us=>Q (.tup us)
section
variable {X:Cx} {e b:Expr} {es:List Expr} {wa wb w:WE} {ws:WA} {pos:Pos}
end
def isV:Slot->Bool
 | .vat _ _=>true
 | _=>false
def drop1:Slot->Slot
 | .vat _ _=>.no
 | s=>s
def val1:Slot->Slot
 | .vat t _=>.val t
 | s=>s
def dropV(τ:List Slot):List Slot:=τ.map drop1
def valV(τ:List Slot):List Slot:=τ.map val1
def noV(τ:List Slot):Bool:=τ.all fun s=>!isV s
theorem map_sput{f:Slot->Slot}:∀(τ:List Slot)(i:Nat)(x:Slot),(sput τ i x).map f=sput (τ.map f) i (f x)
 | [],_,_=>rfl
 | _::_,0,_=>rfl
 | y::r,i + 1,x=>by simp only[sput,List.map_cons,map_sput r i x]
theorem RepSt.away{K:PySem.W.Frag}{H0 H:Hp}{σ:St}{τ:List Slot}{i:Nat}{x:Option V}(R:RepSt K H0 H σ τ):RepSt K H0 H (σ.set i x) (sput τ i .no):=by
 have nown:∀c ts,sget (sput τ i .no) c=.own ts->i≠c/\sget τ c=.own ts:=fun c ts h=>by
  by_cases hc:i=c
  ·subst hc
   by_cases hi:i < τ.length
   ·rw[sget_same hi]at h;cases h
   ·rw[sget_big (by rw[length_sput];omega)]at h;cases h
  ·rw[sget_ne hc]at h
   exact⟨hc,h⟩
 refine⟨R.same,by rw[length_sput,List.length_set];exact R.len,fun j=>?_,fun a b ts us p hab ha hb ea eb=>?_⟩
 ·by_cases hij:i=j
  ·subst hij
   by_cases hi:i < τ.length
   ·rw[sget_same hi];trivial
   ·rw[sget_big (by rw[length_sput];omega)];trivial
  ·rw[sget_ne hij,List.getElem?_set_ne hij]
   exact R.slot j
 ·obtain⟨na,ha⟩:=nown a ts ha
  obtain⟨nb,hb⟩:=nown b us hb
  rw[List.getElem?_set_ne na]at ea
  rw[List.getElem?_set_ne nb]at eb
  exact R.apart a b ts us p hab ha hb ea eb
abbrev inF(Fs:Nat->List Addr)(b:Addr):Prop:=∃i,b∈Fs i
structure RSF(K:PySem.W.Frag)(H0 Hs H:Hp)(σ:St)(τ:List Slot)(Fs:Nat->List Addr):Prop where
 kp:Kp Hs (hidH H (inF Fs))
 rep:RepSt K H0 (hidH H (inF Fs)) σ (dropV τ)
 vat:∀i t v,sget τ i=.vat t v->σ[i]?=some (some v)/\∃ts,t=.tup ts/\OT K H (frzL H) ts v (Fs i)
 nv:∀i,isV (sget τ i)=false->Fs i=[]
 new:∀i q,q∈Fs i->H0 q=none
 dis:∀i j q,q∈Fs i->q∈Fs j->i=j
def RepSF(K:PySem.W.Frag)(H0 Hs H:Hp)(σ:St)(τ:List Slot):Prop:=∃Fs,RSF K H0 Hs H σ τ Fs
section
variable {K:PySem.W.Frag} {H0 Hs H H':Hp} {σ:St} {τ:List Slot} {Fs:Nat->List Addr}
theorem isV_vat{s:Slot}(h:isV s=true):∃t v,s=.vat t v:=by
 cases s<;>first|exact⟨_,_,rfl⟩|cases h
theorem RSF.lists(R:RSF K H0 Hs H σ τ Fs):∀q,inF Fs q->∃o ws,H q=some (.frz o (.lst ws)):=fun q ⟨i,m⟩=>by
 cases z:isV (sget τ i) with
 | false=>rw[R.nv i z]at m;cases m
 | true =>
  obtain⟨t,v,e⟩:=isV_vat z
  obtain⟨_,ts,_,p,vs,_,_,ot⟩:=R.vat i t v e
  obtain⟨ws,o,h⟩:=ot.lists q m
  exact⟨o,ws,h⟩
theorem RSF.like(R:RSF K H0 Hs H σ τ Fs):LikeT K H (hidH H (inF Fs)):=LikeT.but (F:=inF Fs) (fun q m=>.inr (R.lists q m)) fun b m=>hid_out m
theorem RSF.same0(R:RSF K H0 Hs H σ τ Fs):Same H0 H:=R.rep.same.trans (hid_same _ _)
theorem RSF.mono(R:RSF K H0 Hs H σ τ Fs)(S:Same H H'):RSF K H0 Hs H' σ τ Fs:=by
 have S':Same (hidH H (inF Fs)) (hidH H' (inF Fs)):=hid_mono S fun b z=>.inl z
 refine⟨R.kp.trans (.of S'),R.rep.mono S',fun i t v e=>?_,R.nv,R.new,R.dis⟩
 obtain⟨a,ts,b,ot⟩:=R.vat i t v e
 exact⟨a,ts,b,ot.mono S⟩
theorem RSF.put{i:Nat}{t:T}{v:V}(R:RSF K H0 Hs H σ τ Fs)(n:noL t=true)(r:Rep K H t v)(hi:isV (sget τ i)=false):RSF K H0 Hs H (σ.set i (some v)) (sput τ i (.val t)) Fs:=by
 have r':Rep K (hidH H (inF Fs)) t v:=Rep.noL R.like n r
 refine⟨R.kp,?_,fun j u x e=>?_,fun j z=>?_,R.new,R.dis⟩
 ·have:=R.rep.put (i:=i) r'
  unfold dropV at this ⊢
  rw[map_sput]
  exact this
 ·by_cases hj:i=j
  ·subst hj
   by_cases hl:i < τ.length
   ·rw[sget_same hl]at e;cases e
   ·rw[sget_big (by rw[length_sput];omega)]at e;cases e
  ·rw[sget_ne hj]at e
   rw[List.getElem?_set_ne hj]
   exact R.vat j u x e
 ·by_cases hj:i=j
  ·subst hj
   exact R.nv i hi
  ·rw[sget_ne hj]at z
   exact R.nv j z
open Classical in
theorem RSF.born{i:Nat}{ts:List T}{v:V}{F:List Addr}(R:RSF K H0 Hs H σ τ Fs)(S:Same H H')(fr:∀q∈F,H q=none)(ot:OT K H' (frzL H') ts v F)(hi:i < τ.length):∃Fs',RSF K H0 Hs H' (σ.set i (some v)) (sput τ i (.vat (.tup ts) v)) Fs':=by
 have at_i:∀j q,q∈(if j=i then F else Fs j)->(j=i/\q∈F)∨(j≠i/\q∈Fs j):=fun j q m=>by
  by_cases z:j=i
  ·rw[if_pos z]at m;exact .inl ⟨z,m⟩
  ·rw[if_neg z]at m;exact .inr ⟨z,m⟩
 have S':Same (hidH H (inF Fs)) (hidH H' (inF fun j=>if j=i then F else Fs j)):=hid_mono S fun b ⟨j,m⟩=>by
  rcases at_i j b m with ⟨_,m⟩|⟨_,m⟩
  ·exact .inr (fr b m)
  ·exact .inl ⟨j,m⟩
 have hlen:i < σ.length:=by have:=R.rep.len;unfold dropV at this;rw[List.length_map]at this;omega
 refine⟨fun j=>if j=i then F else Fs j,R.kp.trans (.of S'),?_,fun j t u e=>?_,fun j z=>?_,fun j q m=>?_,fun j k q m1 m2=>?_⟩
 ·have:=(R.rep.mono S').away (i:=i) (x:=some v)
  unfold dropV at this ⊢
  rw[map_sput]
  exact this
 ·by_cases hj:i=j
  ·subst hj
   rw[sget_same hi]at e
   cases e
   exact⟨List.getElem?_set_self hlen,ts,rfl,by rw[if_pos rfl];exact ot⟩
  ·rw[sget_ne hj]at e
   obtain⟨a,us,b,ot'⟩:=R.vat j t u e
   rw[List.getElem?_set_ne hj]
   exact⟨a,us,b,by rw[if_neg (Ne.symm hj)];exact ot'.mono S⟩
 ·by_cases hj:i=j
  ·subst hj
   rw[sget_same hi]at z
   cases z
  ·rw[sget_ne hj]at z
   rw[if_neg (Ne.symm hj)]
   exact R.nv j z
 ·rcases at_i j q m with ⟨_,m⟩|⟨_,m⟩
  ·exact R.same0.free (fr q m)
  ·exact R.new j q m
 ·have old:∀j,q∈Fs j->q∈F->False:=fun j m m'=>by
   obtain⟨o,ws,e⟩:=R.lists q ⟨j,m⟩
   rw[fr q m']at e
   cases e
  rcases at_i j q m1 with ⟨z1,m1⟩|⟨z1,m1⟩<;>rcases at_i k q m2 with ⟨z2,m2⟩|⟨z2,m2⟩
  ·rw[z1,z2]
  ·exact(old k m2 m1).elim
  ·exact(old j m1 m2).elim
  ·exact R.dis j k q m1 m2
end
theorem RepSF.mono{K:PySem.W.Frag}{H0 Hs H H':Hp}{σ:St}{τ:List Slot}(R:RepSF K H0 Hs H σ τ)(S:Same H H'):RepSF K H0 Hs H' σ τ:=let ⟨Fs,R⟩:=R;⟨Fs,R.mono S⟩
section
variable {X:Cx} {e b c:Expr} {es:List Expr} {wa wb w:WE} {ws:WA} {ua:WT} {t u:WS} {pos:Pos} {st:Stmt} {rest a d:List Stmt}
def sSetN(i:Nat)(w:WE):WS:=fun D τ=>w τ fun t=>noL t=true/\isV (sget τ i)=false/\D.nx (sput τ i (.val t))
def sBorn(i:Nat)(S:SpOT)(ws:WA):WS:=fun D τ=>i < τ.length/\ws τ fun ts=>S ts fun us=>∀v,D.nx (sput τ i (.vat (.tup us) v))
def sEnt(w:WS):WS:=fun D τ=>noV τ=true/\w {nx:=fun τ'=>D.nx (dropV τ'),rt:=D.rt,bk:=fun τ'=>D.bk (dropV τ'),ct:=fun τ'=>D.ct (dropV τ')} τ
def sLv(w:WS):WS:=fun D τ=>w {nx:=fun τ'=>noV τ'=true/\D.nx τ',rt:=D.rt,bk:=fun τ'=>noV τ'=true/\D.bk τ',ct:=fun τ'=>noV τ'=true/\D.ct τ' } (valV τ)
theorem noLs_app:∀{us:List T}{t:T},noLs us=true->noL t=true->noLs (us++[t])=true
 | [],t,_,n=>by simp only[List.nil_append,TL.noLs,n,Bool.and_true]
 | u::us,t,h,n=>by
  simp only[TL.noLs,Bool.and_eq_true]at h
  simp only[List.cons_append,TL.noLs,h.1,noLs_app h.2 n,Bool.and_true]
theorem OTs.at{K:PySem.W.Frag}{H:Hp}:∀{ts:List T}{vs:List V}{F:List Addr}{k:Nat}{us:List T},OTs K H (frzL H) ts vs F->ts[k]?=some (.lst us)->∃q ws o,vs[k]?=some (.ref q)/\q∈F/\H q=some (.frz o (.lst ws))/\Reps K H us ws ∧
  ∀o' y t,noL t=true->Rep K H t y->OTs K (upd H q (.frz o' (.lst (ws++[y])))) (frzL (upd H q (.frz o' (.lst (ws++[y]))))) (ts.set k (.lst (us++[t]))) vs F
 | _,_,_,k,us,.nil,h=>by simp at h
 | _,_,_,0,us,.plain n r ot,h=>by
  simp only[List.getElem?_cons_zero,Option.some.injEq]at h
  subst h
  unfold TL.noL at n
  cases n
 | _,_,_,k + 1,us,.plain n r ot,h=>by
  simp only[List.getElem?_cons_succ]at h
  obtain⟨q,ws,o,e1,m,e2,rr,k'⟩:=OTs.at ot h
  refine⟨q,ws,o,by simpa using e1,m,e2,rr,fun o' y t nt rt=>?_⟩
  have lk:LikeT K H (upd H q (.frz o' (.lst (ws++[y])))):=LikeT.but (F:=(·=q)) (fun b z=>.inr ⟨o,ws,by rw[z];exact e2⟩) fun b z=>upd_ne z
  exact .plain n (Rep.noL lk n r) (k' o' y t nt rt)
 | _,_,_,0,us,.list (q:=q) (ws:=ws) (F:=F) l n r nq ot,h=>by
  simp only[List.getElem?_cons_zero,Option.some.injEq,T.lst.injEq]at h
  subst h
  obtain⟨o,e2⟩:=l
  refine⟨q,ws,o,rfl,List.mem_cons_self,e2,r,fun o' y t nt rt=>?_⟩
  have lk:LikeT K H (upd H q (.frz o' (.lst (ws++[y])))):=LikeT.but (F:=(·=q)) (fun b z=>.inr ⟨o,ws,by rw[z];exact e2⟩) fun b z=>upd_ne z
  refine .list ⟨o',upd_same⟩ ?_ ((Reps.noL lk n r).append (.one (Rep.noL lk nt rt))) nq (ot.like lk fun b vs m ⟨o2,z⟩=>⟨o2,?_⟩)
  ·exact noLs_app n nt
  ·rw[upd_ne (fun e=>nq (by rw[← e];exact m))]
   exact z
 | _,_,_,k + 1,us,.list (q:=q0) (ws:=ws0) (F:=F) l n r nq ot,h=>by
  simp only[List.getElem?_cons_succ]at h
  obtain⟨q,ws,o,e1,m,e2,rr,k'⟩:=OTs.at ot h
  refine⟨q,ws,o,by simpa using e1,List.mem_cons_of_mem _ m,e2,rr,fun o' y t nt rt=>?_⟩
  have lk:LikeT K H (upd H q (.frz o' (.lst (ws++[y])))):=LikeT.but (F:=(·=q)) (fun b z=>.inr ⟨o,ws,by rw[z];exact e2⟩) fun b z=>upd_ne z
  obtain⟨o0,e0⟩:=l
  exact .list ⟨o0,by rw[upd_ne (fun e=>nq (by rw[e];exact m))];exact e0⟩ n (Reps.noL lk n r) nq (k' o' y t nt rt)
def sAppT(i k:Nat)(w:WE):WS:=fun D τ=>match sget τ i with
 | .vat (.tup ts) v=>(match ts[k]? with
  | some (.lst us)=>w τ fun t=>noL t=true/\us.length < 1000/\D.nx (sput τ i (.vat (.tup (ts.set k (.lst (us++[t])))) v))
  | _=>False)
 | _=>False
end
section
variable {X:Cx} {e b c:Expr} {es:List Expr} {wa wb w:WE} {ws:WA} {pos:Pos} {st:Stmt}
def sOwnW(i:Nat)(w:WE):WS:=fun D τ=>w τ (lstQ fun us=>D.nx (sput τ i (.own us)))
theorem jsetF{i:Nat}{x:Str}{pos':Pos}(hN:X.N.Nodup)(hi:X.N[i]?=some x)(hx:Loc X.env.scope x)(he:JF X e w)(hs:swapsWith e (some (.Name x pos')) pos.line X.env=pure false:=by rfl)
  (hf:X.fn x=true∨X.env.scope.names.lookup x=some .local:=by first|exact .inl rfl|exact .inr rfl|assumption):JS X (.Assign [.Name x pos'] e pos) (sOwnW i w) :=
 ps_of (ps_set hN hi hx he hs hf) fun D σ H ⟨τ,D0,R,hw,k,_⟩=>⟨τ,_,R,hw,fun us p ys H' S _ hn hp rr q=>k _ _ H' (.of S) (R.putOwnS S hn hp rr) q⟩
end
section
variable {X:Cx} {e b c a:Expr} {es:List Expr} {wa wb w:WE} {ws:WA} {pos:Pos}
def sgnT(x:Str):List T:=x.cps.toList.map fun c=>.str ⟨#[c]⟩
def iStr(w:WE):WI:=fun τ Q=>w τ fun t=>match t with
 | .str x=>x.cps.all (· < 128)=true/\Q (sgnT x)
 | _=>False
def cLeS(x y:T)(Q:Bool->Prop):Prop:=match x,y with
 | .str i,.str j=>Q (!(decide (j.cps.toList < i.cps.toList)))
 | _,_=>False
end
end TL
end
section
namespace TL
open PySem PySem.Spec PyProof.Rows L2
section
variable {X:Cx} {e b c:Expr} {es:List Expr} {wa wb w:WE} {ws:WA} {ua:WT} {t u:WS} {pos:Pos} {st:Stmt} {rest a d:List Stmt}
def sNoR(w:WS):WS:=fun D τ=>w {nx:=D.nx,rt:=fun _=>False} τ
def sRetP(ws:WA):WS:=fun D τ=>ws τ fun ts=>ts.length<=1000/\noLs ts=true/\D.rt (.tup ts)
def sRetO(w:WE)(i:Nat):WS:=fun D τ=>w τ fun t=>noL t=true/\match sget τ i with | .own us=>noLs us=true/\D.rt (.tup [t,.lst us])|_=>False
def sRetC(S:SpOT)(ws:WA):WS:=fun D τ=>ws τ fun ts=>S ts fun us=>D.rt (.tup us)
end
def endR(Q:List T->Prop):DT:={nx:=fun _=>False,rt:=fun t=>match t with | .tup us=>Q us|_=>False}
end TL
end
section
namespace TL
open PySem PySem.Spec PyProof.Rows L2
theorem RSF.away{K:PySem.W.Frag}{H0 Hs H:Hp}{σ:St}{τ:List Slot}{Fs:Nat->List Addr}{j:Nat}(R:RSF K H0 Hs H σ τ Fs)(hj0:isV (sget τ j)=false)(x:Option V):RSF K H0 Hs H (σ.set j x) (sput τ j .no) Fs:=by
 refine⟨R.kp,?_,fun l u y e=>?_,fun l z=>?_,R.new,R.dis⟩
 ·have:=R.rep.away (i:=j) (x:=x)
  unfold dropV at this ⊢
  rw[map_sput]
  exact this
 ·by_cases hj:j=l
  ·subst hj
   by_cases hl:j < τ.length
   ·rw[sget_same hl]at e;cases e
   ·rw[sget_big (by rw[length_sput];omega)]at e;cases e
  ·rw[sget_ne hj]at e
   rw[List.getElem?_set_ne hj]
   exact R.vat l u y e
 ·by_cases hj:j=l
  ·subst hj
   exact R.nv j hj0
  ·rw[sget_ne hj]at z
   exact R.nv l z
theorem sput_self:∀(τ:List Slot)(i:Nat),sput τ i (sget τ i)=τ
 | [],_=>rfl
 | _::_,0=>rfl
 | x::r,i + 1=>by
  have:=sput_self r i
  show x::sput r i (sget r i)=x::r
  rw[this]
def allL:List T->Bool
 | []=>true
 | .lst _::ts=>allL ts
 | _=>false
def sClrT(i j:Nat):WS:=fun D τ=>match sget τ i with
 | .vat (.tup ts) v=>allL ts=true/\i≠j/\j < τ.length/\isV (sget τ j)=false/\D.nx (sput (sput τ i (.vat (.tup (ts.map fun _=>.lst [])) v)) j .no)
 | _=>False
section
variable {X:Cx} {pos:Pos}
end
end TL
namespace TL
open PySem PySem.Spec PyProof.Rows L2
end TL
end
section
namespace TL
open PySem PySem.Spec PyProof.Rows L2
section
variable {X:Cx} {pins:List (Addr×Obj)} {σ:St} {H H':Hp} {s s':Shared} {a:Addr}
end
end TL
end
section
namespace TL
open PySem PySem.Spec PyProof.Rows L2
section
variable {X:Cx} {pins:List (Addr×Obj)} {σ:St} {H H':Hp} {s s':Shared} {p:Addr}
end
section
variable {X:Cx} {e b c:Expr} {es:List Expr} {wa wb w:WE} {ws:WA} {ua:WT} {t u:WS} {pos:Pos} {st:Stmt} {rest a d:List Stmt} {j:Nat} {p:Addr}
def sRetM(j:Nat)(w:WE):WS:=fun D τ=>w τ fun t=>match sget τ j with | .own us=>D.rt (.tup [t,.lst us])|_=>False
end
abbrev SpM:=List T->(T->List T->Prop)->Prop
def spM(K:PySem.W.Frag)(n:Nat)(S:SpM):Sp:=fun vs H Q _=>∃(ts us:List T) (fv:List V) (ws:List V) (p:Addr) (Q0:T->List T->Prop),vs=fv++[.ref p]/\vs.length=n/\H p=some (.lst ws)/\Reps K H us ws/\Reps K H ts fv/\S (ts++[.lst us]) Q0 ∧
 ∀t us' v ws' H',Same (hidH H (·=p)) H'->Rep K H' t v->H' p=some (.lst ws')->Reps K H' us' ws'->Q0 t us'->Q v H'
structure FnM(P:Program)(w:World)(K:PySem.W.Frag)(mg:Str->Option Value)(base:Heap)(k:Nat)(f:Addr)(fd:FuncData)(ps:List Str)(S:SpM):Prop where
 ok:FnOk P w K mg base CX0 k f fd ps (spM K ps.length S)
 len:∀ts Q,S ts Q->ts.length=ps.length
def endM(Q:T->List T->Prop):DT:={nx:=fun _=>False,rt:=fun t=>match t with | .tup [t,.lst us]=>Q t us|_=>False}
def CalM(P:Program)(w:World)(K:PySem.W.Frag)(mg:Str->Option Value)(base:Heap)(k:Nat)(x:Str)(ps:List Str)(S:SpM):Prop :=
 ∃f fd,FnM P w K mg base k f fd ps S/\Binds K fd ps []/\PySem.W.keepIn K (.ref f)=true/\mg x=some (.ref f)
theorem CalM.mk{P:Program}{w:World}{K:PySem.W.Frag}{mg:Str->Option Value}{base:Heap}{k:Nat}{x qual:Str}{ps:List Str}{S:SpM}{st:Stmt}{f:Addr}{fd:FuncData}(F:Fun K x qual st f fd)(m:mg x=some (.ref f))
  (b:Binds K fd ps []) (h:FnM P w K mg base k f fd ps S):CalM P w K mg base k x ps S:=⟨f,fd,h,b,F.kp,m⟩
def sSetM(k i:Nat)(S:SpM)(w1 w2:WE):WS:=fun D τ=>w1 τ fun t1=>w2 τ fun t2=>match sget τ i with
 | .own us=>S [t1,t2,.lst us] fun t us'=>D.nx (sput (sput τ i (.own us')) k (.val t))
 | _=>False
section
variable {X:Cx} {e b c:Expr} {wa wb w w1 w2:WE} {pos:Pos}
end
end TL
end
section
namespace TL
open PySem PySem.Spec PyProof.Rows L2
section
variable {X:Cx}
def hasS(x y:Str):Bool:=!(PySem.Builtin.Str.occurrences x y 0 x.length 1).isEmpty
def cNotInS(x y:T)(Q:Bool->Prop):Prop:=match x,y with
 | .str i,.str j=>Q (!hasS j i)
 | _,_=>False
end
end TL
end
section
namespace TL
open PySem PySem.Spec PyProof.Rows L2
section
variable {X:Cx} {e b c:Expr} {es:List Expr} {wa wb w:WE} {ws:WA} {pos:Pos}
def sAug(i:Nat)(w:WE):WS:=fun D τ=>match sget τ i with
 | .val (.int n)=>w τ fun t=>match t with | .int m=>D.nx (sput τ i (.val (.int (n + m))))|_=>False
 | _=>False
theorem jaug{i:Nat}{x:Str}{pos':Pos}(hN:X.N.Nodup)(hi:X.N[i]?=some x)(hx:Loc X.env.scope x)(he:JE X e w)
  (hf:X.fn x=true∨X.env.scope.names.lookup x=some .local:=by first|exact .inl rfl|exact .inr rfl|assumption):JS X (.AugAssign (.Name x pos') .Add e pos) (sAug i w) :=
 ps_of (ps_aug hN hi hx he ip_add hf) fun D σ H ⟨τ,D0,R,hw,k,_⟩=>by
  unfold sAug at hw
  split at hw
  ·rename_i n own
   have sl:=R.slot i
   rw[own]at sl
   obtain⟨v,ev,rv⟩:=sl
   have:=rep_int.mp rv
   subst this
   refine⟨.int n,ev,τ,_,R,hw,fun t v H' S r q=>?_⟩
   split at q
   ·rename_i m
    have:=rep_int.mp r
    subst this
    exact⟨n,m,rfl,rfl,k _ _ H' (.of S) ((R.mono S).put (rep_int.mpr rfl)) q⟩
   ·exact q.elim
  ·exact hw.elim
def sExt(i:Nat)(w:WE):WS:=fun D τ=>match sget τ i with
 | .own ts=>w τ (lstQ fun us=>ts.length + us.length<=1000/\D.nx (sput τ i (.own (ts++us))))
 | _=>False
theorem jext{i:Nat}{x:Str}{px apos cpos:Pos}(hv:PE X (.Name x px) (tVar i))(he:JF X e w)
  (hs:swapsWith (.Call (.Attribute (.Name x px) "extend" apos) [e] [] cpos) none pos.line X.env=pure false:=by rfl)
  (hbase:attributeBase (.Name x px) "extend" X.env (eval (.Name x px) X.env)=eval (.Name x px) X.env:=by rfl)
  (hfew:((backTo cpos (starEach [e] X.env)).all (fun x=>!x.1)&&(backToKw cpos (keywordEach [] X.env)).all (fun x=>x.1.isSome)
   && decide ([e].length + ([]:List Keyword).length + (if ([]:List Keyword).isEmpty then 0 else 1) < 30))=true:=by rfl)
  (hline:(apos.endLine==cpos.line)=true:=by rfl) (hst:starEach [e] X.env=(false,eval e X.env)::starEach [] X.env:=by rfl) (hplain:(backTo cpos (starEach [] X.env)).any (·.1)=false:=by rfl) :
  JS X (.Expr (.Call (.Attribute (.Name x px) "extend" apos) [e] [] cpos) pos) (sExt i w):=by
 refine ps_of (ps_expr (pe_bm PySem.F.plainAttrs_list PySem.F.slot_list_extend PySem.F.type_list_extend mt_extend hv (pa_cons he pa_nil hst) hbase hfew hline hst hplain) hs) fun D σ H ⟨τ,D0,R,hw,k,_⟩=>?_
 unfold sExt at hw
 split at hw
 ·rename_i ts own
  have sl:=R.slot i
  rw[own]at sl
  obtain⟨p,vs,ev,hp,rr,n0⟩:=sl
  refine⟨.ref p,ev,.inl ⟨rfl,vs,SqL.of hp⟩,τ,_,R,hw,fun us b zs H' S _ hb hb' r q=>?_⟩
  refine⟨p,b,vs,zs,rfl,rfl,S _ _ hp,hb',by rw[rr.length,r.length];exact few q.1,?_⟩
  exact k _ _ _ ((Kp.of S).trans (Kp.write (S _ _ hp) _)) ((R.mono S).write own ev (S _ _ hp) ((rr.kp (.of S)).append r)) q.2
 ·exact hw.elim
abbrev WP:=List Slot->(T->List Slot->Prop)->Prop
abbrev WPA:=List Slot->(List T->List Slot->Prop)->Prop
def upP(K:PySem.W.Frag)(H0:Hp)(w:WP):TE:=fun σ H Q=>∃(τ:List Slot) (Q0:T->List Slot->Prop),RepSt K H0 H σ τ/\w τ Q0/\∀t v τ' H',Kp H H'->RepSt K H0 H' σ τ'->Rep K H' t v->Q0 t τ'->Q v H'
def upPA(K:PySem.W.Frag)(H0:Hp)(w:WPA):TA:=fun σ H Q=>∃(τ:List Slot) (Q0:List T->List Slot->Prop),RepSt K H0 H σ τ/\w τ Q0/\∀ts vs τ' H',Kp H H'->RepSt K H0 H' σ τ'->Reps K H' ts vs->Q0 ts τ'->Q vs H'
def JP(X:Cx)(e:Expr)(w:WP):Prop:=PE X e (upP X.K X.H₀ w)
def JPA(X:Cx)(es:List Expr)(w:WPA):Prop:=PA X es (upPA X.K X.H₀ w)
def pE(w:WE):WP:=fun τ Q=>w τ fun t=>Q t τ
theorem jp_e(h:JE X e w):JP X e (pE w):=pe_of h fun σ H Q ⟨τ,Q0,R,hw,k⟩=>⟨τ,_,R,hw,fun t v H' S r q=>k t v τ H' (.of S) (R.mono S) r q⟩
def paNil:WPA:=fun τ Q=>Q [] τ
def paCons(w:WP)(ws:WPA):WPA:=fun τ Q=>w τ fun t τ1=>ws τ1 fun ts τ2=>Q (t::ts) τ2
theorem jpa0:JPA X [] paNil:=pa_of pa_nil fun σ H Q ⟨τ,Q0,R,hw,k⟩=>k [] [] τ H (.refl H) R (reps_nil.mpr rfl) hw
theorem jpa{w:WP}{ws:WPA}(ha:JP X e w)(hr:JPA X es ws)(hs:starEach (e::es) X.env=(false,eval e X.env)::starEach es X.env:=by exact star1 rfl):JPA X (e::es) (paCons w ws):=pa_of (pa_cons ha hr hs) fun σ H Q ⟨τ,Q0,R,hw,k⟩ =>
 ⟨τ,_,R,hw,fun t v τ1 H1 K1 R1 r1 q1=>⟨τ1,_,R1,q1,fun ts vs τ2 H2 K2 R2 r2 q2=>k _ _ τ2 H2 (K1.trans K2) R2 (.cons (r1.kp K2) r2) q2⟩⟩
def pTup(ws:WPA):WP:=fun τ Q=>ws τ fun ts τ'=>ts.length<=1000/\Q (.tup ts) τ'
theorem jp_tup{x1}{ws:WPA}(h:JPA X es ws):JP X (.Tuple es x1 pos) (pTup ws):=pe_of (pe_tup h) fun σ H Q ⟨τ,Q0,R,hw,k⟩=>⟨τ,_,R,hw,fun ts vs τ1 H1 K1 R1 r ⟨hl,q⟩ =>
 ⟨by rw[r.length];exact few hl,fun p hp=>k _ _ τ1 _ (K1.trans (.of (same_new hp _))) (R1.mono (same_new hp _)) (rep_tup.mpr ⟨p,vs,rfl,SqT.of upd_same,r.kp (.of (same_new hp _))⟩) q⟩⟩
def pPop(i:Nat)(w:WE):WP:=fun τ Q=>match sget τ i with
 | .own ts=>w τ fun t=>match t with
  | .int k=>∃(n:Nat) (u:T),k=(n:Int)/\n<=1000/\ts[n]?=some u/\Q u (sput τ i (.own (ts.eraseIdx n)))
  | _=>False
 | _=>False
theorem Reps.erase{K:PySem.W.Frag}{H:Hp}:∀{ts:List T}{vs:List V}{n:Nat},Reps K H ts vs->Reps K H (ts.eraseIdx n) (vs.eraseIdx n)
 | [],vs,n,r=>by rw[reps_nil]at r;subst r;simp;exact reps_nil.mpr rfl
 | t::ts,vs,n,r=>by
  rw[reps_cons]at r
  obtain⟨v,vr,rfl,r1,r2⟩:=r
  cases n with
  | zero=>simpa using r2
  | succ n=>simp only[List.eraseIdx_cons_succ];exact .cons r1 (Reps.erase r2)
theorem jp_pop{i:Nat}{x:Str}{px apos cpos:Pos}(hv:PE X (.Name x px) (tVar i))(he:JE X e w)
  (hbase:attributeBase (.Name x px) "pop" X.env (eval (.Name x px) X.env)=eval (.Name x px) X.env:=by rfl)
  (hfew:((backTo cpos (starEach [e] X.env)).all (fun x=>!x.1)&&(backToKw cpos (keywordEach [] X.env)).all (fun x=>x.1.isSome)
   && decide ([e].length + ([]:List Keyword).length + (if ([]:List Keyword).isEmpty then 0 else 1) < 30))=true:=by rfl)
  (hline:(apos.endLine==cpos.line)=true:=by rfl) (hst:starEach [e] X.env=(false,eval e X.env)::starEach [] X.env:=by rfl) (hplain:(backTo cpos (starEach [] X.env)).any (·.1)=false:=by rfl) :
  JP X (.Call (.Attribute (.Name x px) "pop" apos) [e] [] cpos) (pPop i w):=by
 refine pe_of (pe_bm PySem.F.plainAttrs_list PySem.F.slot_list_pop PySem.F.type_list_pop mt_popAt hv (pa_cons he pa_nil hst) hbase hfew hline hst hplain) fun σ H Q ⟨τ,Q0,R,hw,k⟩=>?_
 unfold pPop at hw
 split at hw
 ·rename_i ts own
  have sl:=R.slot i
  rw[own]at sl
  obtain⟨p,vs,ev,hp,rr,n0⟩:=sl
  refine⟨.ref p,ev,.inl ⟨rfl,vs,SqL.of hp⟩,τ,_,R,hw,fun t v H' S r q=>?_⟩
  split at q
  ·rename_i kk
   obtain⟨n,u,rfl,hn,hu,q⟩:=q
   have:=rep_int.mp r
   subst this
   obtain⟨y,ey,ry⟩:=Reps.get rr hu
   have hlt:n < vs.length:=(List.getElem?_eq_some_iff.mp ey).1
   refine⟨p,vs,(n:Int),n,y,rfl,rfl,S _ _ hp,by omega,by omega,?_,ey,?_⟩
   ·unfold seqIndex?
    simp
    omega
   ·exact k _ _ _ _ ((Kp.of S).trans (Kp.write (S _ _ hp) _)) ((R.mono S).write own ev (S _ _ hp) (Reps.erase (rr.kp (.of S)))) (ry.kp ((Kp.of S).trans (Kp.write (S _ _ hp) _))) q
  ·exact q.elim
 ·exact hw.elim
def sSetP(i:Nat)(w:WP):WS:=fun D τ=>w τ fun t τ'=>D.nx (sput τ' i (.val t))
theorem jp_set{w:WP}{i:Nat}{x:Str}{pos':Pos}(hN:X.N.Nodup)(hi:X.N[i]?=some x)(hx:Loc X.env.scope x)(he:JP X e w)(hs:swapsWith e (some (.Name x pos')) pos.line X.env=pure false:=by rfl)
  (hf:X.fn x=true∨X.env.scope.names.lookup x=some .local:=by first|exact .inl rfl|exact .inr rfl|assumption):JS X (.Assign [.Name x pos'] e pos) (sSetP i w) :=
 ps_of (ps_set hN hi hx he hs hf) fun D σ H ⟨τ,D0,R,hw,k,_⟩=>⟨τ,_,R,hw,fun t v τ' H' K1 R1 r q=>k _ _ H' K1 (R1.put r) q⟩
def sExprP(w:WP):WS:=fun D τ=>w τ fun _ τ'=>D.nx τ'
def sAppP(i:Nat)(w:WP):WS:=fun D τ=>match sget τ i with
 | .own _=>w τ fun t τ'=>match sget τ' i with
  | .own ts=>ts.length < 1000/\D.nx (sput τ' i (.own (ts++[t])))
  | _=>False
 | _=>False
theorem jp_app{w:WP}{i:Nat}{x:Str}{px apos cpos:Pos}(hv:PE X (.Name x px) (tVar i))(he:JP X e w)
  (hs:swapsWith (.Call (.Attribute (.Name x px) "append" apos) [e] [] cpos) none pos.line X.env=pure false:=by rfl)
  (hbase:attributeBase (.Name x px) "append" X.env (eval (.Name x px) X.env)=eval (.Name x px) X.env:=by rfl)
  (hfew:((backTo cpos (starEach [e] X.env)).all (fun x=>!x.1)&&(backToKw cpos (keywordEach [] X.env)).all (fun x=>x.1.isSome)
   && decide ([e].length + ([]:List Keyword).length + (if ([]:List Keyword).isEmpty then 0 else 1) < 30))=true:=by rfl)
  (hline:(apos.endLine==cpos.line)=true:=by rfl) (hst:starEach [e] X.env=(false,eval e X.env)::starEach [] X.env:=by rfl) (hplain:(backTo cpos (starEach [] X.env)).any (·.1)=false:=by rfl) :
  JS X (.Expr (.Call (.Attribute (.Name x px) "append" apos) [e] [] cpos) pos) (sAppP i w):=by
 refine ps_of (ps_expr (pe_bm PySem.F.plainAttrs_list PySem.F.slot_list_append PySem.F.type_list_append mt_append hv (pa_cons he pa_nil hst) hbase hfew hline hst hplain) hs) fun D σ H ⟨τ,D0,R,hw,k,_⟩=>?_
 unfold sAppP at hw
 split at hw
 ·rename_i ts own
  have sl:=R.slot i
  rw[own]at sl
  obtain⟨p,vs,ev,hp,rr,n0⟩:=sl
  refine⟨.ref p,ev,.inl ⟨rfl,vs,SqL.of hp⟩,τ,_,R,hw,fun t v τ' H' K1 R1 r q=>?_⟩
  split at q
  ·rename_i ts' own'
   have sl:=R1.slot i
   rw[own']at sl
   obtain⟨p',vs',ev',hp',rr',n0'⟩:=sl
   rw[ev]at ev'
   cases ev'
   refine⟨p,vs',v,rfl,rfl,hp',by rw[rr'.length];exact small1000 (Nat.le_of_lt q.1),?_⟩
   exact k _ _ _ (K1.trans (Kp.write hp' _)) (R1.write own' ev hp' (rr'.append (.one r))) q.2
  ·exact q.elim
 ·exact hw.elim
end
end TL
end
section
namespace TL
open PySem PySem.Spec PyProof.Rows L2
section
variable {X:Cx} {e b c a:Expr} {es:List Expr} {wa wb w:WE} {ws:WA} {pos:Pos}
theorem vals_get:∀{xs:List V}{its:List Value},xs.length=its.length->(∀(i:Nat)(x:V)(v:Value),xs[i]?=some x->its[i]?=some v->RelV x v)->Vals xs its
 | [],[],_,_=>.nil
 | x::xs,v::its,hl,h=>.cons (h 0 x v rfl rfl) (vals_get (by simpa using hl) fun i y u hy hu=>h (i + 1) y u (by simpa using hy) (by simpa using hu))
 | [],_::_,hl,_=>by simp at hl
 | _::_,[],hl,_=>by simp at hl
def tRng1(ta:TA):TE:=fun σ H Q=>ta σ H fun vs H1=>∃j:Int,vs=[.int j] /\ -(2 ^ 62)<=j/\j < 2 ^ 62/\∀r,H1 r=none->Q (.ref r) (upd H1 r (.rng 0 j))
theorem pe_range1{ta:TA}{p:Pos} (hg:Gl X "range") (hm:X.mg "range" = none) (ha:PA X [a] ta) (hs:starEach [a] X.env=[(false,eval a X.env)]:=by rfl):PE X (.Call (.Name "range" p) [a] [] pos) (tRng1 ta):=by
 intro pins s σ H Q I h
 refine Call_ (ld_blt I hg hm boot_range (PyProof.Rows.callWith_type1 (thn (ha pos pins s σ H _ I h) fun us s1 ⟨vs,H1,I1,r1,q1⟩=>?_) hs rfl))
 obtain⟨j,e,q1,q2,q⟩:=q1
 subst e
 cases r1 with
 | cons r rr =>
  cases rr
  obtain⟨t,rfl⟩:=r
  exact call_range_1 ⟨.ref s1.heap.objs.size,_,I1.laid (o:=.rng 0 j) (fun b u e=>Heap.get?_push_of_some _ e) (Nat.le_refl _) ⟨_,_,_,Heap.get?_push_size _ rfl⟩,rfl,q _ (I1.hok.fresh (Nat.le_refl _))⟩
def rangeV:Int->Nat->List V
 | _,0=>[]
 | lo,n + 1=>.int lo::rangeV (lo + 1) n
theorem rangeV_len:∀(n:Nat)(lo:Int),(rangeV lo n).length=n
 | 0,_=>rfl
 | n + 1,lo=>by simp[rangeV,rangeV_len n]
theorem rangeV_get:∀{n:Nat}{lo:Int}{i:Nat}{x:V},(rangeV lo n)[i]?=some x->x=.int (lo + i)
 | 0,lo,i,x,h=>by simp[rangeV]at h
 | n + 1,lo,0,x,h=>by
  have h':some (V.int lo)=some x:=h
  cases h'
  congr 1
  omega
 | n + 1,lo,i + 1,x,h=>by
  simp only[rangeV,List.getElem?_cons_succ]at h
  rw[rangeV_get h]
  congr 1
  omega
theorem reps_range{K:PySem.W.Frag}{H:Hp}:∀(n:Nat)(lo:Int),Reps K H (rangeT lo n) (rangeV lo n)
 | 0,_=>reps_nil.mpr rfl
 | n + 1,lo=>.cons (rep_int.mpr rfl) (reps_range n (lo + 1))
theorem call_list_rng(hc:X.calm=true):CallR X (.type "list") (fun xs H Q=>∃r j,xs=[.ref r]/\H r=some (.rng 0 j)/\0<=j/\j<=1000/\∀l,H l=none->Q (.ref l) (upd H l (.lst (rangeV 0 j.toNat)))):=by
 intro pins s σ H xs us Q I r h
 obtain⟨p,j,rfl,hp,j0,j1,q⟩:=h
 obtain⟨u,rfl,rx⟩:=vals1 r
 cases rx
 obtain⟨t,u,v,hr⟩:=(show ObjOk X.prog X.w H s.heap p (.rng 0 j) from I.hok p _ hp)
 have hn:Builtin.Range.rangeSize 0 j 1=(j.toNat:Int):=by rw[rangeSize_one];split<;>omega
 refine call_list_range (I.ok.hd hc) hr (small_one (by omega) (by omega) (by omega) (by omega)) hn (by omega) fun h' tk acc c' hk hD hacc=>?_
 refine⟨.ref s.heap.objs.size,_,I.laid (t':=tk) hk (Nat.le_refl _) (show ObjOk X.prog X.w _ h' _ (.lst (rangeV 0 j.toNat)) from ⟨by rw[rangeV_len];exact few (by omega),acc.toList,c',vals_get ?_ fun i x v hx hv=>?_,by rw[Array.toArray_toList];exact hD⟩),rfl,q _ (I.hok.fresh (Nat.le_refl _))⟩
 ·rw[rangeV_len,Array.length_toList];exact hacc.1.symm
 ·rw[rangeV_get hx]
  obtain⟨t,rfl⟩:=hacc.2 i v (by rw[← Array.getElem?_toList];exact hv)
  exact⟨t,by rw[Int.mul_one]⟩
def wLRng(ws:WA):WE:=fun τ Q=>ws τ fun ts=>match ts with
 | [.int j]=>0<=j/\j<=1000/\Q (.lst (rangeT 0 j.toNat))
 | _=>False
theorem jlistR{p1 p2 pos2:Pos}(hc:X.calm=true) (hg:Gl X "range") (hm:X.mg "range" = none) (hg2:Gl X "list") (hm2:X.mg "list" = none) (ha:JA X [a] ws) (hs:starEach [a] X.env=[(false,eval a X.env)]:=by exact star1 rfl)
  (he:starEach [.Call (.Name "range" p2) [a] [] pos2] X.env=(false,eval (.Call (.Name "range" p2) [a] [] pos2) X.env)::starEach [] X.env:=by exact star1 rfl) (hpl:(backTo pos (starEach [] X.env)).any (·.1)=false:=by exact stars rfl) :
  JF X (.Call (.Name "list" p1) [.Call (.Name "range" p2) [a] [] pos2] [] pos) (wLRng ws):=by
 refine pe_of (pe_callTy (call_list_rng hc) hg2 hm2 boot_list (pa_cons (pe_range1 hg hm ha hs) pa_nil he) (by decide) (by decide) he hpl) fun σ H Q ⟨τ,Q0,R,hw,k⟩=>?_
 refine⟨τ,_,R,hw,fun ts vs H1 S1 r q=>?_⟩
 obtain⟨j,e0,q⟩:=one_int (P:=fun j=>0<=j/\j<=1000/\lstQ Q0 (.lst (rangeT 0 j.toNat))) q
 subst e0
 obtain⟨v,rfl,r1⟩:=reps1 r
 have:=rep_int.mp r1
 subst this
 refine⟨j,rfl,by have:=q.1;omega,by have:=q.2.1;omega,fun rr hr=>?_⟩
 refine⟨rr,j,rfl,upd_same,q.1,q.2.1,fun l hl=>?_⟩
 have S2:=S1.trans (same_new hr (.rng 0 j))
 have hn:H l=none:=by
  cases e:H l with
  | none=>rfl
  | some o=>rw[S2 _ _ e]at hl;cases hl
 exact k _ l _ _ (S2.trans (same_new hl _)) (R.same.free hn) hn upd_same (reps_range _ _) q.2.2
theorem call_list_rngF(hc:X.calm=true):CallR X (.type "list") (fun xs H Q=>∃r j,xs=[.ref r]/\H r=some (.rng 0 j)/\0<=j/\j<=1000/\∀l o,H l=none->Q (.ref l) (upd H l (.frz o (.lst (rangeV 0 j.toNat))))):=by
 intro pins s σ H xs us Q I r h
 obtain⟨p,j,e,hp,j0,j1,q⟩:=h
 refine thn (call_list_rng hc pins s σ H xs us (fun v H'=>∃l,v=.ref l/\H l=none/\H'=upd H l (.lst (rangeV 0 j.toNat))) I r ⟨p,j,e,hp,j0,j1,fun l hl=>⟨l,rfl,hl,rfl⟩⟩) fun u s1 ⟨v,H1,I1,rv,l,e1,hl,e2⟩=>?_
 subst e1 e2
 obtain⟨o,I2⟩:=Inv.freeze I1 (upd_same (o:=.lst (rangeV 0 j.toNat)))
 rw[upd_upd]at I2
 exact⟨_,_,I2,rv,q l o hl⟩
theorem jlistRE{p1 p2 pos2:Pos}(hc:X.calm=true) (hg:Gl X "range") (hm:X.mg "range" = none) (hg2:Gl X "list") (hm2:X.mg "list" = none) (ha:JA X [a] ws) (hs:starEach [a] X.env=[(false,eval a X.env)]:=by exact star1 rfl)
  (he:starEach [.Call (.Name "range" p2) [a] [] pos2] X.env=(false,eval (.Call (.Name "range" p2) [a] [] pos2) X.env)::starEach [] X.env:=by exact star1 rfl) (hpl:(backTo pos (starEach [] X.env)).any (·.1)=false:=by exact stars rfl) :
  JE X (.Call (.Name "list" p1) [.Call (.Name "range" p2) [a] [] pos2] [] pos) (wLRng ws):=by
 refine pe_of (pe_callTy (call_list_rngF hc) hg2 hm2 boot_list (pa_cons (pe_range1 hg hm ha hs) pa_nil he) (by decide) (by decide) he hpl) fun σ H Q ⟨τ,Q0,R,hw,k⟩=>?_
 refine⟨τ,_,R,hw,fun ts vs H1 S1 r q=>?_⟩
 obtain⟨j,e0,q⟩:=one_int (P:=fun j=>0<=j/\j<=1000/\Q0 (.lst (rangeT 0 j.toNat))) q
 subst e0
 obtain⟨v,rfl,r1⟩:=reps1 r
 have:=rep_int.mp r1
 subst this
 refine⟨j,rfl,by have:=q.1;omega,by have:=q.2.1;omega,fun rr hr=>?_⟩
 refine⟨rr,j,rfl,upd_same,q.1,q.2.1,fun l o hl=>?_⟩
 have S2:=S1.trans (same_new hr (.rng 0 j))
 exact k _ _ _ (S2.trans (same_new hl _)) (rep_lst.mpr ⟨l,_,rfl,.inl ⟨o,upd_same⟩,reps_range _ _⟩) q.2.2
theorem RepSt.hide{K:PySem.W.Frag}{H0 H:Hp}{σ:St}{τ:List Slot}{i:Nat}{v:Option V}(R:RepSt K H0 H σ τ):RepSt K H0 H (σ.set i v) (sput τ i .no):=by
 refine⟨R.same,by rw[length_sput,List.length_set];exact R.len,fun j=>?_,fun a b ts us p hab ha hb ea eb=>?_⟩
 ·by_cases hij:i=j
  ·subst hij
   by_cases hi:i < τ.length
   ·rw[sget_same hi];trivial
   ·rw[sget_big (by rw[length_sput];omega)];trivial
  ·rw[sget_ne hij,List.getElem?_set_ne hij]
   exact R.slot j
 ·have na:∀{c:Nat}{ts:List T},sget (sput τ i .no) c=.own ts->i≠c:=fun {c ts} h z=>by
   subst z
   by_cases hi:i < τ.length
   ·rw[sget_same hi]at h;cases h
   ·rw[sget_big (by rw[length_sput];omega)]at h;cases h
  have n1:=na ha
  have n2:=na hb
  rw[sget_ne n1]at ha
  rw[sget_ne n2]at hb
  rw[List.getElem?_set_ne n1]at ea
  rw[List.getElem?_set_ne n2]at eb
  exact R.apart a b ts us p hab ha hb ea eb
theorem Kp.dict{H:Hp}{p:Addr}{kvs:List (Key×V)}(hp:H p=some (.dK kvs))(o:HO):Kp H (upd H p o) :=
 ⟨fun b xs h=>by rw[upd_ne (ne_of h hp (by intro z;cases z))];exact h,fun b o' u h=>by rw[upd_ne (ne_of h hp (by intro z;cases z))];exact h⟩
theorem RepSt.dict{K:PySem.W.Frag}{H0 H:Hp}{σ:St}{τ:List Slot}{p:Addr}{kvs kvs':List (Key×V)}(R:RepSt K H0 H σ τ)(hp:H p=some (.dK kvs))(n0:H0 p=none):RepSt K H0 (upd H p (.dK kvs')) σ τ:=by
 have k:=Kp.dict hp (.dK kvs')
 refine⟨fun b o h=>?_,R.len,fun j=>?_,R.apart⟩
 ·rw[upd_ne (fun z=>by rw[z,n0]at h;cases h)]
  exact R.same b o h
 ·have s:=R.slot j
  cases e:sget τ j with
  | no=>trivial
  | val t=>rw[e]at s;obtain⟨v,e1,r⟩:=s;exact⟨v,e1,r.kp k⟩
  | own ts=>rw[e]at s;obtain⟨q,vs,e1,h1,r,n⟩:=s;exact⟨q,vs,e1,by rw[upd_ne (ne_of h1 hp (by intro z;cases z))];exact h1,r.kp k,n⟩
  | see ts=>rw[e]at s;obtain⟨q,vs,e1,h1,r,n⟩:=s;exact⟨q,vs,e1,by rw[upd_ne (ne_of h1 hp (by intro z;cases z))];exact h1,r.kp k,n⟩
  | dic ps=>rw[e]at s;obtain⟨q,o,kv,e1,h1,ek,r⟩:=s;exact⟨q,o,kv,e1,k.frz _ _ _ h1,ek,r.kp k⟩
  | vat t v=>rw[e]at s;exact⟨s.1,s.2.kp k⟩
def keyB(ks:List Int):List (Key×V):=ks.map fun k=>(Sum.inl k,V.bl true)
def putI(ks:List Int)(k:Int):List Int:=if ks.contains k then ks else ks++[k]
theorem putK_keyB(ks:List Int)(k:Int):putK (keyB ks) (Sum.inl k) (V.bl true)=keyB (putI ks k):=by
 have e1:((keyB ks).any fun kv=>decide (kv.1=Sum.inl k))=ks.contains k:=by
  unfold keyB
  rw[List.any_map]
  induction ks with
  | nil=>rfl
  | cons x r ih =>
   rw[List.any_cons,ih,List.contains_cons]
   congr 1
   show decide ((Sum.inl x:Key)=Sum.inl k)=(k==x)
   by_cases e:x=k
   ·subst e;simp
   ·rw[decide_eq_false (fun z=>e (Sum.inl.inj z))]
    exact(beq_eq_false_iff_ne.mpr (Ne.symm e)).symm
 unfold putK putI
 rw[e1]
 cases ks.contains k with
 | true =>
  simp only[if_true]
  unfold keyB
  rw[List.map_map]
  refine List.map_congr_left fun x _=>?_
  show (if (Sum.inl x:Key)=Sum.inl k then ((Sum.inl x:Key),V.bl true) else (Sum.inl x,V.bl true))=_
  split<;>rfl
 | false =>
  simp only[Bool.false_eq_true,if_false]
  unfold keyB
  rw[List.map_append]
  rfl
theorem call_list_dK(hc:X.calm=true):CallR X (.type "list") (fun xs H Q=>∃p ks,xs=[.ref p]/\H p=some (.dK (keyB ks))/\∀l o,H l=none->Q (.ref l) (upd H l (.frz o (.lst (ks.map V.int))))):=by
 intro pins s σ H xs us Q I r h
 obtain⟨p,ks,rfl,hp,q⟩:=h
 obtain⟨u,rfl,rx⟩:=vals1 r
 cases rx
 obtain⟨hz,lo,vs,kv,hD⟩:=(show ObjOk X.prog X.w H s.heap p (.dK (keyB ks)) from I.hok p _ hp)
 have lk:(keyB ks).length=ks.length:=List.length_map _
 obtain⟨ep,hat⟩:=hD.dictAt
 have lv:vs.length=ks.length:=by rw[← lk];exact(KV.length kv).symm
 refine PySem.W.kdl_call (PySem.W.kdl_dict (knd:=mixKind X.prog X.w) (kvs:=vs) (ep:=ep) lo) (I.ok.hd hc) hat (by rw[lv,← lk];exact hz) fun h' tk acc c' hk hD' hacc=>?_
 have I1:=I.laid (t':=tk) hk (Nat.le_refl _) (show ObjOk X.prog X.w _ h' s.heap.objs.size (.lst (ks.map V.int)) from ⟨by rw[List.length_map,← lk];exact hz,acc.toList,c',vals_get (by simp only[List.length_map,Array.length_toList];have:=hacc.1;omega) fun i x v hx hv=>?_,by rw[Array.toArray_toList];exact hD'⟩)
 ·obtain⟨o,I2⟩:=Inv.freeze I1 (upd_same (o:=.lst (ks.map V.int)))
  rw[upd_upd]at I2
  exact⟨.ref s.heap.objs.size,_,I2,rfl,q _ o (I.hok.fresh (Nat.le_refl _))⟩
 ·rw[List.getElem?_map]at hx
  cases ek:ks[i]? with
  | none=>rw[ek]at hx;cases hx
  | some k =>
   rw[ek]at hx
   cases hx
   obtain⟨k',y,e1,is⟩:=hacc.2 i v (by rw[← Array.getElem?_toList];exact hv)
   have e2:(vs.map (·.1))[i]?=some (Sum.inl k):=by
    rw[kv_keys kv]
    show ((keyB ks).map (·.1))[i]?=_
    unfold keyB
    rw[List.map_map,List.getElem?_map,ek]
    rfl
   rw[List.getElem?_map,e1]at e2
   cases e2
   obtain⟨t,rfl⟩:=Value.isInt_shape (k:=k) (v:=v) is
   exact⟨t,rfl⟩
def onceT(j:Nat)(w:WE):List T->List Int->DT->List Slot->Prop
 | [],ks,D,_=>D.rt (.lst (ks.map T.int))
 | t::ts,ks,D,τ=>ks.length < 1000/\(match t with
  | .int k=>w (sput τ j (.val (.int k))) fun _=>onceT j w ts (putI ks k) D (sput τ j (.val (.int k)))
  | _=>False)
def sOnce(i j:Nat)(wi:WI)(w:WE):WS:=fun D τ=>(i < τ.length/\j < τ.length)/\wi (sput τ i .no) fun ts=>onceT j w ts [] D (sput τ i .no)
theorem jonce{wi:WI}{i j:Nat}{x y:Str}{iter call:Expr}{p1 p2 p3 py p4 p5 p6 p7 p8 p9 p10 p11 p12 p13 p14:Pos}{kk:Nat}(hij:i≠j)(hp:PassesOwn (model X.prog X.w) X.A X.env X.xe)(hc:X.calm=true)(hu:X.A.units + 1 < cLine)
  (hN:X.N.Nodup) (hi:X.N[i]?=some x) (hx:Loc X.env.scope x) (hj:X.N[j]?=some y) (hy:Loc X.env.scope y) (hit:JI X (.Name y py) iter wi) (hcall:JE X call w)
  (hvx:PE X (.Name x p5) (tVar i)) (hvy:PE X (.Name y p6) (tVar j)) (hvr:PE X (.Name x p12) (tVar i)) (hgl:Gl X "list") (hml:X.mg "list" = none)
  (hs1:swapsWith (.Dict [] [] p2) (some (.Name x p1)) p3.line X.env=pure false:=by rfl)
  (hs2:swapsWith call none p4.line X.env=pure false:=by rfl)
  (hs3:swapsWith (.Constant (.bool true) kk p8) (some (.Subscript (.Name x p5) (.Name y p6) p7)) p9.line X.env=pure false:=by rfl)
  (hf1:X.fn x=true∨X.env.scope.names.lookup x=some .local:=by first|exact .inl rfl|exact .inr rfl|assumption)
  (hf2:X.fn y=true∨X.env.scope.names.lookup y=some .local:=by first|exact .inl rfl|exact .inr rfl|assumption)
  (hfs:∀x,foldedSetIterable iter X.env x=pure x:=by intro _;rfl)
  (he:starEach [.Name x p12] X.env=(false,eval (.Name x p12) X.env)::starEach [] X.env:=by exact star1 rfl) (hpl:(backTo p13 (starEach [] X.env)).any (·.1)=false:=by exact stars rfl) :
  JSs X [.Assign [.Name x p1] (.Dict [] [] p2) p3,.For (.Name y py) iter [.Expr call p4,.Assign [.Subscript (.Name x p5) (.Name y p6) p7] (.Constant (.bool true) kk p8) p9] [] p10,.Return (some (.Call (.Name "list" p11) [.Name x p12] [] p13)) p14] (sOnce i j wi w):=by
 refine pss_of (pss_cons (ps_set hN hi hx pe_dnewK hs1 hf1) (pss_cons (ps_for hp hc hit (pg_name hN hj hy hf2) (pss_cons (ps_expr hcall hs2) (pss_one (ps_dput hu hvx hvy pe_bl hs3))) hfs) (pss_one (ps_ret (pe_callTy (call_list_dK hc) hgl hml boot_list (pa_cons hvr pa_nil he) (by decide) (by decide) he hpl))))) fun D σ H ⟨τ,D0,R,hw,kn,kr,kb,kc⟩=>?_
 intro d hd
 have S0:Same H (upd H d (.dK [])):=same_new hd _
 have n0:X.H₀ d=none:=R.same.free hd
 have hlen:τ.length=σ.length:=R.len
 obtain⟨⟨hiT,hjT⟩,hw⟩:=hw
 have hiN:i < σ.length:=by omega
 refine⟨sput τ i .no,_,(R.mono S0).hide,hw,fun ts J H1 S1 wk q=>?_⟩
 have K0:Kp (upd H d (.dK [])) H1:=.of S1
 have hd1:H1 d=some (.dK (keyB [])):=S1 _ _ upd_same
 refine⟨fun n m σ' H'=>m=ts.length - n/\n<=ts.length/\∃τ' ks,τ'.length=τ.length/\RepSt X.K X.H₀ H' σ' τ'/\Kp H1 H'/\σ'[i]?=some (some (.ref d))/\H' d=some (.dK (keyB ks))/\onceT j w (ts.drop n) ks D0 τ',⟨ts.length,by simp,Nat.zero_le _,_,[],length_sput _ _ _,((R.mono S0).hide).mono S1,.refl H1,List.getElem?_set_self hiN,hd1,by simpa using q⟩,?_⟩
 rintro n m σ2 H2 ⟨rfl,hn,τ2,ks,l2,R2,K2,e2,hd2,q2⟩
 obtain⟨wi',ws'⟩:=wk H2 K2
 by_cases hlt:n < ts.length
 ·refine .inr ?_
  have ei:ts[n]?=some ts[n]:=List.getElem?_eq_getElem hlt
  obtain⟨go,yl⟩:=wi' n _ ei
  rw[List.drop_eq_getElem_cons hlt]at q2
  refine⟨go,fun σ' H'=>∃τ' ks,τ'.length=τ.length/\RepSt X.K X.H₀ H' σ' τ'/\Kp H1 H'/\σ'[i]?=some (some (.ref d))/\H' d=some (.dK (keyB ks))/\onceT j w (ts.drop (n + 1)) ks D0 τ',fun σ' H' ⟨τ',ks',l',R',K',e',hd',q'⟩=>⟨ts.length - (n + 1),by omega,rfl,hlt,τ',ks',l',R',K',e',hd',q'⟩,fun z H3 yy=>?_⟩
  obtain⟨S3,r3⟩:=yl z H3 yy
  simp only[onceT]at q2
  obtain⟨lk,q2⟩:=q2
  generalize ts[n]=t at q2 r3
  cases t<;>first|exact q2.elim|skip
  rename_i k
  have ez:=rep_int.mp r3
  subst ez
  have ej:(σ2.set j (some (V.int k)))[i]?=some (some (.ref d)):=by rw[List.getElem?_set_ne (Ne.symm hij)];exact e2
  refine⟨sput τ2 j (.val (.int k)),_,(R2.mono S3).put (rep_int.mpr rfl),q2,fun t v H4 S4 _ q4=>?_⟩
  have hd4:H4 d=some (.dK (keyB ks)):=S4 _ _ (S3 _ _ hd2)
  refine⟨.ref d,ej,.int k,?_,d,_,rfl,DPut.k (k:=Sum.inl k) hd4 ?_,?_⟩
  ·exact List.getElem?_set_self (by have:=R2.len;omega)
  ·unfold keyB
   rw[List.length_map]
   exact small1000 (Nat.le_of_lt lk)
  ·rw[putK_keyB]
   exact⟨_,_,by rw[length_sput];exact l2,((((R2.mono S3).put (rep_int.mpr rfl)).mono S4).dict hd4 n0),(K2.trans (.of (S3.trans S4))).trans (Kp.dict hd4 _),ej,upd_same,q4⟩
 ·have e:n=ts.length:=by omega
  subst e
  rw[List.drop_length]at q2
  refine .inl ⟨ws',.ref d,e2,d,ks,rfl,hd2,fun l o hl=>?_⟩
  exact kr (.lst (ks.map T.int)) (.ref l) _ (R2.same.trans (same_new hl _)) (rep_lst.mpr ⟨l,_,rfl,.inl ⟨o,upd_same⟩,reps_ints _⟩) q2
theorem vals_at:∀{xs:List V}{us:List Value}{i:Nat}{u:Value},Vals xs us->us[i]?=some u->∃x,xs[i]?=some x/\RelV x u
 | _,_,i,u,.nil,h=>by simp at h
 | x::xs,v::us,0,u,.cons r t,h=>by simp at h;subst h;exact⟨x,by simp,r⟩
 | x::xs,v::us,i + 1,u,.cons r t,h=>by
  obtain⟨y,e,ry⟩:=vals_at t (by simpa using h)
  exact⟨y,by simpa using e,ry⟩
theorem mt_index:MtR X "list.index" (fun x vs H Q=>∃(p:Addr) (ys:List V) (y:V) (j:Nat),x=.ref p/\vs=[y]/\SqL X.K H p ys/\flatV y=true/\ys.all flatV=true/\j < ys.length/\j<=1000 ∧
  (∀z,ys[j]?=some z->eqV z y=true)/\(∀(m:Nat) z,m < j->ys[m]?=some z->eqV z y=false)/\Q (.int (j:Int)) H):=by
 intro pins s σ H x vs v us Q I rx rv h
 obtain⟨p,ys,y,j,rfl,rfl,hq,fy,fs,hj,hj2,hit,hno,q⟩:=h
 cases rx
 obtain⟨u,rfl,ru⟩:=vals1 rv
 obtain⟨its,r,pl,hz⟩:=I.list hq
 have hlen:=r.length
 obtain⟨⟨cls,dd,data,sl⟩,ho,hc,n,hd⟩:=id pl.isList
 simp only at hc hd
 subst hc hd
 have at':∀(m:Nat)(hm:m < its.toArray.size),∃z,ys[m]?=some z/\eqU y its.toArray[m]=eqV z y:=fun m hm=>by
  have hm':m < its.length:=by simpa using hm
  obtain⟨z,e1,rz⟩:=vals_at r (List.getElem?_eq_getElem hm')
  have fz:flatV z=true:=List.all_eq_true.mp fs z (List.mem_of_getElem? e1)
  exact⟨z,e1,by rw[List.getElem_toArray];exact eqU_of rz fz⟩
 have hj':j < its.toArray.size:=by simpa [← hlen] using hj
 refine call_meets PySem.F.slot_list_index ⟨_,ho,rfl⟩ PySem.F.entry_list_index (PySem.F.args_list_index_2 _ _)
  (SeqAt.list_indexAt p its.toArray n dd sl u (eqU y) j hj' (by omega) ?_ ?_) ⟨ho,fun w hw=>mem_eqAt ru fy r fs w (by simpa using hw),⟨.int j,H,I.tok _,⟨_,rfl⟩,q⟩⟩
 ·obtain⟨z,e1,e2⟩:=at' j hj'
  rw[e2]
  exact hit z e1
 ·intro m hm hlt
  obtain⟨z,e1,e2⟩:=at' m hm
  rw[e2]
  exact hno m z hlt e1
theorem idx_ne{α:Type} [DecidableEq α] {k:α}:∀{ns:List α}{m:Nat},m < ns.idxOf k->ns[m]?=some k->False
 | [],m,h,e=>by simp at e
 | x::r,m,h,e=>by
  rw[List.idxOf_cons]at h
  by_cases q:x=k
  ·subst q
   simp at h
  ·rw[beq_eq_false_iff_ne.mpr q]at h
   cases m with
   | zero=>simp at e;exact q e
   | succ m =>
    simp at h e
    exact idx_ne h e
theorem idx_props{α:Type} [DecidableEq α] {f:α->V} (hf:∀a b,eqV (f a) (f b)=decide (a=b)) {ns:List α} {k:α} (hk:k∈ns):ns.idxOf k < (ns.map f).length/\(∀z,(ns.map f)[ns.idxOf k]?=some z->eqV z (f k)=true)/\∀(m:Nat) z,m < ns.idxOf k->(ns.map f)[m]?=some z->eqV z (f k)=false:=by
 have hj:ns.idxOf k < ns.length:=List.idxOf_lt_length_iff.mpr hk
 refine⟨by rw[List.length_map];exact hj,fun z hz=>?_,fun m z hm hz=>?_⟩
 ·rw[List.getElem?_map,List.getElem?_eq_getElem hj]at hz
  cases hz
  rw[hf]
  simp
 ·have hm':m < ns.length:=by omega
  rw[List.getElem?_map,List.getElem?_eq_getElem hm']at hz
  cases hz
  rw[hf]
  refine decide_eq_false fun e=>?_
  exact idx_ne hm (by rw[List.getElem?_eq_getElem hm',e])
def rIdxT(ts us:List T)(Q:T->Prop):Prop:=match us with
 | [.int k]=>(match intsOf ts with|some ns=>k∈ns/\ns.length<=1000/\Q (.int (ns.idxOf k:Nat))|none=>False)
 | [.str k]=>(match strsOf ts with|some ns=>k∈ns/\ns.length<=1000/\Q (.int (ns.idxOf k:Nat))|none=>False)
 | _=>False
def wIdx(wa:WE)(ws:WA):WE:=fun τ Q=>wa τ fun x=>match x with
 | .lst ts=>ws τ fun us=>rIdxT ts us Q
 | _=>False
theorem jindex{apos:Pos}(ha:JE X a wa)(hb:JA X [b] ws)(hst:starEach [b] X.env=[(false,eval b X.env)]:=by exact star1 rfl) (hbase:attributeBase a "index" X.env (eval a X.env)=eval a X.env:=by rfl)
  (hfew:((backTo pos (starEach [b] X.env)).all (fun x=>!x.1)&&(backToKw pos (keywordEach [] X.env)).all (fun x=>x.1.isSome)
   && decide ([b].length + ([]:List Keyword).length + (if ([]:List Keyword).isEmpty then 0 else 1) < 30))=true:=by rfl)
  (hline:(apos.endLine==pos.line)=true:=by rfl):JE X (.Call (.Attribute a "index" apos) [b] [] pos) (wIdx wa ws):=by
 refine pe_of (pe_bm PySem.F.plainAttrs_list PySem.F.slot_list_index PySem.F.type_list_index mt_index ha hb hbase hfew hline hst (stars rfl)) fun σ H Q ⟨τ,Q0,R,hw,k⟩=>?_
 refine⟨τ,_,R,hw,fun t v H1 S1 r1 q1=>?_⟩
 cases t<;>first|exact q1.elim|skip
 rename_i ts
 obtain⟨p,vs,rfl,sq,rr⟩:=rep_lst.mp r1
 refine⟨.inl ⟨rfl,vs,sq.sq⟩,τ,fun us=>rIdxT ts us Q0,R.mono S1,q1,fun us ws' H2 S2 rs q2=>?_⟩
 have key:(∃y,us=[.int y])∨∃y,us=[.str y]:=by
  cases us with
  | nil=>exact q2.elim
  | cons y r =>
   cases y<;>first|exact q2.elim|skip
   all_goals
    cases r with
    | nil=>first|exact .inl ⟨_,rfl⟩|exact .inr ⟨_,rfl⟩
    | cons _ _=>exact q2.elim
 rcases key with ⟨y,rfl⟩|⟨y,rfl⟩
 ·have q2':(match intsOf ts with|some ns=>y∈ns/\ns.length<=1000/\Q0 (.int (ns.idxOf y:Nat))|none=>False):=q2
  obtain⟨v,rfl,r2⟩:=reps1 rs
  cases ez:intsOf ts with
  | none=>rw[ez]at q2';exact q2'.elim
  | some ns =>
   rw[ez]at q2'
   have r3:=rr.kp (.of S2)
   rw[intsOf_eq ez]at r3
   have ew:=reps_ints_inv r3
   subst ew
   obtain⟨h1,h2,h3⟩:=idx_props (f:=V.int) (fun a b=>rfl) q2'.1
   exact⟨p,ns.map V.int,.int y,ns.idxOf y,rfl,by rw[rep_int.mp r2],(sqF_kp (.of S2) sq).sq,rfl,flat_ints ns,h1,by have:=List.length_map (f:=V.int) (as:=ns);have:=q2'.2.1;omega,h2,h3,k _ _ H2 (S1.trans S2) (rep_int.mpr rfl) q2'.2.2⟩
 ·have q2':(match strsOf ts with|some ns=>y∈ns/\ns.length<=1000/\Q0 (.int (ns.idxOf y:Nat))|none=>False):=q2
  obtain⟨v,rfl,r2⟩:=reps1 rs
  cases ez:strsOf ts with
  | none=>rw[ez]at q2';exact q2'.elim
  | some ns =>
   rw[ez]at q2'
   have r3:=rr.kp (.of S2)
   rw[strsOf_eq ez]at r3
   have ew:=reps_strs_inv r3
   subst ew
   obtain⟨h1,h2,h3⟩:=idx_props (f:=V.str) (fun a b=>by show (a==b)=_;exact Bool.eq_iff_iff.mpr (by simp)) q2'.1
   exact⟨p,ns.map V.str,.str y,ns.idxOf y,rfl,by rw[rep_str.mp r2],(sqF_kp (.of S2) sq).sq,rfl,flat_strs ns,h1,by have:=List.length_map (f:=V.str) (as:=ns);have:=q2'.2.1;omega,h2,h3,k _ _ H2 (S1.trans S2) (rep_int.mpr rfl) q2'.2.2⟩
theorem call_anyL(hc:X.calm=true):CallR X (.builtin "any") (fun xs H Q=>∃(p:Addr) (bs:List Bool),xs=[.ref p]/\SqL X.K H p (bs.map V.bl)/\Q (.bl (bs.any id)) H):=by
 intro pins s σ H xs us Q I r h
 obtain⟨p,bs,rfl,hq,q⟩:=h
 obtain⟨u,rfl,rx⟩:=vals1 r
 cases rx
 obtain⟨its,r',pl,hz⟩:=I.list hq
 have hb:LSm.BoolsAre its bs:=boolsAre_of r'
 have hl:=pl.isList
 have hlt:p < s.heap.objs.size:=by obtain⟨_,e,_⟩:=hl;exact Heap.lt_size e
 refine call_any_walk (wpAny_pyIter_list hl ?_)
 refine⟨s.heap.objs.size,[s.heap.objs.size,p],[s.heap.objs.size],its.toArray.size,_,_,fun i=>(bs[i]?).getD false,rfl,Walks.list (A:=X.A.in1) (I.ok.hd hc) _ p (Nat.ne_of_lt hlt) its.toArray,
  ⟨⟨_,Heap.get?_push_size _ rfl,rfl,rfl⟩,hl.push _⟩,fun i v s' Q' E' hP hQ=>?_,fun h' tk hk=>?_⟩
 ·obtain⟨b,e,rfl⟩:=hb.get i v (by simpa using hP)
  simp only[e,Option.getD_some]at hQ
  exact wpAny_truthy_bool hQ
 ·have e:((List.range its.toArray.size).any fun i=>(bs[i]?).getD false)=bs.any id:=by
   rw[List.size_toArray,hb.length];exact LSm.range_any bs
  rw[e]
  exact⟨.bl (bs.any id),H,I.kept (t':=tk) (LSm.kept_iter hk),rfl,q⟩
def rAnyT(ts:List T)(Q:T->Prop):Prop:=match ts with
 | [.lst xs]=>(match boolsOf xs with|some bs=>Q (.bl (bs.any id))|none=>False)
 | _=>False
theorem bl_any(hc:X.calm=true):BlR X (.builtin "any") rAnyT:=by
 refine⟨_,call_anyL hc,fun ts vs H Q0 Q r q k=>?_⟩
 unfold rAnyT at q
 split at q
 ·obtain⟨v,rfl,r1⟩:=reps1 r
  split at q
  ·rename_i ns e
   rw[boolsOf_eq e,rep_lst]at r1
   obtain⟨p,ys,rfl,sq,rr⟩:=r1
   rw[reps_bools_inv rr]at sq
   exact⟨p,ns,rfl,sq.sq,k _ _ H (.refl H) (rep_bl.mpr rfl) q⟩
  ·exact q.elim
 ·exact q.elim
end
end TL
end
section
namespace TL
open PySem PySem.Spec PyProof PyProof.Rows L2
abbrev ob(us:Array Value)(n:Nat)(dd:Option Addr)(sl:Array (Option Value)):Obj:={cls:=.type "list", dict:=dd,data:=.seq us n,slots:=sl}
def ltI:List Int->List Int->Bool
 | [],[]=>false
 | [],_::_=>true
 | _::_,[]=>false
 | a::r,b::t=>if a=b then ltI r t else decide (a < b)
theorem int_at:∀{us:List Value}{xs:List Int},IntsAre us xs->∀i:Nat,(us[i]?=none/\xs.drop i=[])∨∃x t,us[i]?=some (.int x t)/\xs.drop i=x::xs.drop (i + 1)
 | _,_,.nil,i=>.inl (by simp)
 | _,_,.cons n t r,0=>.inr ⟨n,t,rfl,rfl⟩
 | _,_,.cons n t r,i + 1=>by
  rcases int_at r i with h|⟨x,t',h1,h2⟩
  ·exact .inl (by simpa using h)
  ·exact .inr ⟨x,t',by simpa using h1,by simpa using h2⟩
theorem lt_loop{l b:Addr}{us vs:Array Value}{n n2:Nat}{dd dd2:Option Addr}{sl sl2:Array (Option Value)}{xs ys:List Int}(hx:IntsAre us.toList xs)(hy:IntsAre vs.toList ys)(k:Nat) :
  ∀i:Nat,us.size - i=k->i<=us.size->i<=vs.size->Meets (Builtin.«list.__eq__.loop» ⟨[.ref l,.ref b,rawInt i,rawInt 0],[]⟩)
   (fun A R s=>s.heap.get? l=some (ob us n dd sl)/\s.heap.get? b=some (ob vs n2 dd2 sl2)/\R (.ok (.ret (.bool (ltI (xs.drop i) (ys.drop i))))) s):=by
 induction k with
 | zero =>
  intro i hk h1 h2 prog w A R s h
  obtain⟨hp,gn,dr,tk,os⟩:=s
  obtain⟨hl,hb,h⟩:=h
  wp_walk using wpAny_loadPart' hb,wpAny_loadPart' hl
  have hi1:us[((i:Nat):Int).toNat]?=none:=by simp;omega
  have e0:xs.drop i=[]:=by
   rcases int_at hx i with q|⟨x,t,q,_⟩
   ·exact q.2
   ·rw[Array.getElem?_toList]at q
    rw[Int.toNat_natCast]at hi1
    rw[hi1]at q
    cases q
  rw[hi1]
  wp_walk using wpAny_loadPart' hb,wpAny_loadPart' hl
  show R (.ok (.ret (.bool (decide (us.size < vs.size))))) _
  rw[e0]at h
  rcases int_at hy i with q|⟨x,t,q,e⟩
  ·rw[q.2]at h
   have:vs.size<=i:=by have:=q.1;rw[Array.getElem?_toList,Array.getElem?_eq_none_iff]at this;exact this
   rw[decide_eq_false (by omega)]
   exact h
  ·rw[e]at h
   have:i < vs.size:=by rw[Array.getElem?_toList]at q;exact(Array.getElem?_eq_some_iff.mp q).1
   rw[decide_eq_true (by omega)]
   exact h
 | succ k ih =>
  intro i hk h1 h2 prog w A R s h
  obtain⟨hp,gn,dr,tk,os⟩:=s
  obtain⟨hl,hb,h⟩:=h
  have hl':=hl
  have hb':=hb
  wp_walk using wpAny_loadPart' hb,wpAny_loadPart' hl
  have hlt:i < us.size:=by omega
  rcases int_at hx i with q|⟨x,t,q1,e1⟩
  ·exfalso
   have:=q.1
   rw[Array.getElem?_toList,Array.getElem?_eq_none_iff]at this
   omega
  rw[Array.getElem?_toList]at q1
  have hi1:us[((i:Nat):Int).toNat]?=some (.int x t):=by rw[Int.toNat_natCast];exact q1
  rw[e1]at h
  rw[hi1]
  rcases int_at hy i with q|⟨y,u,q2,e2⟩
  ·have hi2:vs[((i:Nat):Int).toNat]?=none:=by rw[Int.toNat_natCast,← Array.getElem?_toList];exact q.1
   rw[hi2]
   have:vs.size<=i:=by have:=q.1;rw[Array.getElem?_toList,Array.getElem?_eq_none_iff]at this;exact this
   wp_walk using wpAny_loadPart' hb,wpAny_loadPart' hl
   show R (.ok (.ret (.bool (decide (us.size < vs.size))))) _
   rw[q.2]at h
   rw[decide_eq_false (by omega)]
   exact h
  ·rw[Array.getElem?_toList]at q2
   have hi2:vs[((i:Nat):Int).toNat]?=some (.int y u):=by rw[Int.toNat_natCast];exact q2
   rw[hi2]
   rw[e2]at h
   have hlt2:i < vs.size:=(Array.getElem?_eq_some_iff.mp q2).1
   have hc:(i:Int) + 1=((i + 1:Nat):Int):=by omega
   simp only[ltI]at h
   refine wpAny_bind (SeqAt.EqAt.int_int x t y u prog w _ _ ?_)
   by_cases e:x=y
   ·rw[if_pos e]at h
    rw[beq_iff_eq.mpr e]
    wp_walk
    rw[hc]
    exact⟨plainId_quiet MeetsSeq3.plain_eq_loop _,codeAny_builtin MeetsSeq3.entry_eq_loop (by
     rw[Around.under_plainId MeetsSeq3.plain_eq_loop _]
     exact ih (i + 1) (by omega) (by omega) (by omega) prog w A R _ ⟨hl',hb',h⟩)⟩
   ·rw[if_neg e]at h
    rw[beq_eq_false_iff_ne.mpr e]
    wp_walk using wpAny_loadPart' hb,wpAny_loadPart' hl
    rw[hi1,hi2]
    refine wpAny_bind (wpAny_richCompare_same (typeIs_int _ x t) (typeIs_int _ y u) slot_int_lt (call_int_lt ⟨(fun z=>by cases z),?_⟩))
    exact wpAny_pure h
theorem list_lt{l b:Addr}{us vs:Array Value}{n n2:Nat}{dd dd2:Option Addr}{sl sl2:Array (Option Value)}{xs ys:List Int}(hx:IntsAre us.toList xs)(hy:IntsAre vs.toList ys) :
  Meets (Builtin.«list.__lt__» ⟨[.ref l,.ref b],[]⟩)
   (fun A R s=>s.heap.get? l=some (ob us n dd sl)/\s.heap.get? b=some (ob vs n2 dd2 sl2)/\R (.ok (.ret (.bool (ltI xs ys)))) s):=by
 intro prog w A R s h
 obtain⟨hp,gn,dr,tk,os⟩:=s
 obtain⟨hl,hb,h⟩:=h
 have hl':=hl
 have hb':=hb
 have isl:=AutoSeq1.sub_list_list
 wp_walk using wpAny_loadPart' hb,wpAny_loadPart' hl
 exact⟨plainId_quiet MeetsSeq3.plain_eq_loop _,codeAny_builtin MeetsSeq3.entry_eq_loop (by
  rw[Around.under_plainId MeetsSeq3.plain_eq_loop _]
  exact lt_loop hx hy _ 0 rfl (Nat.zero_le _) (Nat.zero_le _) prog w A R _ ⟨hl',hb',h⟩)⟩
theorem call_list_lt{prog:Program}{w:World}{A:Around}{E:Value->Shared->Prop}{s:Shared}{l b:Addr}{us vs:Array Value}{n n2:Nat}{dd dd2:Option Addr}{sl sl2:Array (Option Value)}{xs ys:List Int}{Q:Value->Shared->Prop}(hl:s.heap.get? l=some (ob us n dd sl))(hb:s.heap.get? b=some (ob vs n2 dd2 sl2))
  (hx:IntsAre us.toList xs) (hy:IntsAre vs.toList ys) (h:Q (.bool (ltI xs ys)) s):wpAny (model prog w) A (call (.builtin "list.__lt__") [.ref l,.ref b]) Q E s:=by
 refine call_meets F.slot_list_lt ⟨_,hl,rfl⟩ F.entry_list_lt (F.args_list_lt_2 _ _) (list_lt (n:=n) (n2:=n2) (dd:=dd) (dd2:=dd2) (sl:=sl) (sl2:=sl2) hx hy) ?_
 exact⟨hl,hb,h⟩
theorem oneLt_list{prog:Program}{w:World}{A:Around}{E:Value->Shared->Prop}{s:Shared}{l b:Addr}{us vs:Array Value}{n n2:Nat}{dd dd2:Option Addr}{sl sl2:Array (Option Value)}{xs ys:List Int}{Q:Bool->Shared->Prop}(hu:A.units < cLine)(hl:s.heap.get? l=some (ob us n dd sl))(hb:s.heap.get? b=some (ob vs n2 dd2 sl2))
  (hx:IntsAre us.toList xs) (hy:IntsAre vs.toList ys) (h:Q (ltI xs ys) s):wpAny (model prog w) A (oneLt' true (.ref l) (.ref b)) Q E s:=by
 rw[oneLt'_eq]
 simp only[if_true]
 refine wpAny_bind (wpAny_cRoomFor_or (.inr hu) ?_)
 refine wpAny_bind (wpAny_callSpecialIfBound?_slot ⟨_,hl,rfl⟩ F.slot_list_lt (call_list_lt hl hb hx hy ?_))
 exact wpAny_truthy_bool h
theorem ltI_irr:∀a:List Int,ltI a a=false
 | []=>rfl
 | a::r=>by simp only[ltI,if_true];exact ltI_irr r
theorem ltI_tot:∀a b:List Int,ltI a b=false->a≠b->ltI b a=true
 | [],[],_,h=>absurd rfl h
 | [],_::_,h,_=>by cases h
 | _::_,[],_,_=>rfl
 | a::r,b::t,h,n=>by
  simp only[ltI]at h ⊢
  by_cases e:a=b
  ·subst e
   rw[if_pos rfl]at h ⊢
   exact ltI_tot r t h fun z=>n (by rw[z])
  ·rw[if_neg e]at h
   rw[if_neg (Ne.symm e)]
   have:=of_decide_eq_false h
   exact decide_eq_true (by omega)
theorem ltI_trans:∀a b c:List Int,ltI a b=true->ltI b c=true->ltI a c=true
 | [],[],_,h,_=>by cases h
 | [],_::_,[],_,h=>by cases h
 | [],_::_,_::_,_,_=>rfl
 | _::_,[],_,h,_=>by cases h
 | _::_,_::_,[],_,h=>by cases h
 | a::r,b::t,c::u,h1,h2=>by
  simp only[ltI]at h1 h2 ⊢
  by_cases e:a=b
  ·subst e
   rw[if_pos rfl]at h1
   by_cases e2:a=c
   ·rw[if_pos e2]at h2 ⊢
    exact ltI_trans r t u h1 h2
   ·rw[if_neg e2]at h2 ⊢
    exact h2
  ·rw[if_neg e]at h1
   have h1:=of_decide_eq_true h1
   by_cases e2:b=c
   ·subst e2
    rw[if_neg e]
    exact decide_eq_true h1
   ·rw[if_neg e2]at h2
    have h2:=of_decide_eq_true h2
    rw[if_neg (by omega)]
    exact decide_eq_true (by omega)
theorem ltI_asym{a b:List Int}(h:ltI a b=true):ltI b a=false:=by
 cases e:ltI b a with
 | false=>rfl
 | true=>have:=ltI_trans _ _ _ h e;rw[ltI_irr]at this;cases this
section
variable {prog:Program} {w:World} {A:Around} {E:Value->Shared->Prop} {s:Shared} {a₀:Array Keyed} {f:Value->List Int}
def ky(f:Value->List Int)(xs:Array Keyed)(i:Nat):List Int:=match xs[i]? with
 | some p=>f p.1
 | none=>[]
structure LtF(prog:Program)(w:World)(A:Around)(s:Shared)(f:Value->List Int)(a₀:Array Keyed):Prop where
 lt:∀p∈a₀.toList,∀q∈a₀.toList,∀(E:Value->Shared->Prop)(Q:Bool->Shared->Prop),Q (ltI (f p.1) (f q.1)) s->wpAny (model prog w) A (oneLt' true p.1 q.1) Q E s
 nd:(a₀.toList.map fun p=>f p.1).Nodup
theorem ky_at{xs:Array Keyed}{i:Nat}(h:i < xs.size):ky f xs i=f xs[i].1:=by unfold ky;rw[getElem?_pos xs i h]
theorem ky_inj{st:SortSt}(L:LtF prog w A s f a₀)(hB:SBase a₀ st){i j:Nat}(hi:i < a₀.size)(hj:j < a₀.size)(h:ky f (arrOf st) i=ky f (arrOf st) j):i=j:=by
 have nd:((arrOf st).toList.map fun p=>f p.1).Nodup:=((Array.perm_iff_toList_perm.mp hB.perm).map _).nodup_iff.mpr L.nd
 have hs:=hB.size
 rw[ky_at (by omega),ky_at (by omega)]at h
 have nd':=List.pairwise_iff_getElem.mp nd
 rcases Nat.lt_trichotomy i j with q|q|q
 ·exact absurd (by rw[List.getElem_map,List.getElem_map,Array.getElem_toList,Array.getElem_toList];exact h) (nd' i j (by simp;omega) (by simp;omega) q)
 ·exact q
 ·exact absurd (by rw[List.getElem_map,List.getElem_map,Array.getElem_toList,Array.getElem_toList];exact h.symm) (nd' j i (by simp;omega) (by simp;omega) q)
theorem wpS_ltF{st:SortSt}{i j:Nat}{Q:Option Bool->SortSt->Prop}(L:LtF prog w A s f a₀)(hB:SBase a₀ st)(hi:i < a₀.size)(hj:j < a₀.size)(h:Q (some (ltI (ky f (arrOf st) i) (ky f (arrOf st) j))) st) :
  wpS (model prog w) A E s (ltAt' i j) Q st:=by
 have hs:=hB.size
 have hm:∀k (hk:k < (arrOf st).size),(arrOf st)[k]∈a₀.toList:=fun k hk=>(Array.perm_iff_toList_perm.mp hB.perm).mem_iff.mp (by simp)
 have e1:(arrOf st)[i]?=some (arrOf st)[i]:=getElem?_pos _ _ (by omega)
 have e2:(arrOf st)[j]?=some (arrOf st)[j]:=getElem?_pos _ _ (by omega)
 rw[ky_at (by omega),ky_at (by omega)]at h
 rw[ltAt'_eq]
 refine wpS_bind (wpS_get ?_)
 dsimp only
 rw[elem'_eq,elem'_eq,e1,e2]
 refine wpS_bind (wpS_pure ?_)
 refine wpS_bind (wpS_pure ?_)
 rw[lt'_eq]
 refine wpS_bind (wpS_get ?_)
 rw[hB.kind,keyLt'_oneType]
 refine wpS_bind (wpS_lift (wpAny_attempt (L.lt _ (hm i (by omega)) _ (hm j (by omega)) _ _ ⟨rfl,?_⟩)))
 exact wpS_pure h
def AscTo(f:Value->List Int)(xs:Array Keyed)(k:Nat):Prop:=∀i j,i < j->j < k->ltI (ky f xs i) (ky f xs j)=true
def DescTo(f:Value->List Int)(xs:Array Keyed)(k:Nat):Prop:=∀i j,i < j->j < k->ltI (ky f xs j) (ky f xs i)=true
theorem AscTo.more{xs:Array Keyed}{k:Nat}(h:AscTo f xs k)(hk:1<=k)(q:ltI (ky f xs (k - 1)) (ky f xs k)=true):AscTo f xs (k + 1):=fun i j hij hj=>by
 by_cases e:j=k
 ·subst e
  by_cases e2:i=j - 1
  ·subst e2;exact q
  ·exact ltI_trans _ _ _ (h i (j - 1) (by omega) (by omega)) q
 ·exact h i j hij (by omega)
theorem DescTo.more{xs:Array Keyed}{k:Nat}(h:DescTo f xs k)(hk:1<=k)(q:ltI (ky f xs k) (ky f xs (k - 1))=true):DescTo f xs (k + 1):=fun i j hij hj=>by
 by_cases e:j=k
 ·subst e
  by_cases e2:i=j - 1
  ·subst e2;exact q
  ·exact ltI_trans _ _ _ q (h i (j - 1) (by omega) (by omega))
 ·exact h i j hij (by omega)
theorem wpS_asc{st:SortSt}{a n:Nat}{Q:AscSt->SortSt->Prop}(L:LtF prog w A s f a₀)(hB:SBase a₀ st)(h1:1<=a)(h2:a<=n)(hn:n<=a₀.size)(ha:AscTo f (arrOf st) a)
  (h:∀m,a<=m->m<=n->AscTo f (arrOf st) m->(m < n->ltI (ky f (arrOf st) m) (ky f (arrOf st) (m - 1))=true)->Q (none,m) st):wpS (model prog w) A E s (ascLoop a n) Q st:=by
 unfold ascLoop
 refine wpS_forRange (I:=fun i c st'=>st'=st/\c=(none,i)/\AscTo f (arrOf st) i) ?_ ?_ ⟨rfl,rfl,ha⟩
 ·rintro i c st' hi1 hi2 ⟨rfl,rfl,hI⟩
  refine wpS_bind (wpS_ltF L hB (by omega) (by dsimp only;omega) ?_)
  dsimp only
  cases e:ltI (ky f (arrOf st') i) (ky f (arrOf st') (i - 1)) with
  | true=>exact wpS_pure (h i hi1 (by omega) hI fun _=>e)
  | false=>exact wpS_pure ⟨rfl,rfl,hI.more (by omega) (ltI_tot _ _ e fun z=>by have:=ky_inj L hB (by omega) (by omega) z;omega)⟩
 ·rintro c st' ⟨rfl,rfl,hI⟩
  rw[Nat.max_eq_right h2] at *
  exact h n h2 (Nat.le_refl _) hI fun z=>absurd z (Nat.lt_irrefl _)
theorem wpS_desc{st:SortSt}{a n:Nat}{Q:DescSt->SortSt->Prop}(L:LtF prog w A s f a₀)(hB:SBase a₀ st)(h1:1<=a)(h2:a<=n)(hn:n<=a₀.size)(ha:DescTo f (arrOf st) a)
  (h:∀m,a<=m->m<=n->DescTo f (arrOf st) m->Q (none,m,0) st):wpS (model prog w) A E s (descLoop a n) Q st:=by
 unfold descLoop
 refine wpS_forRange (I:=fun i c st'=>st'=st/\c=(none,i,0)/\DescTo f (arrOf st) i) ?_ ?_ ⟨rfl,rfl,ha⟩
 ·rintro i c st' hi1 hi2 ⟨rfl,rfl,hI⟩
  refine wpS_bind (wpS_ltF L hB (by dsimp only;omega) (by dsimp only;omega) ?_)
  dsimp only
  cases e:ltI (ky f (arrOf st') i) (ky f (arrOf st') (i - 1)) with
  | true=>exact wpS_pure ⟨rfl,rfl,hI.more (by omega) e⟩
  | false =>
   refine wpS_bind (wpS_ltF L hB (by omega) (by omega) ?_)
   dsimp only
   rw[ltI_tot _ _ e fun z=>by have:=ky_inj L hB (by omega) (by omega) z;omega]
   exact wpS_pure (h i hi1 (by omega) hI)
 ·rintro c st' ⟨rfl,rfl,hI⟩
  rw[Nat.max_eq_right h2] at *
  exact h n h2 (Nat.le_refl _) hI
theorem ky_mirror{xs:Array Keyed}{m i:Nat}(hm:m<=xs.size)(hi:i < m):ky f (mirror xs 0 m (m / 2)) i=ky f xs (m - 1 - i):=by
 unfold ky
 have:=getElem?_mirror_all (xs:=xs) (i:=0) (j:=m) hm i
 simp only[Nat.sub_zero]at this
 rw[this]
 simp[hi]
theorem wpS_tail{st:SortSt}{m n:Nat}{Q:Option Nat->SortSt->Prop}(L:LtF prog w A s f a₀)(hB:SBase a₀ st)(h1:1<=m)(h2:m<=n)(hn:n<=a₀.size)(hd:DescTo f (arrOf st) m)
  (h:∀k st',SBase a₀ st'->1<=k->k<=n->AscTo f (arrOf st') k->Q (some k) st'):wpS (model prog w) A E s (tail3 m n) Q st:=by
 unfold tail3
 rw[reverseSlice'_eq]
 refine wpS_bind (wpS_modify ?_)
 have hB2:SBase a₀ (setArr st (mirror (arrOf st) 0 m ((m - 0) / 2))):=hB.setArr (mirror_perm _ _ _ _)
 have hs:=hB.size
 have asc:AscTo f (arrOf (setArr st (mirror (arrOf st) 0 m ((m - 0) / 2)))) m:=fun i j hij hj=>by
  show ltI (ky f (mirror (arrOf st) 0 m (m / 2)) i) (ky f (mirror (arrOf st) 0 m (m / 2)) j)=true
  rw[ky_mirror (by omega) (by omega),ky_mirror (by omega) hj]
  exact hd _ _ (by omega) (by omega)
 refine wpS_bind (wpS_asc L hB2 h1 h2 hn asc fun k k1 k2 k3 _=>?_)
 exact wpS_pure (h k _ hB2 (by omega) k2 k3)
theorem wpS_run{st:SortSt}{n:Nat}{Q:Option Nat->SortSt->Prop}(L:LtF prog w A s f a₀)(hB:SBase a₀ st)(h1:1<=n)(hn:n<=a₀.size)
  (h:∀k st',SBase a₀ st'->1<=k->k<=n->AscTo f (arrOf st') k->Q (some k) st'):wpS (model prog w) A E s (countRun' 0 n) Q st:=by
 rw[countRun0_eq]
 refine wpS_bind (wpS_asc L hB (Nat.le_refl 1) h1 hn (fun i j a b=>by omega) fun m m1 m2 m3 m4=>?_)
 dsimp only
 by_cases e:m=n
 ·rw[if_pos (by simp[e])]
  exact wpS_pure (h m st hB m1 m2 m3)
 rw[if_neg (by simp[e])]
 by_cases e2:m > 1
 ·rw[if_pos e2]
  refine wpS_bind (wpS_ltF L hB (by omega) (by omega) ?_)
  dsimp only
  rw[m3 0 (m - 1) (by omega) (by omega)]
  exact wpS_pure (h m st hB m1 m2 m3)
 ·rw[if_neg e2]
  have em:m=1:=by omega
  subst em
  unfold descPart
  refine wpS_bind (wpS_lift ?_)
  refine wpAny_rule ⟨rfl,?_⟩
  have d2:DescTo f (arrOf st) (1 + 1):=DescTo.more (fun i j a b=>by omega) (Nat.le_refl 1) (m4 (by omega))
  refine wpS_bind (wpS_desc L hB (by decide) (by omega) hn d2 fun k k1 k2 k3=>?_)
  dsimp only
  rw[if_neg (by decide)]
  exact wpS_tail L hB (by omega) k2 hn k3 h
theorem wpS_run_asc{st:SortSt}{n:Nat}{Q:Option Nat->SortSt->Prop}(L:LtF prog w A s f a₀)(hB:SBase a₀ st)(h1:1<=n)(hn:n<=a₀.size)(ha:AscTo f (arrOf st) n)(h:Q (some n) st):wpS (model prog w) A E s (countRun' 0 n) Q st:=by
 rw[countRun0_eq]
 refine wpS_bind (wpS_asc L hB (Nat.le_refl 1) h1 hn (fun i j a b=>by omega) fun m m1 m2 m3 m4=>?_)
 dsimp only
 have e:m=n:=by
  rcases Nat.lt_or_ge m n with q|q
  ·have x:=m4 q
   rw[ltI_asym (ha (m - 1) m (by omega) q)]at x
   cases x
  ·omega
 subst e
 rw[if_pos (by simp)]
 exact wpS_pure h
theorem minRun_le:∀(j fuel n r:Nat),j<=fuel->n < 64 * 2 ^ j->r<=1->minRun' (fuel + 1) n r<=n + r
 | 0,fuel,n,r,_,h,_=>by rw[minRun'_succ,if_pos (by omega)];omega
 | j + 1,fuel,n,r,hj,h,hr=>by
  rw[minRun'_succ]
  by_cases e:n < 64
  ·rw[if_pos e];omega
  ·rw[if_neg e]
   obtain⟨f',rfl⟩:∃f',fuel=f' + 1:=⟨fuel - 1,by omega⟩
   have:=minRun_le j f' (n / 2) (max r (n % 2)) (by omega) (by rw[Nat.pow_succ]at h;omega) (by omega)
   omega
structure Pl1(f:Value->List Int)(xs:Array Keyed)(k l r:Nat):Prop where
 lr:l<=r
 rk:r<=k
 low:∀i,i < l->ltI (ky f xs i) (ky f xs k)=true
 high:∀i,r<=i->i < k->ltI (ky f xs k) (ky f xs i)=true
theorem ky_bubble{xs:Array Keyed}{k d i:Nat}(hk:k < xs.size)(hd:d<=k):ky f (bubble xs k d) i=if i=k - d then ky f xs k else if k - d < i/\i<=k then ky f xs (i - 1) else ky f xs i:=by
 unfold ky
 rw[getElem?_bubble (xs:=xs) hk d hd i]
 by_cases e:i=k - d
 ·rw[if_pos e,if_pos e]
 ·rw[if_neg e,if_neg e]
  by_cases e2:k - d < i/\i<=k
  ·rw[if_pos e2,if_pos e2]
  ·rw[if_neg e2,if_neg e2]
theorem Pl1.put{xs:Array Keyed}{k l:Nat}(P:Pl1 f xs k l l)(hk:k < xs.size)(ha:AscTo f xs k):AscTo f (bubble xs k (k - l)) (k + 1):=fun i j hij hj=>by
 have:=P.rk
 have e0:k - (k - l)=l:=by omega
 rw[ky_bubble hk (by omega),ky_bubble hk (by omega),e0]
 by_cases e1:i=l
 ·rw[if_pos e1,if_neg (by omega),if_pos ⟨by omega,by omega⟩]
  exact P.high _ (by omega) (by omega)
 ·rw [if_neg e1]
  by_cases e2:l < i
  ·rw[if_pos ⟨e2,by omega⟩,if_neg (by omega),if_pos ⟨by omega,by omega⟩]
   exact ha _ _ (by omega) (by omega)
  ·rw[if_neg (by omega)]
   by_cases e3:j=l
   ·rw[if_pos e3]
    exact P.low _ (by omega)
   ·rw[if_neg e3]
    by_cases e4:l < j
    ·rw[if_pos ⟨e4,by omega⟩]
     exact ha _ _ (by omega) (by omega)
    ·rw[if_neg (by omega)]
     exact ha _ _ hij (by omega)
theorem wpS_bin{st:SortSt}{n ok:Nat}{Q:Bool->SortSt->Prop}(L:LtF prog w A s f a₀)(hB:SBase a₀ st)(hn:n<=a₀.size)(h1:1<=ok)(h2:ok<=n)(ha:AscTo f (arrOf st) ok)
  (h:∀st',SBase a₀ st'->AscTo f (arrOf st') n->Q true st'):wpS (model prog w) A E s (binarySort' 0 n ok) Q st:=by
 rw[binarySort'_eq]
 rw[Nat.max_eq_left h1]
 refine wpS_bind ?_
 refine wpS_forRange (I:=fun k c st'=>c=(none,())/\SBase a₀ st'/\AscTo f (arrOf st') k) ?_ ?_ ⟨rfl,hB,ha⟩
 ·rintro k c st' hk1 hk2 ⟨rfl,hB',hI⟩
  have hs:=hB'.size
  dsimp only
  refine wpS_bind ?_
  refine wpS_forRange (I:=fun j c st2=>st2=st'/\c.1=none/\Pl1 f (arrOf st') k c.2.1 c.2.2/\c.2.2 - c.2.1<=k - j) ?_ ?_ ⟨rfl,rfl,⟨Nat.zero_le _,Nat.le_refl _,(fun i hi=>by dsimp only at hi;omega),fun i h1 h2=>by dsimp only at h1;omega⟩,by simp⟩
  ·rintro j ⟨o,l,r⟩ st2 hj1 hj2 ⟨rfl,rfl,P,hf⟩
   dsimp only at P hf ⊢
   by_cases e:l ≥ r
   ·rw[if_pos e]
    refine wpS_pure ?_
    have el:r=l:=by have:=P.lr;omega
    subst el
    dsimp only
    rw[moveDown'_eq]
    refine wpS_bind (wpS_modify ?_)
    refine wpS_pure ⟨rfl,hB'.setArr (bubble_perm _ _ _),?_⟩
    rw[Nat.zero_add,Nat.zero_add]
    exact P.put (by omega) hI
   ·rw[if_neg e]
    refine wpS_bind (wpS_ltF L hB' (by omega) (by have:=P.rk;omega) ?_)
    dsimp only
    rw[Nat.zero_add,Nat.zero_add]
    have hm:(l + r) / 2 < r:=by omega
    have hml:l<=(l + r) / 2:=by omega
    have:=P.rk
    cases q:ltI (ky f (arrOf st2) k) (ky f (arrOf st2) ((l + r) / 2)) with
    | true =>
     refine wpS_pure ⟨rfl,rfl,⟨hml,by dsimp only;omega,P.low,fun i i1 i2=>?_⟩,by dsimp only;omega⟩
     by_cases z:i=(l + r) / 2
     ·rw[z];exact q
     ·exact ltI_trans _ _ _ q (hI _ _ (by dsimp only at i1;omega) i2)
    | false =>
     refine wpS_pure ⟨rfl,rfl,⟨by dsimp only;omega,P.rk,fun i i1=>?_,P.high⟩,by dsimp only;omega⟩
     have q2:=ltI_tot _ _ q fun z=>by have:=ky_inj L hB' (by omega) (by omega) z;omega
     by_cases z:i=(l + r) / 2
     ·rw[z];exact q2
     ·exact ltI_trans _ _ _ (hI i ((l + r) / 2) (by dsimp only at i1;omega) (by omega)) q2
  ·rintro ⟨o,l,r⟩ st2 ⟨rfl,rfl,P,hf⟩
   dsimp only at P hf ⊢
   have el:r=l:=by have:=P.lr;omega
   subst el
   rw[moveDown'_eq]
   refine wpS_bind (wpS_modify ?_)
   refine wpS_pure ⟨rfl,hB'.setArr (bubble_perm _ _ _),?_⟩
   rw[Nat.zero_add,Nat.zero_add]
   exact P.put (by omega) hI
 ·rintro c st' ⟨rfl,hB',hI⟩
  rw[Nat.max_eq_right h2]at hI
  exact wpS_pure (h st' hB' hI)
structure Dn(f:Value->List Int)(a₀:Array Keyed)(st:SortSt):Prop where
 perm:(arrOf st).Perm a₀
 failed:failedOf st=none
 pend:pendingOf st=#[(0,a₀.size,0)]
 asc:AscTo f (arrOf st) a₀.size
theorem wpS_runs{st:SortSt}{Q:Unit->SortSt->Prop}(L:LtF prog w A s f a₀)(hB:SBase a₀ st)(h2:2<=a₀.size)(h64:a₀.size < 64∨(a₀.size<=1000/\AscTo f (arrOf st) a₀.size))
  (h:∀st',(arrOf st').Perm a₀->failedOf st'=none->AscTo f (arrOf st') a₀.size->Q () st'):wpS (model prog w) A E s sortRuns' Q st:=by
 rw[sortRuns'_eq]
 refine wpS_bind (wpS_get ?_)
 rw[hB.size]
 obtain⟨m,em⟩:∃m,a₀.size=m + 1:=⟨a₀.size - 1,by omega⟩
 dsimp only
 have push:∀st',SBase a₀ st'->AscTo f (arrOf st') a₀.size->Dn f a₀ (setPending st' ((pendingOf st').push (0,a₀.size,0))):=fun st' b q=>⟨b.perm,b.failed,by show (pendingOf st').push _=_;rw[b.pend];rfl,q⟩
 refine wpS_bind (wpS_mono (Q:=fun c st'=>c=(none,a₀.size)/\Dn f a₀ st') ?_ ?_)
 ·refine wpS_forRange (I:=fun i c st'=>(i=0/\c=(none,0)/\st'=st)∨(1<=i/\c=(none,a₀.size)/\Dn f a₀ st')) ?_ ?_ (.inl ⟨rfl,rfl,rfl⟩)
  ·rintro i c st' _ hi (⟨rfl,rfl,rfl⟩|⟨hi1,rfl,D⟩)
   ·dsimp only
    rw[if_neg (by omega),Nat.sub_zero]
    rcases h64 with h64|⟨l64,h64⟩
    rotate_left
    ·refine wpS_bind (wpS_run_asc L hB (by omega) (Nat.le_refl _) h64 ?_)
     dsimp only
     have ml:minRun' a₀.size a₀.size 0<=a₀.size:=by
      rw[em]at l64 ⊢
      by_cases l5:m + 1 < 64
      ·rw[minRun'_succ,if_pos l5];omega
      ·exact minRun_le 5 m (m + 1) 0 (by omega) (by omega) (by decide)
     rw[if_neg (by omega)]
     refine wpS_bind (wpS_get ?_)
     rw[hB.pend]
     exact wpS_bind (wpS_modify (wpS_pure (.inr ⟨by omega,by rw[Nat.zero_add],push _ hB h64⟩)))
    have er:minRun' a₀.size a₀.size 0=a₀.size:=by
     rw[em,minRun'_succ,if_pos (by omega)]
    rw[er]
    refine wpS_bind (wpS_run L hB (by omega) (Nat.le_refl _) fun k st2 b2 k1 k2 k3=>?_)
    dsimp only
    by_cases e:k < a₀.size
    ·rw[if_pos e]
     refine wpS_bind (wpS_lift ?_)
     refine wpAny_rule ⟨rfl,?_⟩
     rw[Nat.min_self]
     refine wpS_bind (wpS_bin L b2 (Nat.le_refl _) k1 (by omega) k3 fun st3 b3 k4=>?_)
     rw[if_neg (by decide)]
     refine wpS_bind (wpS_get ?_)
     rw[b3.pend]
     refine wpS_bind (wpS_modify (wpS_pure (.inr ⟨by omega,by rw[Nat.zero_add],push st3 b3 k4⟩)))
    ·rw[if_neg e]
     have ek:k=a₀.size:=by omega
     subst ek
     refine wpS_bind (wpS_get ?_)
     rw[b2.pend]
     refine wpS_bind (wpS_modify (wpS_pure (.inr ⟨by omega,by rw[Nat.zero_add],push st2 b2 k3⟩)))
   ·dsimp only
    rw[if_pos (Nat.le_refl _)]
    exact wpS_pure ⟨rfl,D⟩
  ·rintro c st' (⟨z,_⟩|⟨_,rfl,D⟩)
   ·omega
   ·exact⟨rfl,D⟩
 ·rintro c st' ⟨rfl,D⟩
  dsimp only
  refine wpS_bind (wpS_mono (Q:=fun c st2=>c=(none,())/\st2=st') ?_ ?_)
  ·refine wpS_forRange (I:=fun i c st2=>c=(none,())/\st2=st') ?_ (fun c st2 q=>q) ⟨rfl,rfl⟩
   rintro i c st2 _ _ ⟨rfl,rfl⟩
   refine wpS_bind (wpS_get ?_)
   rw[D.pend]
   exact wpS_pure ⟨rfl,rfl⟩
  ·rintro c st2 ⟨rfl,rfl⟩
   exact wpS_pure (h _ D.perm D.failed D.asc)
end
section
variable {prog:Program} {w:World} {A:Around} {E:Value->Shared->Prop} {s:Shared}
theorem mapM_one{β:Type}{g:Value->Sem β}{b:β}:∀(vs:List Value)(Q:List β->Shared->Prop),(∀v∈vs,∀Q':β->Shared->Prop,Q' b s->wpAny (model prog w) A (g v) Q' E s)->Q (vs.map fun _=>b) s->wpAny (model prog w) A (vs.mapM g) Q E s
 | [],Q,_,h=>by
  rw[List.mapM_nil]
  exact wpAny_pure h
 | v::r,Q,hg,h=>by
  rw[List.mapM_cons]
  refine wpAny_bind (hg v List.mem_cons_self _ ?_)
  refine wpAny_bind (mapM_one r _ (fun x m=>hg x (List.mem_cons_of_mem _ m)) ?_)
  exact wpAny_pure h
theorem first_list{v:Value}{Q:Option Value->Shared->Prop} (hv:s.TypeIs v "list") (h:Q none s):wpAny (model prog w) A (firstOfTuple' v) Q E s:=by
 show wpAny (model prog w) A (typeOf v >>= fun t=>_) Q E s
 refine wpAny_bind (wpAny_typeOf hv ?_)
 exact wpAny_pure h
theorem wp_kind{vs:List Value}{Q:SortKind->Shared->Prop} (hv:∀v∈vs,s.TypeIs v "list") (hne:vs≠[]) (h:Q oneType' s):wpAny (model prog w) A (keyKind' vs.toArray) Q E s:=by
 rw[keyKind'_eq,List.mapM_toArray,map_eq_pure_bind]
 refine wpAny_bind (wpAny_bind (mapM_one (b:=none) vs _ (fun v m Q' q=>first_list (hv v m) q) (wpAny_pure ?_)))
 cases vs with
 | nil=>exact absurd rfl hne
 | cons v r =>
  rw[if_neg (by simp),if_neg (by simp)]
  rw[oneTypeOnly'_eq,List.mapM_toArray,map_eq_pure_bind]
  refine wpAny_bind ?_
  refine wpAny_bind (wpAny_bind (mapM_one (b:=.type "list") (v::r) _ (fun v m Q' q=>wpAny_typeOf (hv v m) q) (wpAny_pure ?_)))
  rw[show (List.map (fun x=>Value.type "list") (v::r)).toArray[0]?=some (Value.type "list") from by simp]
  dsimp only
  rw[if_pos (by simp)]
  exact wpAny_pure (wpAny_pure h)
abbrev midH(h:Heap)(a:Addr)(vs:List Value):Heap:=((h.update a (Obj.mapSeq fun _=>#[])).push (seqObj "tuple" vs.toArray 0)).push (seqObj "list" #[] 0)
theorem mid_old{h:Heap}{a b:Addr}{vs:List Value}{o:Obj}(hb:h.get? b=some o)(ne:b≠a):(midH h a vs).get? b=some o:=by
 have lt:b < h.objs.size:=Heap.lt_size hb
 have e:(h.update a (Obj.mapSeq fun _=>#[])).get? b=some o:=by rw[Heap.get?_update_ne];exact hb;exact ne
 exact Heap.get?_push_of_some _ (Heap.get?_push_of_some _ e)
theorem asc_in{vs:List Value}{f:Value->List Int}(h:(vs.map f).Pairwise (fun a b=>ltI a b=true)):AscTo f (vs.toArray.zip vs.toArray) vs.length:=fun i j hij hj=>by
 have at':∀i,i < vs.length->ky f (vs.toArray.zip vs.toArray) i=(vs.map f)[i]! := fun i hi=>by
  rw[ky_at (by simpa using hi)]
  simp[hi]
 rw[at' i (by omega),at' j hj]
 have:=List.pairwise_iff_getElem.mp h i j (by simp;omega) (by simpa using hj) hij
 simpa [hj,show i < vs.length by omega] using this
theorem sort_at{a:Addr}{vs:List Value}{n:Nat}{f:Value->List Int}{P:Fin->Shared->Prop} (ho:s.heap.get? a=some (seqObj "list" vs.toArray n)) (L:LtF prog w A {s with heap:=midH s.heap a vs} f (pairsOf vs))
  (hv:∀v∈vs,({s with heap:=midH s.heap a vs}:Shared).TypeIs v "list") (h64:vs.length < 64∨(vs.length<=1000/\(vs.map f).Pairwise (fun a b=>ltI a b=true)))
  (h:∀xs:Array Keyed,xs.Perm (pairsOf vs)->AscTo f xs (pairsOf vs).size->P (.done (.ret .none)) {s with heap:=sortedHeap s.heap a vs (xs.map (·.2))}) :
  wpAny (model prog w) A (Builtin.«list.sort» ⟨[.ref a],[]⟩) P E s:=by
 rw[list_sort_plain]
 have la:a < s.heap.objs.size:=Heap.lt_size ho
 refine wpAny_bind (listItems_at ho rfl (wpAny_bind (listUpdate_at ho rfl ?_)))
 obtain⟨e1,o1⟩:∃e1,(s.heap.update a (Obj.mapSeq fun _=>#[])).get? a=some (seqObj "list" #[] e1):=⟨_,get?_update_seq ho fun _=>#[]⟩
 refine wpAny_bind (seqEpoch_at o1 rfl (wpAny_bind (wpAny_newTuple (wpAny_bind (wpAny_newList ?_)))))
 refine wpAny_holding ?_
 have o6:(midH s.heap a vs).get? a=some (seqObj "list" #[] e1):=Heap.get?_push_of_some _ (Heap.get?_push_of_some _ o1)
 show wpAny (model prog w) A _ P E {s with heap:=midH s.heap a vs}
 dsimp only
 have sz:vs.toArray.size=vs.length:=by simp
 by_cases h2:vs.length < 2
 ·rw[if_pos (by omega),if_pos (by omega)]
  refine wpAny_bind (wpAny_pure ?_)
  rw[StateT.run_pure]
  refine wpAny_bind (wpAny_pure ?_)
  dsimp only
  refine wpAny_bind (seqEpoch_at o6 rfl (wpAny_bind (listUpdate_at o6 rfl ?_ (hsz2:=by rw[Array.size_map];show (pairsOf vs).size<=_;rw[pairsOf_size,sizeLine_eq];omega))))
  simp only[bne_self_eq_false,Bool.false_eq_true,if_false]
  exact wpAny_pure (h (pairsOf vs) (Array.Perm.refl _) fun i j a b=>by rw[pairsOf_size]at b;omega)
 ·rw[if_neg (by omega),if_neg (by omega)]
  refine wpAny_bind (wp_kind hv (fun z=>by subst z;simp at h2) ?_)
  refine wpAny_bind (wpAny_mono (wpS_runs (a₀:=pairsOf vs) (st:=SortSt.mk' oneType' (vs.toArray.zip vs.toArray) #[] 7 none) (Q:=fun _ st'=>(arrOf st').Perm (pairsOf vs)/\failedOf st'=none/\AscTo f (arrOf st') (pairsOf vs).size)
   L ⟨Array.Perm.refl _,rfl,rfl,rfl⟩ (by rw[pairsOf_size];omega) (by rw[pairsOf_size];exact h64.imp id fun q=>⟨q.1,asc_in q.2⟩) fun st' p q r=>⟨p,q,r⟩) ?_ fun _ _ e=>e)
  rintro ⟨⟨⟩,st'⟩ s' ⟨rfl,hp,hf,hs⟩
  dsimp only
  refine wpAny_bind (seqEpoch_at o6 rfl (wpAny_bind (listUpdate_at o6 rfl ?_ (hsz2:=by rw[Array.size_map,hp.size_eq,pairsOf_size,sizeLine_eq];omega))))
  rw[hf]
  simp only[bne_self_eq_false,Bool.false_eq_true,if_false]
  exact wpAny_pure (h _ hp hs)
end
section
variable {prog:Program} {w:World} {A:Around} {E:Value->Shared->Prop} {s:Shared}
def LstAt(h:Heap)(v:Value)(xs:List Int):Prop:=∃l us n dd sl,v=.ref l/\h.get? l=some (ob us n dd sl)/\IntsAre us.toList xs
abbrev befH(h:Heap)(vs:List Value):Heap:=((h.push (seqObj "list" #[] 0)).update h.objs.size (Obj.mapSeq (· ++ vs.toArray))).push (seqObj "list" vs.toArray 0)
theorem bef_size{h:Heap}{vs:List Value}:((h.push (seqObj "list" #[] 0)).update h.objs.size (Obj.mapSeq (· ++ vs.toArray))).objs.size=h.objs.size + 1:=by rw[Heap.size_update,size_push']
theorem bef_old{h:Heap}{vs:List Value}{b:Addr}{o:Obj}(hb:h.get? b=some o):(befH h vs).get? b=some o:=by
 have lt:b < h.objs.size:=Heap.lt_size hb
 refine Heap.get?_push_of_some _ ?_
 rw[Heap.get?_update_ne _ _ _ _ (Nat.ne_of_lt lt)]
 exact Heap.get?_push_of_some _ hb
theorem sorted_ll{l:Addr}{vs:List Value}{f:Value->List Int}{Q:Value->Shared->Prop}(hu:A.in1.in1.units < cLine)(hl:s.heap.IsList l vs.toArray)(hS:∀v∈vs,LstAt s.heap v (f v))(nd:(vs.map f).Nodup)(h64:vs.length < 64∨(vs.length<=1000/\(vs.map f).Pairwise (fun a b=>ltI a b=true)))
  (h:∀xs:Array Keyed,xs.Perm (pairsOf vs)->AscTo f xs (pairsOf vs).size->Q (.ref (s.heap.objs.size + 1)) {s with heap:=sortedAll s.heap vs (xs.map (·.2))}) :
  wpAny (model prog w) A (call (.builtin "sorted") [.ref l]) Q E s:=by
 refine Calls.call_function_entry kind_sorted plain_sorted entry_sorted (args_sorted1 _) ?_
 unfold Builtin.«sorted»
 refine wpAny_bind (m:=checkCount "sorted" 1 1 _) (wpAny_pure (wpAny_bind (collect_list hl (wpAny_bind (wpAny_newList ?_)))))
 have oL:(befH s.heap vs).get? (s.heap.objs.size + 1)=some (seqObj "list" vs.toArray 0):=by rw[← bef_size (h:=s.heap) (vs:=vs)];exact Heap.get?_push_size _ rfl
 show wpAny _ _ _ _ _ {s with heap:=befH s.heap vs}
 rw[bef_size]
 have old:∀{b:Addr}{o:Obj},s.heap.get? b=some o->(midH (befH s.heap vs) (s.heap.objs.size + 1) vs).get? b=some o:=fun hb=>mid_old (bef_old hb) (Nat.ne_of_lt (Nat.lt_succ_of_lt (Heap.lt_size hb)))
 refine wpAny_bind (wpAny_holding (wpAny_call_entry slot_list_sort ⟨_,oL,rfl⟩ entry_list_sort (sort_at (f:=f) oL ⟨fun p hp q hq E' Q' hq'=>?_,?_⟩ (fun v hv=>?_) h64 fun xs a1 a2=>⟨_,rfl,wpAny_pure ⟨_,rfl,h xs a1 a2⟩⟩) (args_list_sort _)))
 ·have mem:∀r:Keyed,r∈(pairsOf vs).toList->r.1∈vs:=fun r hr=>by
   rw[pairsOf_toList]at hr
   exact(mem_zip_self hr).2
  obtain⟨x,us,n,_,_,ex,hx,ix⟩:=hS _ (mem p hp)
  obtain⟨y,vs',m,_,_,ey,hy,iy⟩:=hS _ (mem q hq)
  rw[ex,ey]
  refine oneLt_list hu (old hx) (old hy) ix iy ?_
  exact hq'
 ·rw[pairsOf_toList]
  have e:(vs.zip vs).map (fun p=>f p.1)=vs.map f:=by
   have:(vs.zip vs).map (fun p=>f p.1)=((vs.zip vs).map Prod.fst).map f:=by rw[List.map_map];rfl
   rw[this,List.map_fst_zip (Nat.le_refl _)]
  rw[e]
  exact nd
 ·obtain⟨x,us,n,_,_,rfl,hx,_⟩:=hS v hv
  exact⟨_,old hx,rfl⟩
theorem asc_out{vs:List Value}{f:Value->List Int}{xs:Array Keyed}(hp:xs.Perm (pairsOf vs))(ha:AscTo f xs (pairsOf vs).size):(xs.map (·.2)).toList.Perm vs/\((xs.map (·.2)).toList.map f).Pairwise (fun a b=>ltI a b=true):=by
 have hl:=Array.perm_iff_toList_perm.mp hp
 rw[pairsOf_toList]at hl
 have same:∀p∈xs.toList,p.1=p.2:=fun p m=>(mem_zip_self (hl.mem_iff.mp m)).1
 constructor
 ·rw[Array.toList_map]
  have:=hl.map Prod.snd
  rwa [List.map_snd_zip (Nat.le_refl _)]at this
 ·rw[List.pairwise_iff_getElem]
  intro i j hi hj hij
  have hi':i < xs.size:=by simpa using hi
  have hj':j < xs.size:=by simpa using hj
  have q:=ha i j hij (by rw[← hp.size_eq];exact hj')
  rw[ky_at hi',ky_at hj',same _ (by simp),same _ (by simp)]at q
  simpa using q
end
section
variable {X:Cx}
def valOf:V->Value
 | .ref a=>.ref a
 | _=>.none
def vOf:Value->V
 | .ref a=>.ref a
 | _=>.non
theorem vals_rf:∀{vs:List V}{its:List Value},(∀v∈vs,∃q,v=.ref q)->Vals vs its->its=vs.map valOf
 | [],its,_,h=>by cases h;rfl
 | v::r,its,hv,h=>by
  obtain⟨q,rfl⟩:=hv v List.mem_cons_self
  cases h with
  | cons a b =>
   have ea:_=Value.ref q:=a
   rw[ea,vals_rf (fun v m=>hv v (List.mem_cons_of_mem _ m)) b]
   rfl
theorem rf_vals:∀{us:List Value},(∀u∈us,∃q,u=.ref q)->Vals (us.map vOf) us
 | [],_=>.nil
 | u::r,h=>by
  obtain⟨q,rfl⟩:=h u List.mem_cons_self
  exact .cons rfl (rf_vals fun u m=>h u (List.mem_cons_of_mem _ m))
theorem call_sortedL(hu:X.A.in1.in1.units < cLine):CallR X (.builtin "sorted") (fun xs H Q=>∃(p:Addr) (vs:List V) (g:V->List Int),xs=[.ref p]/\SqL X.K H p vs/\(∀v∈vs,∃q,v=.ref q/\SqL X.K H q ((g v).map V.int))/\(vs.map g).Nodup/\(vs.length < 64∨(vs.length<=1000/\(vs.map g).Pairwise (fun a b=>ltI a b=true))) ∧
  ∀vs':List V,vs'.Perm vs->(vs'.map g).Pairwise (fun a b=>ltI a b=true)->∀l o,H l=none->Q (.ref l) (upd H l (.frz o (.lst vs')))):=by
 intro pins s σ H xs us Q I r h
 obtain⟨p,vs,g,rfl,hq,hv,nd,hl,q⟩:=h
 obtain⟨u,rfl,rx⟩:=vals1 r
 cases rx
 obtain⟨its,r',pl,hz⟩:=I.list hq
 have ei:its=vs.map valOf:=vals_rf (fun v m=>by obtain⟨q,e,_⟩:=hv v m;exact⟨q,e⟩) r'
 have vv:∀v∈vs,vOf (valOf v)=v:=fun v m=>by obtain⟨q,rfl,_⟩:=hv v m;rfl
 have em:its.map vOf=vs:=by
  rw[ei,List.map_map]
  conv=>rhs;rw[← List.map_id vs]
  exact List.map_congr_left fun v m=>vv v m
 have ef:its.map (fun u=>g (vOf u))=vs.map g:=by
  have:its.map (fun u=>g (vOf u))=(its.map vOf).map g:=by rw[List.map_map];rfl
  rw[this,em]
 have n1:its.length=vs.length:=by rw[ei,List.length_map]
 refine sorted_ll (vs:=its) (f:=fun u=>g (vOf u)) hu pl.isList (fun u m=>?_) (by rw[ef];exact nd) (by rw[ef,n1];exact hl) fun xs hp ha=>?_
 ·rw[ei]at m
  obtain⟨v,mv,rfl⟩:=List.mem_map.mp m
  obtain⟨q,ev,sq⟩:=hv v mv
  obtain⟨it2,r2,pl2,_⟩:=I.list sq
  rw[vv v mv]
  subst ev
  obtain⟨o,n,e,hc,hd,hs⟩:=pl2
  obtain⟨oc,od,oD,os⟩:=o
  dsimp only at hc hd hs
  subst hc hs
  exact⟨q,_,_,_,_,rfl,e,intsAre_of r2⟩
 ·obtain⟨o1,o2⟩:=asc_out hp ha
  obtain⟨en,he⟩:=sortedAll_at s.heap its (xs.map (·.2))
  have hn:H (s.heap.objs.size + 1)=none:=I.hok.fresh (Nat.le_succ _)
  have rf:∀u∈(xs.map (·.2)).toList,∃q,u=Value.ref q:=fun u m=>by
   have m2:=o1.mem_iff.mp m
   rw[ei]at m2
   obtain⟨v,mv,rfl⟩:=List.mem_map.mp m2
   obtain⟨q,rfl,_⟩:=hv v mv
   exact⟨q,rfl⟩
  have len:(xs.map (·.2)).toList.length<=sizeLine:=by
   have a3:(1000:Nat)<=sizeLine:=few (Nat.le_refl 1000)
   rw[o1.length_eq]
   omega
  have pv:((xs.map (·.2)).toList.map vOf).Perm vs:=by have:=o1.map vOf;rw[em]at this;exact this
  refine⟨.ref (s.heap.objs.size + 1),_,I.laid (o:=.frz (seqObj "list" (xs.map (·.2)) en) (.lst ((xs.map (·.2)).toList.map vOf))) (t':=s.toks) (fun b u e=>sortedAll_old e) (Nat.le_succ _) ⟨he,by rw[List.length_map];exact len,(xs.map (·.2)).toList,en,rf_vals rf,he⟩,rfl,q _ pv (by rw[List.map_map];exact o2) _ _ hn⟩
abbrev iT(ns:List Int):T:=.lst (ns.map T.int)
theorem rep_iT{K:PySem.W.Frag}{H:Hp}{ns:List Int}{v:V}(h:Rep K H (iT ns) v):∃q,v=.ref q/\SqL K H q (ns.map V.int):=by
 rw[rep_lst]at h
 obtain⟨q,ys,rfl,sq,rr⟩:=h
 rw[reps_ints_inv rr]at sq
 exact⟨q,rfl,sq.sq⟩
theorem map_inj_int:∀{a b:List Int},a.map V.int=b.map V.int->a=b
 | [],[],_=>rfl
 | [],_::_,h=>by cases h
 | _::_,[],h=>by cases h
 | x::r,y::t,h=>by
  simp only[List.map_cons,List.cons.injEq,V.int.injEq]at h
  rw[h.1,map_inj_int h.2]
theorem reps_map{K:PySem.W.Frag}{H:Hp}{g:V->List Int}:∀{vs:List V},(∀v∈vs,Rep K H (iT (g v)) v)->Reps K H ((vs.map g).map iT) vs
 | [],_=>reps_nil.mpr rfl
 | v::r,h=>Reps.cons (h v List.mem_cons_self) (reps_map fun v m=>h v (List.mem_cons_of_mem _ m))
theorem call_sortedL2(hu:X.A.in1.in1.units < cLine):CallR X (.builtin "sorted") (fun xs H Q=>∃(p:Addr) (vs:List V) (zs:List (List Int)),xs=[.ref p]/\SqL X.K H p vs/\Reps X.K H (zs.map iT) vs/\zs.Nodup/\(zs.length < 64∨(zs.length<=1000/\zs.Pairwise (fun a b=>ltI a b=true))) ∧
  ∀(vs':List V)(us:List (List Int)),Reps X.K H (us.map iT) vs'->us.Perm zs->us.Pairwise (fun a b=>ltI a b=true)->∀l o,H l=none->Q (.ref l) (upd H l (.frz o (.lst vs')))):=by
 intro pins s σ H xs us Q I r h
 obtain⟨p,vs,zs,rfl,hq,rr,nd,hl,q⟩:=h
 have le:vs.length=zs.length:=by rw[rr.length,List.length_map]
 have at':∀i (hi:i < vs.length),Rep X.K H (iT (zs[i]'(by omega))) vs[i]:=fun i hi=>by
  obtain⟨v,e,q⟩:=rr.get (i:=i) (t:=iT (zs[i]'(by omega))) (by rw[List.getElem?_map,List.getElem?_eq_getElem (by omega)];rfl)
  rw[List.getElem?_eq_getElem hi]at e
  cases e
  exact q
 let g:V->List Int:=fun v=>zs.getD (vs.idxOf v) []
 have gi:∀i (hi:i < vs.length),g vs[i]=zs[i]'(by omega):=fun i hi=>by
  have lt:vs.idxOf vs[i] < vs.length:=List.idxOf_lt_length_iff.mpr (List.getElem_mem hi)
  have e1:g vs[i]=zs[vs.idxOf vs[i]]'(by omega):=by
   show zs.getD (vs.idxOf vs[i]) []=_
   rw[List.getD_eq_getElem?_getD,List.getElem?_eq_getElem (by omega)]
   rfl
  rw[e1]
  obtain⟨a,ea,sa⟩:=rep_iT (at' _ lt)
  obtain⟨b,eb,sb⟩:=rep_iT (at' i hi)
  rw[List.getElem_idxOf lt]at ea
  have:a=b:=by rw[ea]at eb;cases eb;rfl
  subst this
  exact map_inj_int (I.list_inj sa sb)
 have gr:∀v∈vs,Rep X.K H (iT (g v)) v:=fun v m=>by
  obtain⟨i,hi,rfl⟩:=List.getElem_of_mem m
  rw[gi i hi]
  exact at' i hi
 have ez:vs.map g=zs:=by
  refine List.ext_getElem (by rw[List.length_map];exact le) fun i h1 h2=>?_
  rw[List.getElem_map]
  exact gi i (by rw[List.length_map]at h1;exact h1)
 refine call_sortedL hu pins s σ H _ us Q I r ⟨p,vs,g,rfl,hq,fun v m=>rep_iT (gr v m),by rw[ez];exact nd,by rw[ez,le];exact hl,fun vs' hp ha l o hn=>?_⟩
 refine q vs' (vs'.map g) (reps_map fun v m=>gr v (hp.mem_iff.mp m)) ?_ ha l o hn
 have:=hp.map g
 rwa [ez]at this
def rSortLT(ts:List T)(Q:T->Prop):Prop:=∃zs:List (List Int),ts=[.lst (zs.map iT)]/\zs.Nodup/\(zs.length < 64∨(zs.length<=1000/\zs.Pairwise (fun a b=>ltI a b=true)))/\∀us:List (List Int),us.Perm zs->us.Pairwise (fun a b=>ltI a b=true)->Q (.lst (us.map iT))
theorem bl_sortedL(hu:X.A.in1.in1.units < cLine):BlR X (.builtin "sorted") rSortLT:=by
 refine⟨_,call_sortedL2 hu,fun ts vs H Q0 Q r q k=>?_⟩
 obtain⟨zs,rfl,nd,hl,q⟩:=q
 obtain⟨v,rfl,r1⟩:=reps1 r
 rw[rep_lst]at r1
 obtain⟨p,ys,rfl,sq,rr⟩:=r1
 refine⟨p,ys,zs,rfl,sq.sq,rr,nd,hl,fun vs' us rr' hp ha l o hn=>k _ _ _ (same_new hn _) (rep_lst.mpr ⟨l,vs',rfl,.inl ⟨o,upd_same⟩,rr'.kp (Kp.of (same_new hn _))⟩) (q us hp ha)⟩
theorem bl_sortL{k:Nat}(hr:Room k X.A):BlR X (.builtin "sorted") rSortLT:=bl_sortedL (by have:=hr.units;simp only[Around.in1_units];omega)
end
end TL
end
section
namespace TL
open PySem PySem.Spec PyProof.Rows L2
mutual
def GRep(K:PySem.W.Frag)(H:Hp)(G:Addr->Prop):T->V->Prop
 | .non,v=>v=.non
 | .bl b,v=>v=.bl b
 | .int i,v=>v=.int i
 | .str x,v=>v=.str x
 | .tup ts,v=>∃p vs,v=.ref p/\SqT K H p vs/\GReps K H G ts vs
 | .lst ts,v=>∃p vs o,v=.ref p/\G p/\H p=some (.frz o (.lst vs))/\GReps K H G ts vs
 | .dct,_=>False
 | .exc _,_=>False
 | .exf _ _ _,_=>False
 | .dic _ _,_=>False
def GReps(K:PySem.W.Frag)(H:Hp)(G:Addr->Prop):List T->List V->Prop
 | [],vs=>vs=[]
 | t::ts,vs=>∃v r,vs=v::r/\GRep K H G t v/\GReps K H G ts r
end
mutual
def nD:T->Bool
 | .tup ts=>nDs ts
 | .lst ts=>nDs ts
 | .dct=>false
 | .exc _=>false
 | .exf _ _ _=>false
 | .dic _ _=>false
 | _=>true
def nDs:List T->Bool
 | []=>true
 | t::ts=>nD t&&nDs ts
end
def noLK(K:PySem.W.Frag):Bool:=K.all fun p=>match p.2.cls with | .type t=>t != "list" | _=>true
theorem noLK_at{K:PySem.W.Frag}(h:noLK K=true):∀{a:Addr}{o:Obj},K.lookup a=some o->o.cls ≠ .type "list" := by
 intro a o e c
 have m:(a,o)∈K:=by
  clear h
  induction K with
  | nil=>cases e
  | cons p r ih =>
   obtain⟨b,ob⟩:=p
   rw[List.lookup_cons]at e
   cases q:a==b with
   | true =>
    rw[q]at e
    cases e
    rw[beq_iff_eq.mp q]
    exact List.mem_cons_self
   | false =>
    rw[q]at e
    exact List.mem_cons_of_mem _ (ih e)
 have:=List.all_eq_true.mp h _ m
 simp only[c]at this
 cases this
section
variable {K:PySem.W.Frag} {H H':Hp} {G G':Addr->Prop}
mutual
theorem GRep.rep:∀{t:T}{v:V},GRep K H G t v->Rep K H t v
 | .non,v,h=>by rw[GRep]at h;rw[rep_non];exact h
 | .bl b,v,h=>by rw[GRep]at h;rw[rep_bl];exact h
 | .int i,v,h=>by rw[GRep]at h;rw[rep_int];exact h
 | .str x,v,h=>by rw[GRep]at h;rw[rep_str];exact h
 | .tup ts,v,h=>by
  rw[GRep]at h
  obtain⟨p,vs,e,s,r⟩:=h
  exact rep_tup.mpr ⟨p,vs,e,s,GReps.reps r⟩
 | .lst ts,v,h=>by
  rw[GRep]at h
  obtain⟨p,vs,o,e,_,s,r⟩:=h
  exact rep_lst.mpr ⟨p,vs,e,.inl ⟨o,s⟩,GReps.reps r⟩
 | .dct,v,h=>by rw[GRep]at h;exact h.elim
 | .exc _,v,h=>by rw[GRep]at h;exact h.elim
 | .exf _ _ _,v,h=>by rw[GRep]at h;exact h.elim
 | .dic _ _,v,h=>by rw[GRep]at h;exact h.elim
theorem GReps.reps:∀{ts:List T}{vs:List V},GReps K H G ts vs->Reps K H ts vs
 | [],vs,h=>by rw[GReps]at h;rw[reps_nil];exact h
 | t::ts,vs,h=>by
  rw[GReps]at h
  obtain⟨v,r,e,a,b⟩:=h
  exact reps_cons.mpr ⟨v,r,e,GRep.rep a,GReps.reps b⟩
end
mutual
theorem GRep.like(k:LikeT K H H')(hl:∀q o xs,G q->H q=some (.frz o (.lst xs))->H' q=some (.frz o (.lst xs)))(hg:∀q,G q->G' q):∀{t:T}{v:V},GRep K H G t v->GRep K H' G' t v
 | .non,v,h=>by rw[GRep]at h ⊢;exact h
 | .bl b,v,h=>by rw[GRep]at h ⊢;exact h
 | .int i,v,h=>by rw[GRep]at h ⊢;exact h
 | .str x,v,h=>by rw[GRep]at h ⊢;exact h
 | .tup ts,v,h=>by
  rw[GRep]at h ⊢
  obtain⟨p,vs,e,s,r⟩:=h
  exact⟨p,vs,e,k _ _ s,GReps.like k hl hg r⟩
 | .lst ts,v,h=>by
  rw[GRep]at h ⊢
  obtain⟨p,vs,o,e,g,s,r⟩:=h
  exact⟨p,vs,o,e,hg p g,hl p o vs g s,GReps.like k hl hg r⟩
 | .dct,v,h=>by rw[GRep]at h;exact h.elim
 | .exc _,v,h=>by rw[GRep]at h;exact h.elim
 | .exf _ _ _,v,h=>by rw[GRep]at h;exact h.elim
 | .dic _ _,v,h=>by rw[GRep]at h;exact h.elim
theorem GReps.like(k:LikeT K H H')(hl:∀q o xs,G q->H q=some (.frz o (.lst xs))->H' q=some (.frz o (.lst xs)))(hg:∀q,G q->G' q):∀{ts:List T}{vs:List V},GReps K H G ts vs->GReps K H' G' ts vs
 | [],vs,h=>by rw[GReps]at h ⊢;exact h
 | t::ts,vs,h=>by
  rw[GReps]at h ⊢
  obtain⟨v,r,e,a,b⟩:=h
  exact⟨v,r,e,GRep.like k hl hg a,GReps.like k hl hg b⟩
end
theorem GRep.same(S:Same H H'){t:T}{v:V}(h:GRep K H G t v):GRep K H' G t v:=h.like (.same S) (fun q o xs _ e=>S _ _ e) fun q g=>g
mutual
theorem Rep.grep(nl:noLK K=true)(hg:∀q o xs,H q=some (.frz o (.lst xs))->G q):∀{t:T}{v:V},nD t=true->Rep K H t v->GRep K H G t v
 | .non,v,_,h=>by rw[GRep];rw[rep_non]at h;exact h
 | .bl b,v,_,h=>by rw[GRep];rw[rep_bl]at h;exact h
 | .int i,v,_,h=>by rw[GRep];rw[rep_int]at h;exact h
 | .str x,v,_,h=>by rw[GRep];rw[rep_str]at h;exact h
 | .tup ts,v,n,h=>by
  rw[GRep]
  rw[rep_tup]at h
  obtain⟨p,vs,e,s,r⟩:=h
  exact⟨p,vs,e,s,Reps.grep nl hg (by simpa only [nD] using n) r⟩
 | .lst ts,v,n,h=>by
  rw[GRep]
  rw[rep_lst]at h
  obtain⟨p,vs,e,s,r⟩:=h
  rcases s with ⟨o,s⟩|⟨o,its,m,lk,c,_⟩
  ·exact⟨p,vs,o,e,hg p o vs s,s,Reps.grep nl hg (by simpa only [nD] using n) r⟩
  ·exact absurd c (noLK_at nl lk)
 | .dct,v,n,h=>by simp[nD]at n
 | .exc _,v,n,h=>by simp[nD]at n
 | .exf _ _ _,v,n,h=>by simp[nD]at n
 | .dic _ _,v,n,h=>by simp[nD]at n
theorem Reps.grep(nl:noLK K=true)(hg:∀q o xs,H q=some (.frz o (.lst xs))->G q):∀{ts:List T}{vs:List V},nDs ts=true->Reps K H ts vs->GReps K H G ts vs
 | [],vs,_,h=>by rw[GReps];rw[reps_nil]at h;exact h
 | t::ts,vs,n,h=>by
  rw[GReps]
  rw[reps_cons]at h
  simp only[nDs,Bool.and_eq_true]at n
  obtain⟨v,r,e,a,b⟩:=h
  exact⟨v,r,e,Rep.grep nl hg n.1 a,Reps.grep nl hg n.2 b⟩
end
end
def isL:Option HO->Prop
 | some (.lst _)=>True
 | some (.frz _ (.lst _))=>True
 | _=>False
theorem isL_some{o:Option HO}(h:isL o):∃x,o=some x:=by cases o with|none=>exact h.elim|some x=>exact⟨x,rfl⟩
abbrev offG(H:Hp)(G:Addr->Prop):Addr->Prop:=fun b=>isL (H b)/\¬ G b
section
variable {X:Cx} {pins:List (Addr×Obj)} {σ:St} {H:Hp} {s s':Shared} {G:Addr->Prop}
open Classical in
theorem ce_sep{R:V->Hp->Prop}{u:Value}(I:Inv X pins σ H s)(h:CE X.stack X.prog X.w (hidH H (offG H G)) s (fun v H'=>Same (hidH H (offG H G)) H'/\R v H') u s') :
  CE X.stack X.prog X.w H s (fun v H2=>∃H',Same H H2/\Same H' H2/\(∀q o xs,H' q=some (.frz o (.lst xs))->G q∨H q=none)/\R v H') u s':=by
 obtain⟨v,H',os,bare,un,hok,r,S,q⟩:=h
 let F:=offG H G
 have get:∀b,F b->∃o,s.heap.get? b=some o:=fun b z=>by
  obtain⟨x,e⟩:=isL_some z.1
  have o:=I.hok b x e
  have:=ObjOk.lt o
  cases g:s.heap.get? b with
  | some ob=>exact⟨ob,rfl⟩
  | none=>exact absurd this (by
    have z1:=z.1
    rw[e]at z1
    cases x with
    | lst xs=>obtain⟨_,_,_,_,g'⟩:=o;rw[g]at g';cases g'
    | frz ob u=>obtain⟨g',_⟩:=o;rw[g]at g';cases g'
    | _=>exact z1.elim)
 have off:∀b,F b->H' b=none:=fun b z=>by
  obtain⟨o,g⟩:=get b z
  exact un.free b o g (hid_in z) (by simp)
 let H2:Hp:=fun b=>if F b then H b else H' b
 have h2in:∀b,F b->H2 b=H b:=fun b z=>if_pos z
 have h2out:∀b,¬ F b->H2 b=H' b:=fun b z=>if_neg z
 have S2:Same H' H2:=fun b o e=>by
  by_cases z:F b
  ·rw[off b z]at e;cases e
  ·rw[h2out b z];exact e
 have S1:Same H H2:=fun b o e=>by
  by_cases z:F b
  ·rw[h2in b z];exact e
  ·rw[h2out b z];exact S b o (by rw[hid_out z];exact e)
 have hn:∀{b:Addr},H b=none->hidH H F b=none:=fun {b} e=>by
  by_cases z:F b
  ·exact hid_in z
  ·rw[hid_out z];exact e
 refine⟨v,H2,os,bare,⟨fun b o g e m m'=>un.keep b o g (hn e) m m',fun b o g e m m'=>un.slot b o g (hn e) m m',fun b o g e m'=>?_,un.there,fun b xs e=>S1 b _ e,fun b o x e=>S1 b _ e,fun b ps e=>⟨#[],by rw[Array.append_empty];exact S1 b _ e⟩⟩,fun b o e=>?_,r,H',S1,S2,fun q o xs e=>?_,q⟩
 ·by_cases z:F b
  ·obtain⟨x,ex⟩:=isL_some z.1
   rw[e]at ex
   cases ex
  ·rw[h2out b z]
   exact un.free b o g (hn e) m'
 ·by_cases z:F b
  ·rw[h2in b z]at e
   have ok:=I.hok b o e
   have nf:b∉frs X.stack:=fun m=>by rw[I.stkFree b m]at e;cases e
   have kp:∀ob,s.heap.get? b=some ob->s'.heap.get? b=some ob:=fun ob g=>un.keep b ob g (hid_in z) nf (by simp)
   have z1:=z.1
   rw[e]at z1
   cases o with
   | lst xs =>
    obtain⟨a1,its,n,a2,a3⟩:=ok
    exact⟨a1,its,n,a2,kp _ a3⟩
   | frz ob u =>
    cases u with
    | lst xs =>
     obtain⟨g,a1,its,n,a2,a3⟩:=ok
     exact⟨kp _ g,a1,its,n,a2,kp _ a3⟩
    | _=>exact z1.elim
   | _=>exact z1.elim
  ·rw[h2out b z]at e
   exact(hok b o e).stay (fun _ _ _ g=>g) (fun c g=>S2 c _ g) fun c xs g=>S2 c _ g
 ·by_cases zn:H q=none
  ·exact .inr zn
  ·refine .inl (Classical.byContradiction fun ng=>?_)
   cases hq:H q with
   | none=>exact zn hq
   | some x =>
    by_cases z:F q
    ·rw[off q z]at e;cases e
    ·have:=S q x (by rw[hid_out z];exact hq)
     rw[e]at this
     cases this
     exact z ⟨by rw[hq];trivial,ng⟩
end
structure RG(K:PySem.W.Frag)(H0 Hs H:Hp)(σ:St)(τ:List Slot)(G:Addr->Prop):Prop where
 kp:Kp Hs (hidH H G)
 rep:RepSt K H0 (hidH H G) σ (dropV τ)
 vat:∀i t v,sget τ i=.vat t v->σ[i]?=some (some v)/\GRep K H G t v
 new:∀q,G q->H0 q=none
 fz:∀q,G q->∃o ws,H q=some (.frz o (.lst ws))
section
variable {K:PySem.W.Frag} {H0 Hs H H':Hp} {σ:St} {τ:List Slot} {G:Addr->Prop}
theorem RG.like(R:RG K H0 Hs H σ τ G):LikeT K H (hidH H G):=LikeT.but (F:=G) (fun q m=>.inr (R.fz q m)) fun b m=>hid_out m
theorem RG.same0(R:RG K H0 Hs H σ τ G):Same H0 H:=R.rep.same.trans (hid_same _ _)
theorem RG.mono(R:RG K H0 Hs H σ τ G)(S:Same H H'):RG K H0 Hs H' σ τ G:=by
 have S':Same (hidH H G) (hidH H' G):=hid_mono S fun b z=>.inl z
 refine⟨R.kp.trans (.of S'),R.rep.mono S',fun i t v e=>?_,R.new,fun q g=>?_⟩
 ·obtain⟨a,g⟩:=R.vat i t v e
  exact⟨a,g.same S⟩
 ·obtain⟨o,ws,e⟩:=R.fz q g
  exact⟨o,ws,S _ _ e⟩
theorem RG.born{i:Nat}{t:T}{v:V}{G':Addr->Prop}(R:RG K H0 Hs H σ τ G)(S:Same H H')(hi:i < τ.length)(hg:∀q,G q->G' q)(hn:∀q,G' q->G q∨(H q=none/\∃o ws,H' q=some (.frz o (.lst ws))))(g:GRep K H' G' t v) :
  RG K H0 Hs H' (σ.set i (some v)) (sput τ i (.vat t v)) G':=by
 have S':Same (hidH H G) (hidH H' G'):=hid_mono S fun b z=>(hn b z).imp id fun q=>q.1
 have hlen:i < σ.length:=by have:=R.rep.len;unfold dropV at this;rw[List.length_map]at this;omega
 refine⟨R.kp.trans (.of S'),?_,fun j t' u e=>?_,fun q z=>?_,fun q z=>?_⟩
 ·have:=(R.rep.mono S').away (i:=i) (x:=some v)
  unfold dropV at this ⊢
  rw[map_sput]
  exact this
 ·by_cases hj:i=j
  ·subst hj
   rw[sget_same hi]at e
   cases e
   exact⟨List.getElem?_set_self hlen,g⟩
  ·rw[sget_ne hj]at e
   obtain⟨a,g'⟩:=R.vat j t' u e
   rw[List.getElem?_set_ne hj]
   exact⟨a,g'.like (.same S) (fun q o xs _ e=>S _ _ e) hg⟩
 ·rcases hn q z with z|z
  ·exact R.new q z
  ·exact R.same0.free z.1
 ·rcases hn q z with z|z
  ·obtain⟨o,ws,e⟩:=R.fz q z
   exact⟨o,ws,S _ _ e⟩
  ·exact z.2
end
section
variable {X:Cx} {e b c:Expr} {es:List Expr} {wa wb w:WE} {ws:WA} {ua:WT} {t u:WS} {pos:Pos} {st:Stmt} {rest a d:List Stmt}
mutual
theorem grep_noL{K:PySem.W.Frag}{H:Hp}{G:Addr->Prop}:∀{t:T}{v:V},TL.noL t=true->Rep K H t v->GRep K H G t v
 | .non,v,_,h=>by rw[GRep];rw[rep_non]at h;exact h
 | .bl b,v,_,h=>by rw[GRep];rw[rep_bl]at h;exact h
 | .int i,v,_,h=>by rw[GRep];rw[rep_int]at h;exact h
 | .str x,v,_,h=>by rw[GRep];rw[rep_str]at h;exact h
 | .tup ts,v,n,h=>by
  rw[GRep]
  rw[rep_tup]at h
  obtain⟨p,vs,e,s,r⟩:=h
  exact⟨p,vs,e,s,grep_noLs (by simpa only [TL.noL] using n) r⟩
 | .lst ts,v,n,h=>by simp[TL.noL]at n
 | .dct,v,n,h=>by simp[TL.noL]at n
 | .exc _,v,n,h=>by simp[TL.noL]at n
 | .exf _ _ _,v,n,h=>by simp[TL.noL]at n
 | .dic _ _,v,n,h=>by simp[TL.noL]at n
theorem grep_noLs{K:PySem.W.Frag}{H:Hp}{G:Addr->Prop}:∀{ts:List T}{vs:List V},TL.noLs ts=true->Reps K H ts vs->GReps K H G ts vs
 | [],vs,_,h=>by rw[GReps];rw[reps_nil]at h;exact h
 | t::ts,vs,n,h=>by
  rw[GReps]
  rw[reps_cons]at h
  simp only[TL.noLs,Bool.and_eq_true]at n
  obtain⟨v,r,e,a,b⟩:=h
  exact⟨v,r,e,grep_noL n.1 a,grep_noLs n.2 b⟩
end
def wNL(w:WE):WE:=fun τ Q=>w τ (lstQ fun us=>TL.noLs us=true/\Q (.lst us))
def sBornD(i:Nat)(w:WE):WS:=fun D τ=>i < τ.length/\w τ fun t=>∀v,D.nx (sput τ i (.vat t v))
def sBornC(i j:Nat)(S:SpT):WS:=fun D τ=>i < τ.length/\match sget τ j with
 | .vat (.lst [a,b]) _=>S [a,b] fun t=>nD t=true/\∀v,D.nx (sput τ i (.vat t v))
 | _=>False
end
section
variable {X:Cx} {e b:Expr} {pos:Pos}
end
def sScrap(i jn jh:Nat):WS:=fun D τ=>match sget τ i with
 | .vat (.tup [_,.lst us,.lst rows]) _=>(us.length<=300/\rows.length<=300/\∀t∈rows,∃(ns:List Int) (h:T),t=.tup [.lst (ns.map T.int),h]/\ns.length<=300)/\(jn≠jh/\i≠jn/\i≠jh/\jn < τ.length/\jh < τ.length)/\D.nx (sput (sput (dropV τ) jn .no) jh .no)
 | _=>False
structure SC(K:PySem.W.Frag)(H0 Hs H:Hp)(σ:St)(τ1:List Slot)(G:Addr->Prop)(i:Nat)(n:Nat)(H':Hp)(σ':St):Prop where
 kp:Kp Hs (hidH H' G)
 rep:RepSt K H0 (hidH H' G) σ' τ1
 out:∀b,¬ G b->H' b=H b
 fz:∀q,G q->∃o ws o0 ws0,H' q=some (.frz o (.lst ws))/\H q=some (.frz o0 (.lst ws0))/\ws.length<=ws0.length + n
 at_i:σ'[i]?=σ[i]?
section
variable {K:PySem.W.Frag} {H0 Hs H H':Hp} {σ σ':St} {τ1:List Slot} {G:Addr->Prop} {i n:Nat}
theorem SC.like(S:SC K H0 Hs H σ τ1 G i n H' σ'):LikeT K H H':=LikeT.but (F:=G) (fun q g=>by obtain⟨_,_,o,ws,_,e,_⟩:=S.fz q g;exact .inr ⟨o,ws,e⟩) S.out
theorem SC.write{q:Addr}{ws:List V}{o o':Obj}{c:V}(S:SC K H0 Hs H σ τ1 G i n H' σ')(g:G q)(e:H' q=some (.frz o (.lst ws))):SC K H0 Hs H σ τ1 G i (n + 1) (upd H' q (.frz o' (.lst (ws++[c])))) σ':=by
 have hh:hidH (upd H' q (.frz o' (.lst (ws++[c])))) G=hidH H' G:=hid_upd g
 refine⟨by rw[hh];exact S.kp,by rw[hh];exact S.rep,fun b nb=>?_,fun b gb=>?_,S.at_i⟩
 ·rw[upd_ne fun z=>nb (by rw[z];exact g)]
  exact S.out b nb
 ·obtain⟨o1,w1,o0,w0,e1,e2,l⟩:=S.fz b gb
  by_cases z:b=q
  ·subst z
   rw[e1]at e
   cases e
   exact⟨o',_,o0,w0,upd_same,e2,by simp;omega⟩
  ·exact⟨o1,w1,o0,w0,by rw[upd_ne z];exact e1,e2,by omega⟩
theorem SC.set{j:Nat}{x:Option V}(S:SC K H0 Hs H σ τ1 G i n H' σ')(hj:i≠j)(h0:sget τ1 j=.no):SC K H0 Hs H σ τ1 G i n H' (σ'.set j x):=by
 have:=S.rep.away (i:=j) (x:=x)
 rw[show sput τ1 j .no=τ1 by rw[← h0];exact sput_self τ1 j]at this
 exact⟨S.kp,this,S.out,S.fz,by rw[List.getElem?_set_ne (Ne.symm hj)];exact S.at_i⟩
end
section
variable {X:Cx} {e1 e2 e3:Expr} {pos:Pos}
end
end TL
end
section
namespace TL
open PySem PySem.Spec PyProof PyProof.Rows L2
def Itd(d:Addr)(o:Obj)(kvs:List IntP):It:=⟨fun i H=>H d=some (.frz o (.dK (kvs.map toK)))/\i < kvs.length,fun i H v H'=>H'=H/\∃k,(kvs.map (·.1))[i]?=some k/\v=.int k,fun i H=>H d=some (.frz o (.dK (kvs.map toK)))/\kvs.length<=i⟩
theorem dictAt_same{P:Program}{w:World}{h h':Heap}{d:Addr}{o:Obj}{vs:List (Key×Value)}{ep:Nat}(D:Heap.DictAt (mixKind P w) h d vs ep)(e:h.get? d=some o)(e':h'.get? d=some o):Heap.DictAt (mixKind P w) h' d vs ep:=by
 obtain⟨o',es,g,r⟩:=D
 rw[e]at g
 cases g
 exact⟨o,es,e',r⟩
theorem turn_dict{P:Program}{w:World}{K:PySem.W.Frag}{tg:Expr}{d it:Addr}{o:Obj}{kvs:List IntP}{vs:List (Key×Value)}{ep:Nat}{h0:Heap}(D0:Heap.DictAt (mixKind P w) h0 d vs ep)(e0:h0.get? d=some o)(kv:KV (kvs.map toK) vs) :
  Turn P w K tg (Itd d o kvs) [it] it (fun i h=>h.IsKeyIter it d i vs.length ep) where
 mem:=by simp
 obj:=fun i h st b hb=>by
  have e:b=it:=by simpa using hb
  subst e
  obtain⟨ob,g,c,z⟩:=st
  exact⟨ob,g,fun v q=>by rw[z]at q;cases q⟩
 keep:=fun i h h' st k=>let ⟨ob,g,r⟩:=st;⟨ob,k it (by simp) ob g,r⟩
 item:=by
  intro X hP hw hK hc i pins s σ H E I hf st hg
  subst hP hw hK
  obtain⟨f0,f1,f2,f3,f4,f5⟩:=hf it (by simp)
  obtain⟨hd,hi⟩:=hg
  have D:=dictAt_same (h':=s.heap) D0 e0 (I.hok d _ hd).1
  have hi':i < vs.length:=by rw[← KV.length kv,List.length_map];exact hi
  refine wpAny_pyNext_dict_item (k:=vs[i].1) (v:=vs[i].2) st D (by rw[List.getElem?_eq_getElem hi']) fun key h' is st' sb=>?_
  have ek:vs[i].1=Sum.inl (kvs[i]).1:=by
   have:=kv_keys kv
   have e2:(vs.map (·.1))[i]?=((kvs.map toK).map (·.1))[i]?:=by rw[this]
   rw[List.getElem?_map,List.getElem?_map,List.getElem?_map,List.getElem?_eq_getElem hi',List.getElem?_eq_getElem hi]at e2
   exact Option.some.inj e2
  rw[ek]at is
  obtain⟨t,rfl⟩:=Value.isInt_shape (k:=(kvs[i]).1) (v:=key) is
  have I1:Inv X pins σ H {s with heap:=h',toks:=s.toks}:=I.turned (fun b ob hb e=>(sb.2 b hb).trans e) f0 f1 f3 f4 f5
  obtain⟨ob,g,c,z⟩:=id st'
  exact⟨_,rfl,go_of (s:={s with heap:=h',toks:=s.toks}) g c z (by decide) ⟨.int (kvs[i]).1,H,I1,⟨t,rfl⟩,⟨rfl,_,by rw[List.getElem?_map,List.getElem?_eq_getElem hi];rfl,rfl⟩,st',fun b hb=>(hf b hb).1⟩⟩
 done:=by
  intro X hP hw hK hc i pins s σ H E I hf st hg
  subst hP hw hK
  obtain⟨f0,f1,f2,f3,f4,f5⟩:=hf it (by simp)
  obtain⟨hd,hi⟩:=hg
  have D:=dictAt_same (h':=s.heap) D0 e0 (I.hok d _ hd).1
  exact wpAny_pyNext_dict_end (I.ok.hd hc) st D (by rw[List.getElem?_eq_none_iff,← KV.length kv,List.length_map];exact hi) fun h' eb=>⟨rfl,I.turned (t':=s.toks) (fun b ob hb e=>eb b ob hb e) f0 f1 f3 f4 f5⟩
 self:=fun _ _ _ _ _ st h=>wpAny_pyIter_keyiter st h
section
variable {X:Cx} {e b a:Expr} {wa wb w:WE} {pos:Pos}
def iDic(w:WE):WI:=fun τ Q=>w τ fun t=>match t with
 | .dic ks _=>Q (ks.map T.int)
 | _=>False
theorem jiDic{tg l:Expr}(h:JE X l w):JI X tg l (iDic w):=by
 intro pins s σ H R I hw
 obtain⟨τ,Q0,Rs,hw,k⟩:=hw
 refine thn (h pins s σ H (fun v H1=>∃t,Same H H1/\Rep X.K H1 t v/\(match t with | .dic ks _=>Q0 (ks.map T.int)|_=>False)) I ⟨τ,_,Rs,hw,fun t v H1 S r q=>⟨t,S,r,q⟩⟩) fun v s1 ⟨x,H1,I1,r1,t,S1,rt,q1⟩=>?_
 cases t<;>first|exact q1.elim|skip
 rename_i ks ts
 obtain⟨d,o,kvs,rfl,hd,ek,rr⟩:=rep_dic.mp rt
 cases r1
 obtain⟨g,hz,big,vs,kv,hD⟩:=I1.hok d _ hd
 obtain⟨ep,D0⟩:=hD.dictAt
 refine wpAny_pyIter_dict big D0 ?_
 refine⟨s1.heap.objs.size,[s1.heap.objs.size],_,_,H1,rfl,I1.kept (t':=s1.toks) fun b ob e=>Heap.get?_push_of_some _ e,turn_dict (kvs:=kvs) D0 g kv,⟨_,Heap.get?_push_size _ rfl,rfl,rfl⟩,fun b hb=>?_,k (ks.map T.int) (Itd d o kvs) H1 S1 ?_ q1⟩
 ·have e:b=s1.heap.objs.size:=by simpa using hb
  subst e
  exact I1.fpOk (Nat.le_refl _) (I1.hok.fresh (Nat.le_refl _))
 ·intro H2 K2
  have hd2:=K2.frz _ _ _ hd
  refine⟨fun i t ht=>?_,⟨hd2,by rw[List.length_map,← ek,List.length_map];exact Nat.le_refl _⟩⟩
  rw[List.getElem?_map]at ht
  cases q:ks[i]? with
  | none=>rw[q]at ht;cases ht
  | some c =>
   rw[q]at ht
   cases ht
   have hi:i < kvs.length:=by have:=(List.getElem?_eq_some_iff.mp q).1;rw[← ek,List.length_map]at this;exact this
   refine⟨⟨hd2,hi⟩,fun x H3 ⟨e1,c',e2,e3⟩=>?_⟩
   subst e1 e3
   rw[ek,q]at e2
   cases e2
   exact⟨.refl _,rep_int.mpr rfl⟩
def rIxDT(x y:T)(Q:T->Prop):Prop:=match x,y with
 | .dic ks ts,.int k=>ks.Nodup/\∃(j:Nat) (t:T),ks[j]?=some k/\ts[j]?=some t/\Q t
 | _,_=>False
theorem jixD(ha:JE X a wa)(hb:JE X b wb)(hs:PlainIx b:=by intro _ _;rfl):JE X (.Subscript a b pos) (w2 rIxDT wa wb):=by
 refine pe_of (pe_ix ix_dict ha hb hs) fun σ H Q ⟨τ,Q0,R,hw,k⟩=>?_
 refine⟨τ,_,R,hw,fun x v H1 S1 r1 q1=>⟨τ,_,R.mono S1,q1,fun y u H2 S2 r2 q2=>?_⟩⟩
 unfold rIxDT at q2
 cases x<;>cases y<;>first|exact q2.elim|skip
 rename_i ks ts i
 obtain⟨nd,j,t,e1,e2,q⟩:=q2
 have r1':=r1.kp (.of S2)
 obtain⟨d,o,kvs,rfl,hd,ek,rr⟩:=rep_dic.mp r1'
 have ez:=rep_int.mp r2
 subst ez
 obtain⟨z,ez,rz⟩:=rr.get e2
 have ej:j < kvs.length:=by have:=(List.getElem?_eq_some_iff.mp e1).1;rw[← ek,List.length_map]at this;exact this
 have em:kvs[j]=(i,z):=by
  rw[← ek,List.getElem?_map,List.getElem?_eq_getElem ej]at e1
  rw[List.getElem?_map,List.getElem?_eq_getElem ej]at ez
  exact Prod.ext (Option.some.inj e1) (Option.some.inj ez)
 exact⟨d,o,kvs,i,z,rfl,rfl,hd,by rw[ek];exact nd,by rw[← em];exact List.getElem_mem ej,k t z H2 (S1.trans S2) rz q⟩
end
theorem Inv.freezeD{X:Cx}{pins:List (Addr×Obj)}{σ:St}{H:Hp}{s:Shared}{p:Addr}{xs:List (Key×V)}(I:Inv X pins σ H s)(h:H p=some (.dK xs)):∃o,Inv X pins σ (upd H p (.frz o (.dK xs))) s:=by
 obtain⟨z,y,vs,r,ob,es,ep,e,c⟩:=I.hok p _ h
 refine⟨ob,?_⟩
 have nn:∀{b:Addr},H b=none->b≠p:=fun q z=>by subst z;rw[h]at q;cases q
 have u:Un X.fs [] H (upd H p (.frz ob (.dK xs))) s.heap s.heap:=by
  refine⟨fun b o q _ _ _=>q,fun b o q _ _ _=>⟨o.slots,q⟩,fun b o _ q _=>by rw[upd_ne (nn q)];exact q,fun b o q _=>⟨o,q⟩,fun b ys q=>?_,fun b o' u' q=>?_,fun b ps q=>⟨#[],?_⟩⟩
  ·rw[upd_ne (by rintro rfl;rw[h]at q;cases q)];exact q
  ·rw[upd_ne (by rintro rfl;rw[h]at q;cases q)];exact q
  ·rw[upd_ne (by rintro rfl;rw[h]at q;cases q),q];simp
 have hok:HOk X.prog X.w (upd H p (.frz ob (.dK xs))) s.heap:=fun b o q=>by
  by_cases hb:b=p
  ·subst hb
   rw[upd_same]at q
   cases q
   exact⟨e,z,y,vs,r,ob,es,ep,e,c⟩
  ·rw[upd_ne hb]at q
   refine(I.hok b o q).stay (fun c v _ q=>q) (fun c q=>?_) fun c ys q=>?_
   ·rw[upd_ne (by rintro rfl;rw[h]at q;cases q)];exact q
   ·rw[upd_ne (by rintro rfl;rw[h]at q;cases q)];exact q
 have:=I.un (h':=s.heap) (t':=s.toks) u hok
 exact this
theorem freeze_all{X:Cx}{pins:List (Addr×Obj)}{σ:St}{s:Shared}:∀{as:List (Addr×List V)}{H:Hp},(as.map (·.1)).Nodup->Inv X pins σ H s->(∀r∈as,H r.1=some (.lst r.2))->∃H',Inv X pins σ H' s/\(∀r∈as,∃o,H' r.1=some (.frz o (.lst r.2)))/\∀b,b∉as.map (·.1)->H' b=H b
 | [],H,_,I,_=>⟨H,I,(fun r m=>by cases m),fun _ _=>rfl⟩
 | a::r,H,nd,I,h=>by
  rw[List.map_cons,List.nodup_cons]at nd
  obtain⟨o,I1⟩:=Inv.freeze I (h a List.mem_cons_self)
  obtain⟨H',I2,h1,h2⟩:=freeze_all nd.2 I1 fun x m=>by
   rw[upd_ne fun z=>nd.1 (by rw[← z];exact List.mem_map_of_mem m)]
   exact h x (List.mem_cons_of_mem _ m)
  refine⟨H',I2,fun x m=>?_,fun b nb=>?_⟩
  ·rcases List.mem_cons.mp m with rfl|m
   ·exact⟨o,by rw[h2 x.1 nd.1];exact upd_same⟩
   ·exact h1 x m
  ·rw[List.map_cons,List.mem_cons]at nb
   rw[h2 b fun z=>nb (.inr z),upd_ne fun z=>nb (.inl z)]
abbrev RL:=Int×List Int×Addr
abbrev rlK(r:RL):IntP:=(r.1,.ref r.2.2)
structure DL(H0 H:Hp)(d:Addr)(rs:List RL):Prop where
 dict:H d=some (.dK ((rs.map rlK).map toK))
 lst:∀r∈rs,H r.2.2=some (.lst (r.2.1.map V.int))
 nd:(rs.map (·.2.2)).Nodup
 new:∀r∈rs,H0 r.2.2=none
def psOf(rs:List RL):List (Int×List Int):=rs.map fun r=>(r.1,r.2.1)
section
variable {K:PySem.W.Frag} {H0 H H':Hp} {d:Addr} {rs:List RL}
theorem DL.mono(D:DL H0 H d rs)(S:Same H H'):DL H0 H' d rs:=⟨S _ _ D.dict,fun r m=>S _ _ (D.lst r m),D.nd,D.new⟩
theorem DL.ne(D:DL H0 H d rs):∀r∈rs,r.2.2≠d:=fun r m z=>by have:=D.lst r m;rw[z,D.dict]at this;cases this
theorem valK_none{rs:List RL}{h:Int}(n:h∉rs.map (·.1)):L2.valV ((rs.map rlK).map toK) (Sum.inl h)=none:=by
 cases e:L2.valV ((rs.map rlK).map toK) (Sum.inl h) with
 | none=>rfl
 | some v =>
  have:=valV_in e
  rw[List.map_map,List.map_map]at this
  obtain⟨r,m,z⟩:=List.mem_map.mp this
  exact absurd (List.mem_map.mpr ⟨r,m,Sum.inl.inj (show (Sum.inl r.1:Key)=Sum.inl h from z)⟩) n
theorem DL.add{q:Addr}{h:Int}(D:DL H0 H d rs)(hq:H q=none)(h0:H0 q=none)(n:h∉rs.map (·.1)):DL H0 (upd (upd H q (.lst [])) d (.dK (putK ((rs.map rlK).map toK) (Sum.inl h) (.ref q)))) d (rs++[(h,[],q)]):=by
 have nd:q≠d:=fun z=>by rw[z,D.dict]at hq;cases hq
 have nq:∀r∈rs,r.2.2≠q:=fun r m z=>by have:=D.lst r m;rw[z,hq]at this;cases this
 refine⟨?_,fun r m=>?_,?_,fun r m=>?_⟩
 ·rw[upd_same,putK_new _ (valK_none n),List.map_append,List.map_append]
  rfl
 ·rcases List.mem_append.mp m with m|m
  ·rw[upd_ne (D.ne r m),upd_ne (nq r m)]
   exact D.lst r m
  ·rw[List.mem_singleton.mp m,upd_ne nd]
   exact upd_same
 ·rw[List.map_append]
  refine List.nodup_append.mpr ⟨D.nd,by simp,fun a ma b mb=>?_⟩
  rw[List.mem_singleton.mp mb]
  obtain⟨r,m,z⟩:=List.mem_map.mp ma
  rw[← z]
  exact nq r m
 ·rcases List.mem_append.mp m with m|m
  ·exact D.new r m
  ·rw[List.mem_singleton.mp m]
   exact h0
theorem DL.app{q:Addr}{h n:Int}{us:List Int}(D:DL H0 H d (rs++[(h,us,q)])):DL H0 (upd H q (.lst ((us++[n]).map V.int))) d (rs++[(h,us++[n],q)]):=by
 have nq:∀r∈rs,r.2.2≠q:=fun r m z=>by
  have:=D.nd
  rw[List.map_append]at this
  exact(List.nodup_append.mp this).2.2 r.2.2 (List.mem_map_of_mem m) q (by simp) z
 refine⟨?_,fun r m=>?_,?_,fun r m=>?_⟩
 ·rw[upd_ne (Ne.symm (D.ne (h,us,q) (by simp)))]
  have:=D.dict
  rw[List.map_append,List.map_append]at this ⊢
  exact this
 ·rcases List.mem_append.mp m with m|m
  ·rw[upd_ne (nq r m)]
   exact D.lst r (List.mem_append_left _ m)
  ·rw[List.mem_singleton.mp m]
   exact upd_same
 ·have:=D.nd
  rw[List.map_append]at this ⊢
  exact this
 ·rcases List.mem_append.mp m with m|m
  ·exact D.new r (List.mem_append_left _ m)
  ·rw[List.mem_singleton.mp m]
   exact D.new (h,us,q) (by simp)
theorem RepSt.raw{σ:St}{τ:List Slot}{q:Addr}{ws ws':List V}(R:RepSt K H0 H σ τ)(hl:∀i,lone1 (sget τ i)=true)(hq:H q=some (.lst ws))(h0:H0 q=none):RepSt K H0 (upd H q (.lst ws')) σ τ:=by
 have k:=Kp.write hq (.lst ws')
 refine⟨fun b o h=>?_,R.len,fun j=>?_,R.apart⟩
 ·rw[upd_ne (fun z=>by rw[z,h0]at h;cases h)]
  exact R.same b o h
 ·have s:=R.slot j
  have l:=hl j
  cases e:sget τ j with
  | no=>trivial
  | val t=>rw[e]at s;obtain⟨v,e1,r⟩:=s;exact⟨v,e1,r.kp k⟩
  | vat t v=>rw[e]at s;exact⟨s.1,s.2.kp k⟩
  | own ts=>rw[e]at l;cases l
  | see ts=>rw[e]at l;cases l
  | dic ps=>rw[e]at l;cases l
theorem lone_sput{τ:List Slot}{i:Nat}{t:T}(hl:∀i,lone1 (sget τ i)=true):∀j,lone1 (sget (sput τ i (.val t)) j)=true:=fun j=>by
 by_cases z:i=j
 ·subst z
  by_cases hi:i < τ.length
  ·rw[sget_same hi];rfl
  ·rw[sget_big (by rw[length_sput];omega)];rfl
 ·rw[sget_ne z];exact hl j
theorem lone_hide{τ:List Slot}{i:Nat}(hl:∀i,lone1 (sget τ i)=true):∀j,lone1 (sget (sput τ i .no) j)=true:=fun j=>by
 by_cases z:i=j
 ·subst z
  by_cases hi:i < τ.length
  ·rw[sget_same hi];rfl
  ·rw[sget_big (by rw[length_sput];omega)];rfl
 ·rw[sget_ne z];exact hl j
end
abbrev dicT(ps:List (Int×List Int)):T:=.dic (ps.map (·.1)) (ps.map fun p=>.lst (p.2.map T.int))
def innT(jn:Nat)(ut:WT):List T->List Int->(List Int->List Slot->Prop)->List Slot->Prop
 | [],us,Q,τ=>Q us τ
 | t::ns,us,Q,τ=>match t with
  | .int n=>us.length < 1000/\ut (sput τ jn (.val (.int n))) fun b=>innT jn ut ns (if b then us++[n] else us) Q (sput τ jn (.val (.int n)))
  | _=>False
def readsT(jh jd jn:Nat)(wi2:WI)(ut:WT):List T->List (Int×List Int)->(List (Int×List Int)->Prop)->List Slot->Prop
 | [],ps,Q,_=>Q ps
 | t::ts,ps,Q,τ=>match t with
  | .tup [.int h,x]=>(h∉ps.map (·.1)/\ps.length < 1000)/\wi2 (sput (sput τ jh (.val (.int h))) jd (.val x)) fun ns=>innT jn ut ns [] (fun us τ2=>readsT jh jd jn wi2 ut ts (ps++[(h,us)]) Q τ2) (sput (sput τ jh (.val (.int h))) jd (.val x))
  | _=>False
def sReads(i jh jd jn:Nat)(wi wi2:WI)(ut:WT):WS:=fun D τ=>(i < τ.length/\jh < τ.length/\jn < τ.length/\(∀j,lone1 (sget τ j)=true))/\wi (sput τ i .no) fun ts=>readsT jh jd jn wi2 ut ts [] (fun ps=>D.rt (dicT ps)) (sput τ i .no)
section
variable {X:Cx}
theorem ps_retD{i:Nat}{x:Str}{p pos:Pos}(hv:PE X (.Name x p) (tVar i)):PS X (.Return (some (.Name x p)) pos) (fun D σ H=>∃d rs,σ[i]?=some (some (.ref d))/\DL X.H₀ H d rs/\Same X.H₀ H/\X.H₀ d=none/\∀H',Same X.H₀ H'->Rep X.K H' (dicT (psOf rs)) (.ref d)->D.rt (.ref d) H'):=by
 intro pins s σ H D I ⟨d,rs,ev,L,S0,n0,k⟩
 have em:(rs.map fun r=>(r.2.2,r.2.1.map V.int)).map (·.1)=rs.map (·.2.2):=by rw[List.map_map];rfl
 obtain⟨H1,I1,h1,h2⟩:=freeze_all (as:=rs.map fun r=>(r.2.2,r.2.1.map V.int)) (by rw[em];exact L.nd) I fun a m=>by
  obtain⟨r,mr,rfl⟩:=List.mem_map.mp m
  exact L.lst r mr
 rw[em]at h2
 have nd:d∉rs.map (·.2.2):=fun m=>by
  obtain⟨r,mr,e⟩:=List.mem_map.mp m
  exact L.ne r mr e
 obtain⟨o,I2⟩:=Inv.freezeD I1 (show H1 d=some (.dK ((rs.map rlK).map toK)) by rw[h2 d nd];exact L.dict)
 have S1:Same X.H₀ (upd H1 d (.frz o (.dK ((rs.map rlK).map toK)))):=fun b ob e=>by
  have x1:b≠d:=fun z=>by rw[z,n0]at e;cases e
  have x2:b∉rs.map (·.2.2):=fun m=>by
   obtain⟨r,mr,z⟩:=List.mem_map.mp m
   rw[← z,L.new r mr]at e
   cases e
  rw[upd_ne x1,h2 b x2]
  exact S0 b ob e
 have reps:∀l:List RL,(∀r∈l,r∈rs)->Reps X.K (upd H1 d (.frz o (.dK ((rs.map rlK).map toK)))) ((psOf l).map fun p=>.lst (p.2.map T.int)) (l.map fun r=>.ref r.2.2):=fun l=>by
  induction l with
  | nil=>exact fun _=>reps_nil.mpr rfl
  | cons r t ih =>
   intro h
   obtain⟨ob,e⟩:=h1 (r.2.2,r.2.1.map V.int) (List.mem_map.mpr ⟨r,h r List.mem_cons_self,rfl⟩)
   refine Reps.cons (rep_lst.mpr ⟨r.2.2,_,rfl,.inl ⟨ob,?_⟩,reps_ints _⟩) (ih fun z m=>h z (List.mem_cons_of_mem _ m))
   rw[upd_ne (L.ne r (h r List.mem_cons_self))]
   exact e
 refine ps_ret hv pins s σ _ D I2 ⟨.ref d,ev,k _ S1 (rep_dic.mpr ⟨d,o,rs.map rlK,rfl,upd_same,?_,?_⟩)⟩
 ·unfold psOf
  rw[List.map_map,List.map_map]
  rfl
 ·have e:(rs.map rlK).map (·.2)=rs.map fun r=>V.ref r.2.2:=by rw[List.map_map];rfl
  rw[e]
  exact reps rs fun r m=>m
theorem jreads {wi wi2:WI} {ut:WT} {i jh jd jn:Nat} {x h g n:Str} {iter iter2 cnd:Expr} {k0} {p1 p2 p3 a1 a2 a3 a4 b1 b2 b3 b4 b5 c1 c2 d1 d2 d3 d4 d5 d6 d7 d8 r1 r2:Pos} (hne:(i≠jh/\i≠jd/\i≠jn)/\jh≠jd/\jh≠jn) (hp:PassesOwn (model X.prog X.w) X.A X.env X.xe) (hc:X.calm=true) (hu:X.A.units + 1 < cLine)
  (hN:X.N.Nodup) (hi:X.N[i]?=some x) (lx:Loc X.env.scope x) (hh:X.N[jh]?=some h) (lh:Loc X.env.scope h) (hg:X.N[jd]?=some g) (lg:Loc X.env.scope g) (hn:X.N[jn]?=some n) (ln:Loc X.env.scope n)
  (hit:JI X (.Tuple [.Name h a1,.Name g a2] k0 a3) iter wi) (hit2:JI X (.Name n c1) iter2 wi2) (hcnd:JT X cnd ut)
  (v1:PE X (.Name x b1) (tVar i)) (v2:PE X (.Name h b2) (tVar jh)) (v3:PE X (.Name x d1) (tVar i)) (v4:PE X (.Name h d2) (tVar jh)) (v5:PE X (.Name n d5) (tVar jn)) (v6:PE X (.Name x r1) (tVar i))
  (fx:X.fn x=true∨X.env.scope.names.lookup x=some .local:=by first|exact .inl rfl|exact .inr rfl|assumption) (fh:X.fn h=true∨X.env.scope.names.lookup h=some .local:=by first|exact .inl rfl|exact .inr rfl|assumption)
  (fg:X.fn g=true∨X.env.scope.names.lookup g=some .local:=by first|exact .inl rfl|exact .inr rfl|assumption) (fn:X.fn n=true∨X.env.scope.names.lookup n=some .local:=by first|exact .inl rfl|exact .inr rfl|assumption)
  (s1:swapsWith (.Dict [] [] p2) (some (.Name x p1)) p3.line X.env=pure false:=by rfl) (s2:swapsWith (.List [] b4) (some (.Subscript (.Name x b1) (.Name h b2) b3)) b5.line X.env=pure false:=by rfl)
  (f1:∀z,foldedSetIterable iter X.env z=pure z:=by intro _;rfl) (f2:∀z,foldedSetIterable iter2 X.env z=pure z:=by intro _;rfl)
  (g1:(assignEach [.Name g a2] X.env).map (·.2)=assign (.Name g a2) X.env::(assignEach [] X.env).map (·.2):=by rfl)
  (g2:(assignEach [.Name h a1,.Name g a2] X.env).map (·.2)=assign (.Name h a1) X.env::(assignEach [.Name g a2] X.env).map (·.2):=by rfl)
  (g3:(assignEach [.Name h a1,.Name g a2] X.env).length=2:=by rfl) (g4:(assignEach [.Name h a1,.Name g a2] X.env).findIdx? (·.1)=none:=by rfl)
  (s3:swapsWith (.Call (.Attribute (.Subscript (.Name x d1) (.Name h d2) d3) "append" d4) [.Name n d5] [] d6) none d7.line X.env=pure false:=by rfl)
  (hbase:attributeBase (.Subscript (.Name x d1) (.Name h d2) d3) "append" X.env (eval (.Subscript (.Name x d1) (.Name h d2) d3) X.env)=eval (.Subscript (.Name x d1) (.Name h d2) d3) X.env:=by rfl)
  (hfew:((backTo d6 (starEach [.Name n d5] X.env)).all (fun x=>!x.1)&&(backToKw d6 (keywordEach [] X.env)).all (fun x=>x.1.isSome)
   && decide ([Expr.Name n d5].length + ([]:List Keyword).length + (if ([]:List Keyword).isEmpty then 0 else 1) < 30))=true:=by rfl)
  (hline:(d4.endLine==d6.line)=true:=by rfl) (hst:starEach [.Name n d5] X.env=(false,eval (.Name n d5) X.env)::starEach [] X.env:=by rfl) (hplain:(backTo d6 (starEach [] X.env)).any (·.1)=false:=by rfl) (nsl:NoSl (.Name h d2):=by intro _ _;rfl) :
  JSs X [.Assign [.Name x p1] (.Dict [] [] p2) p3,.For (.Tuple [.Name h a1,.Name g a2] k0 a3) iter [.Assign [.Subscript (.Name x b1) (.Name h b2) b3] (.List [] b4) b5,
   .For (.Name n c1) iter2 [.If cnd [.Expr (.Call (.Attribute (.Subscript (.Name x d1) (.Name h d2) d3) "append" d4) [.Name n d5] [] d6) d7] [] d8] [] c2] [] a4,.Return (some (.Name x r1)) r2] (sReads i jh jd jn wi wi2 ut):=by
 obtain⟨⟨n1,n2,n3⟩,n4,n5⟩:=hne
 refine pss_of (pss_cons (ps_set hN hi lx pe_dnewK s1 fx) (pss_cons (ps_for hp hc hit (pg_tup hc (pgs_cons (pg_name hN hh lh fh) (pgs_cons (pg_name hN hg lg fg) pgs_nil g1) g2) g3 g4) (pss_cons (ps_dput hu v1 v2 (pe_lst pa_nil) s2) (pss_one (ps_for hp hc hit2 (pg_name hN hn ln fn) (pss_one (ps_if hcnd (pss_one (ps_expr (pe_bm PySem.F.plainAttrs_list PySem.F.slot_list_append PySem.F.type_list_append mt_append (pe_dget hu v3 v4 nsl) (pa_cons v5 pa_nil hst) hbase hfew hline hst hplain) s3)) pss_nil)) f2))) f1) (pss_one (ps_retD v6)))) fun D σ H ⟨τ,D0,R,hw,kn,kr,kb,kc⟩=>?_
 intro d hd
 have S0:Same H (upd H d (.dK [])):=same_new hd _
 have n0:X.H₀ d=none:=R.same.free hd
 have hlen:τ.length=σ.length:=R.len
 obtain⟨⟨hiT,hhT,hnT,hlone⟩,hw⟩:=hw
 have hiN:i < σ.length:=by omega
 refine⟨sput τ i .no,_,(R.mono S0).hide,hw,fun ts J H1 S1 wk q=>?_⟩
 have L0:DL X.H₀ H1 d []:=⟨S1 _ _ upd_same,(fun r m=>by cases m),List.nodup_nil,(fun r m=>by cases m)⟩
 refine⟨fun k m σ' H'=>m=ts.length - k/\k<=ts.length/\∃τ' rs,τ'.length=τ.length/\RepSt X.K X.H₀ H' σ' τ'/\(∀j,lone1 (sget τ' j)=true)/\Kp H1 H'/\σ'[i]?=some (some (.ref d))/\DL X.H₀ H' d rs/\readsT jh jd jn wi2 ut (ts.drop k) (psOf rs) (fun ps=>D0.rt (dicT ps)) τ',⟨ts.length,by simp,Nat.zero_le _,_,[],length_sput _ _ _,((R.mono S0).hide).mono S1,lone_hide hlone,.refl H1,List.getElem?_set_self hiN,L0,by rw[List.drop_zero];exact q⟩,?_⟩
 rintro k m σ2 H2 ⟨rfl,hk,τ2,rs,l2,R2,o2,K2,e2,L2,q2⟩
 obtain⟨wi',ws'⟩:=wk H2 K2
 by_cases hlt:k < ts.length
 ·refine .inr ?_
  have ei:ts[k]?=some ts[k]:=List.getElem?_eq_getElem hlt
  obtain⟨go,yl⟩:=wi' k _ ei
  rw[List.drop_eq_getElem_cons hlt]at q2
  refine⟨go,fun σ' H'=>∃τ' rs,τ'.length=τ.length/\RepSt X.K X.H₀ H' σ' τ'/\(∀j,lone1 (sget τ' j)=true)/\Kp H1 H'/\σ'[i]?=some (some (.ref d))/\DL X.H₀ H' d rs/\readsT jh jd jn wi2 ut (ts.drop (k + 1)) (psOf rs) (fun ps=>D0.rt (dicT ps)) τ',fun σ' H' ⟨τ',rs',a1,a2,a3,a4,a5,a6,a7⟩=>⟨ts.length - (k + 1),by omega,rfl,hlt,τ',rs',a1,a2,a3,a4,a5,a6,a7⟩,fun z H3 yy=>?_⟩
  obtain⟨S3,r3⟩:=yl z H3 yy
  simp only[readsT]at q2
  generalize ts[k]=t at q2 r3
  split at q2
  ·rename_i hv xv
   obtain⟨⟨nin,lps⟩,q2⟩:=q2
   rw[rep_tup]at r3
   obtain⟨pt,vs,rfl,sq,rr⟩:=r3
   rw[reps_cons]at rr
   obtain⟨w1,r',rfl,rw1,rr⟩:=rr
   rw[reps_cons]at rr
   obtain⟨w2,r',rfl,rw2,rr⟩:=rr
   rw[reps_nil]at rr
   subst rr
   have ew:=rep_int.mp rw1
   subst ew
   have R3:=(((R2.mono S3).put (i:=jh) (rep_int.mpr (rfl:V.int hv=.int hv))).put (i:=jd) rw2)
   have o3:=lone_sput (i:=jd) (t:=xv) (lone_sput (i:=jh) (t:=.int hv) o2)
   have L3:=L2.mono S3
   have ls2:σ2.length=τ.length:=by rw[← R2.len];exact l2
   have ed:((σ2.set jh (some (V.int hv))).set jd (some w2))[i]?=some (some (.ref d)):=by
    rw[List.getElem?_set_ne (Ne.symm n2),List.getElem?_set_ne (Ne.symm n1)]
    exact e2
   have eh:((σ2.set jh (some (V.int hv))).set jd (some w2))[jh]?=some (some (.int hv)):=by
    rw[List.getElem?_set_ne (Ne.symm n4)]
    exact List.getElem?_set_self (by omega)
   refine⟨pt,[.int hv,w2],rfl,sq,rfl,.int hv,[w2],rfl,w2,[],rfl,rfl,?_⟩
   refine⟨Nat.zero_le _,fun qa hqa=>⟨.ref d,ed,.int hv,eh,d,_,rfl,DPut.k (k:=Sum.inl hv) (show upd H3 qa (.lst []) d=some (.dK ((rs.map rlK).map toK)) by rw[upd_ne fun z=>by rw[← z,L3.dict]at hqa;cases hqa];exact L3.dict) (by rw[List.length_map,List.length_map];have:=lps;unfold psOf at this;rw[List.length_map]at this;exact small1000 (Nat.le_of_lt this)),?_⟩⟩
   have hq0:X.H₀ qa=none:=R3.same.free hqa
   have L4:=L3.add (h:=hv) hqa hq0 (by unfold psOf at nin;rw[List.map_map]at nin;exact nin)
   have Sa:Same H3 (upd H3 qa (.lst [])):=same_new hqa _
   have da:upd H3 qa (.lst []) d=some (.dK ((rs.map rlK).map toK)):=Sa _ _ L3.dict
   have R4:=(R3.mono Sa).dict (kvs':=putK ((rs.map rlK).map toK) (Sum.inl hv) (.ref qa)) da n0
   have K4:Kp H1 (upd (upd H3 qa (.lst [])) d (.dK (putK ((rs.map rlK).map toK) (Sum.inl hv) (.ref qa)))):=((K2.trans (.of (S3.trans Sa))).trans (Kp.dict da _))
   generalize upd (upd H3 qa (.lst [])) d (.dK (putK ((rs.map rlK).map toK) (Sum.inl hv) (.ref qa)))=H4 at L4 R4 K4 ⊢
   generalize ((σ2.set jh (some (V.int hv))).set jd (some w2))=σ4 at ed eh R4 ⊢
   generalize hτ4:sput (sput τ2 jh (.val (.int hv))) jd (.val xv)=τ4 at q2 R4 o3
   have l4:τ4.length=τ.length:=by rw[← hτ4,length_sput,length_sput];exact l2
   refine⟨τ4,_,R4,q2,fun ns J2 H5 S5 wk2 q5=>?_⟩
   obtain⟨NQ,hNQ⟩:∃NQ:List Int->List Slot->Prop,NQ=fun us τ2=>readsT jh jd jn wi2 ut (ts.drop (k + 1)) (psOf rs++[(hv,us)]) (fun ps=>D0.rt (dicT ps)) τ2:=⟨_,rfl⟩
   rw[← hNQ]at q5
   refine⟨fun k m σ' H'=>m=ns.length - k/\k<=ns.length/\∃τ' us,τ'.length=τ.length/\RepSt X.K X.H₀ H' σ' τ'/\(∀j,lone1 (sget τ' j)=true)/\Kp H5 H'/\σ'[i]?=some (some (.ref d))/\σ'[jh]?=some (some (.int hv))/\DL X.H₀ H' d (rs++[(hv,us,qa)])/\innT jn ut (ns.drop k) us NQ τ',⟨ns.length,by simp,Nat.zero_le _,τ4,[],l4,R4.mono S5,o3,.refl H5,ed,eh,L4.mono S5,by rw[List.drop_zero];exact q5⟩,?_⟩
   rintro k' m' σ6 H6 ⟨rfl,hk',τ6,us,l6,R6,o6,K6,ed6,eh6,L6,q6⟩
   obtain⟨wi6,ws6⟩:=wk2 H6 K6
   by_cases hlt':k' < ns.length
   ·refine .inr ?_
    have ei':ns[k']?=some ns[k']:=List.getElem?_eq_getElem hlt'
    obtain⟨go6,yl6⟩:=wi6 k' _ ei'
    rw[List.drop_eq_getElem_cons hlt']at q6
    refine⟨go6,fun σ' H'=>∃τ' us,τ'.length=τ.length/\RepSt X.K X.H₀ H' σ' τ'/\(∀j,lone1 (sget τ' j)=true)/\Kp H5 H'/\σ'[i]?=some (some (.ref d))/\σ'[jh]?=some (some (.int hv))/\DL X.H₀ H' d (rs++[(hv,us,qa)])/\innT jn ut (ns.drop (k' + 1)) us NQ τ',fun σ' H' ⟨τ',us',a1,a2,a3,a4,a5,a6,a7,a8⟩=>⟨ns.length - (k' + 1),by omega,rfl,hlt',τ',us',a1,a2,a3,a4,a5,a6,a7,a8⟩,fun z H7 yy=>?_⟩
    obtain⟨S7,r7⟩:=yl6 z H7 yy
    simp only[innT]at q6
    generalize ns[k']=t at q6 r7
    split at q6
    ·rename_i nv
     obtain⟨lus,q6⟩:=q6
     have ez:=rep_int.mp r7
     subst ez
     have ls6:σ6.length=τ.length:=by rw[← R6.len];exact l6
     have R7:=(R6.mono S7).put (i:=jn) (rep_int.mpr (rfl:V.int nv=.int nv))
     have o7:=lone_sput (i:=jn) (t:=.int nv) o6
     have ed7:(σ6.set jn (some (V.int nv)))[i]?=some (some (.ref d)):=by rw[List.getElem?_set_ne (Ne.symm n3)];exact ed6
     have eh7:(σ6.set jn (some (V.int nv)))[jh]?=some (some (.int hv)):=by rw[List.getElem?_set_ne (Ne.symm n5)];exact eh6
     have en7:(σ6.set jn (some (V.int nv)))[jn]?=some (some (.int nv)):=List.getElem?_set_self (by omega)
     refine⟨_,_,R7,q6,fun b H8 S8 q8=>?_⟩
     have L8:=(L6.mono S7).mono S8
     cases b with
     | false =>
      rw[if_neg (by decide)]at q8
      show ite _ _ _
      rw[if_neg (by decide)]
      exact⟨_,us,by rw[length_sput];exact l6,R7.mono S8,o7,K6.trans (.of (S7.trans S8)),ed7,eh7,L8,q8⟩
     | true =>
      rw[if_pos rfl]at q8
      show ite _ _ _
      rw[if_pos rfl]
      have hq8:H8 qa=some (.lst (us.map V.int)):=L8.lst (hv,us,qa) (by simp)
      have gt:DGet H8 d (.int hv) (some (.ref qa)):=by
       have:=DGet.k (k:=Sum.inl hv) L8.dict
       have ev:_root_.L2.valV (((rs++[(hv,us,qa)]).map rlK).map toK) (Sum.inl hv)=some (.ref qa):=by
        rw[List.map_append,List.map_append]
        have:=valV_snoc (Sum.inl hv) (Sum.inl hv) (V.ref qa) ((rs.map rlK).map toK) (valK_none (by unfold psOf at nin;rw[List.map_map]at nin;exact nin))
        rw[if_pos rfl]at this
        exact this
       rw[ev]at this
       exact this
      have em:us.map V.int++[V.int nv]=(us++[nv]).map V.int:=by rw[List.map_append];rfl
      refine⟨.ref d,ed7,.int hv,eh7,d,.ref qa,rfl,gt,.inl ⟨rfl,us.map V.int,SqL.of hq8⟩,.int nv,en7,qa,us.map V.int,.int nv,rfl,rfl,hq8,by rw[List.length_map];exact small1000 (Nat.le_of_lt lus),?_⟩
      rw[em]
      exact⟨_,us++[nv],by rw[length_sput];exact l6,(R7.mono S8).raw o7 hq8 hq0,o7,(K6.trans (.of (S7.trans S8))).trans (Kp.write hq8 _),ed7,eh7,L8.app,q8⟩
    ·exact q6.elim
   ·have e:k'=ns.length:=by omega
    subst e
    rw[List.drop_length]at q6
    have q6':NQ us τ6:=q6
    rw[hNQ]at q6'
    refine .inl ⟨ws6,τ6,rs++[(hv,us,qa)],l6,R6,o6,(K4.trans (.of S5)).trans K6,ed6,L6,?_⟩
    have ep:psOf (rs++[(hv,us,qa)])=psOf rs++[(hv,us)]:=by unfold psOf;rw[List.map_append];rfl
    rw[ep]
    exact q6'
  ·exact q2.elim
 ·have e:k=ts.length:=by omega
  subst e
  rw[List.drop_length]at q2
  exact .inl ⟨ws',d,rs,e2,L2,R2.same,n0,fun H' S' r'=>kr _ _ H' S' r' q2⟩
end
end TL
end
namespace TL
open PySem PySem.Spec PyProof.Rows L2
theorem cpow10(n:Int)(h:0<=n/\n<=1000000):CPow 10 n:=⟨h.1,h.2,by decide⟩
theorem Lim.of{n:Nat}{i:Int}(h1:-(10 ^ n) < i)(h2:i < 10 ^ n):Lim n i:=by
 unfold Lim
 have:((10 ^ n:Nat):Int)=10 ^ n:=by simp
 omega
theorem Lim.mono{m n:Nat}{i:Int}(h:Lim m i)(hn:m<=n):Lim n i:=Nat.lt_of_lt_of_le h (Nat.pow_le_pow_right (by decide) hn)
theorem Lim.mul{m n:Nat}{i j:Int}(a:Lim m i)(b:Lim n j):Lim (m + n) (i * j):=by
 unfold Lim at *
 rw[Int.natAbs_mul,Nat.pow_add]
 exact Nat.mul_lt_mul'' a b
theorem Lim.add{m n:Nat}{i j:Int}(a:Lim m i)(b:Lim n j):Lim (max m n + 1) (i + j):=by
 have a':=a.mono (Nat.le_max_left m n)
 have b':=b.mono (Nat.le_max_right m n)
 unfold Lim at *
 rw[Nat.pow_succ]
 have:=Int.natAbs_add_le i j
 omega
theorem Lim.neg{m:Nat}{i:Int}(a:Lim m i):Lim m (-i):=by
 unfold Lim at *
 rw[Int.natAbs_neg]
 exact a
theorem Lim.sub{m n:Nat}{i j:Int}(a:Lim m i)(b:Lim n j):Lim (max m n + 1) (i - j):=by
 rw[Int.sub_eq_add_neg]
 exact a.add b.neg
theorem Lim.le{m:Nat}{i j:Int}(a:Lim m i)(h:j.natAbs<=i.natAbs):Lim m j:=Nat.lt_of_le_of_lt h a
theorem mulOk{m n:Nat}{i j:Int}(a:Lim m i)(b:Lim n j)(hm:m<=100000:=by decide)(hn:n<=100000:=by decide):MulOk i j:=.inl ⟨m,n,hm,hn,a,b⟩
theorem mulOkL{i j:Int}(a:Lim 19 i):MulOk i j:=.inr (.inl a)
theorem mulOkR{i j:Int}(b:Lim 19 j):MulOk i j:=.inr (.inr b)
theorem divOk{n:Nat}{j:Int}(h:j≠0)(b:Lim n j)(hn:n<=2200:=by decide):DivOk j:=⟨h,n,hn,b⟩
theorem fmod_pos{b:Int}(a:Int)(h:0 < b):0<=a.fmod b/\a.fmod b < b:=⟨Int.fmod_nonneg_of_pos a h,Int.fmod_lt_of_pos a h⟩
theorem small_lim{n:Nat}{i:Int}(h0:0<=i)(h1:i < 10 ^ n):Lim n i:=Lim.of (by have:(0:Int) < 10 ^ n:=Int.pow_pos (by decide);omega) h1
theorem plain_ints:∀ns:List Int,PyData.canLayAll0 (pds (ns.map T.int))=true
 | []=>by simp[pds,PyData.canLayAll0]
 | n::r=>by simp only[List.map,pds,pd,PyData.canLayAll0,PyData.canLay0,plain_ints r,Bool.and_self]
theorem dep_ints:∀ns:List Int,PyData.depthAll (pds (ns.map T.int))=0
 | []=>by simp[pds,PyData.depthAll]
 | n::r=>by simp only[List.map,pds,pd,PyData.depthAll,PyData.depth,dep_ints r,Nat.max_self]
theorem eqOk_lst(ns ms:List Int):EqOk (.lst (ns.map T.int)) (.lst (ms.map T.int)):=by
 refine⟨by simp only[plain,pd,PyData.canLay0,plain_ints],by simp only[plain,pd,PyData.canLay0,plain_ints],by simp only[dep,pd,PyData.depth,dep_ints];decide⟩
theorem eqOk_nil(ns:List Int):EqOk (.lst (ns.map T.int)) (.lst []):=eqOk_lst ns []
theorem eqOk_tup(ns ms:List Int):EqOk (.tup (ns.map T.int)) (.tup (ms.map T.int)):=by
 refine⟨by simp only[plain,pd,PyData.canLay0,plain_ints],by simp only[plain,pd,PyData.canLay0,plain_ints],by simp only[dep,pd,PyData.depth,dep_ints];decide⟩
theorem eqT_nil(ns:List Int):eqT (.lst (ns.map T.int)) (.lst [])=decide (ns=[]):=by
 cases ns<;>simp[eqT,eqTs]
theorem atI0{α:Type}(a:α)(r:List α):atI (a::r) 0=some a:=by
 unfold atI ixN
 rw[if_pos (by decide),if_pos (by simp)]
 rfl
theorem atI1{α:Type}(a b:α)(r:List α):atI (a::b::r) 1=some b:=by
 unfold atI ixN
 rw[if_pos (by decide),if_pos (by simp;omega)]
 rfl
theorem atI2{α:Type}(a b c:α)(r:List α):atI (a::b::c::r) 2=some c:=by
 unfold atI ixN
 rw[if_pos (by decide),if_pos (by simp;omega)]
 rfl
def Within:List Int->List Int->Prop
 | [],[]=>True
 | r::rs,b::bs=>(0<=r/\r < b)/\Within rs bs
 | _,_=>False
theorem Within.snoc:∀{rs bs:List Int}{r b:Int},Within rs bs->0<=r->r < b->Within (rs++[r]) (bs++[b])
 | [],[],r,b,_,h0,h1=>⟨⟨h0,h1⟩,trivial⟩
 | _::_,_::_,r,b,h,h0,h1=>⟨h.1,h.2.snoc h0 h1⟩
 | [],_::_,_,_,h,_,_=>h.elim
 | _::_,[],_,_,h,_,_=>h.elim
theorem Within.length:∀{rs bs:List Int},Within rs bs->rs.length=bs.length
 | [],[],_=>rfl
 | _::_,_::_,h=>by simp[h.2.length]
 | [],_::_,h=>h.elim
 | _::_,[],h=>h.elim
@[elab_as_elim] theorem args0{α:Type}{M:List α->Prop}{us:List α}(hl:us.length=0)(h:M []):M us:=by cases us;exact h;cases hl
@[elab_as_elim] theorem argsS{α:Type}{M:List α->Prop}{us:List α}{n:Nat}(hl:us.length=n + 1)(h:∀a r,r.length=n->M (a::r)):M us:=by cases us;cases hl;exact h _ _ (Nat.succ.inj hl)
@[elab_as_elim] theorem args1{α:Type}{M:List α->Prop}{us:List α}(hl:us.length=1)(h:∀a,M [a]):M us:=argsS (M:=M) hl fun a r hl=>args0 (M:=fun r=>M (a::r)) hl (h a)
@[elab_as_elim] theorem args2{α:Type}{M:List α->Prop}{us:List α}(hl:us.length=2)(h:∀a b,M [a,b]):M us:=argsS (M:=M) hl fun a r hl=>args1 (M:=fun r=>M (a::r)) hl (h a)
@[elab_as_elim] theorem args3{α:Type}{M:List α->Prop}{us:List α}(hl:us.length=3)(h:∀a b c,M [a,b,c]):M us:=argsS (M:=M) hl fun a r hl=>args2 (M:=fun r=>M (a::r)) hl (h a)
@[elab_as_elim] theorem args4{α:Type}{M:List α->Prop}{us:List α}(hl:us.length=4)(h:∀a b c d,M [a,b,c,d]):M us:=argsS (M:=M) hl fun a r hl=>args3 (M:=fun r=>M (a::r)) hl (h a)
@[elab_as_elim] theorem args5{α:Type}{M:List α->Prop}{us:List α}(hl:us.length=5)(h:∀a b c d e,M [a,b,c,d,e]):M us:=argsS (M:=M) hl fun a r hl=>args4 (M:=fun r=>M (a::r)) hl (h a)
local macro_rules|`(tactic| walk_at "tw")=>`(tactic| simp only[sSeq,sNext,sSet,sIf,sRet,sOwn,sApp,sFrz,sAsg,sPar,sFor,sNever,sExpr,sRetN,gT,gsC,gs0,gN,wVar,wC,w2,rAddT,rSubT,rMulT,rDivT,rModT,rPowT,wNeg,wCmp,tCmpT,cLtT,cLeT,cGtT,cGeT,cEqT,cNeT,cIsN,cNotN,wChain,tChainT,tAndT,tOrT,tNotT,tVal,wAndV,wOrV,wNotV,wIfE,aNil,aCons,wTup,wLst,rIxTT,wCB,rLenT,rAbsT,rMaxT,rMinT,rTupleT,isK,noExc,wIsi,wCall,sget,sput,iSeq,iRange1,iRange2,iEnum,iZip,seqOf,zipT,wComp,compT,hide,tTrue,rSumT,intsOf,rAllT,boolsOf,rListT,rCatLT,rMin3T,iRange3,wRev,wRevA,wSl,wo,wo0,rSlTT,cNeE,wOIx,wOLen,tONe,rIxST,rAddST,rMulST,tTruT,cInT,cNotInT,rSortT,strsOf,wDIx,wRepL,sDic,wDis,tNinD,sOwnF,sSetIx,sCatO,iOwn,endO,frO,wFz,tFz,sFzS,vatT,vat1,backT,lone,lone1,noL,noLs,rMulLT,lstQ,wCount,rCountTs,cInTT,sEnt,sLv,sBorn,sSetN,sAppT,sOwnW,frOT,ownsT,endOT,dropV,valV,noV,isV,drop1,val1,iStr,sgnT,cLeS,sNoR,sRetP,sRetO,sRetC,endR,sClrT,allL,sRetM,endM,sSetM,cNotInS,sAug,sExt,pE,paNil,paCons,pTup,pPop,sSetP,sExprP,sAppP,wLRng,wIdx,rIdxT,sOnce,rAnyT,sBornD,sBornC,sScrap,wNL,nD,nDs,sReads,iDic,rIxDT,wJoin,rJoinT,rStrT,wSlS,rAddAT,rLenST,sOwnC,Option.map,List.sum_cons,List.sum_nil,rangeT,startT,atI0,atI1,atI2,List.map,List.length_cons,List.length_nil,List.append_nil,List.cons_append,List.nil_append,List.replicate,Nat.reduceAdd,Nat.reduceSub,Nat.reduceLeDiff,Nat.zero_le,Int.reduceToNat,Int.reducePow,Int.reduceMul,Int.reduceAdd,true_and,and_true])
local macro_rules|`(tactic| walk_at "go")=>`(tactic| ((conv=>whnf);repeat (first|(refine And.intro (by first|rfl|exact trivial|decide|exact Nat.le_of_ble_eq_true rfl|exact mulOk (by assumption) (by assumption)|assumption) ?_;conv=>whnf)|(refine And.intro (fun q=>Bool.noConfusion q) (fun _=>?_);conv=>whnf)|(refine And.intro (fun _=>?_) (fun q=>Bool.noConfusion q);conv=>whnf))))
local macro_rules|`(tactic| walk_at "nf1")=>`(tactic| conv=>arg 1;simp only[startT,sput,sget,hide,List.map,List.replicate,List.length_cons,List.length_nil,Nat.reduceAdd,Nat.reduceSub,List.cons_append,List.nil_append,List.append_nil])
local macro_rules|`(tactic| walk_at "nf2")=>`(tactic| conv=>arg 2;simp only[startT,sput,sget,hide,List.map,List.replicate,List.length_cons,List.length_nil,Nat.reduceAdd,Nat.reduceSub,List.cons_append,List.nil_append,List.append_nil])
theorem gcd_step(a b:Int):Int.gcd b (a.fmod b)=Int.gcd a b:=by
 rw[Int.fmod_def,Int.gcd_sub_mul_left_right,Int.gcd_comm]
theorem fmod_abs_lt(a:Int){b:Int}(h:b≠0):(a.fmod b).natAbs < b.natAbs:=by
 rw[Int.fmod_eq_emod]
 have h1:=Int.emod_nonneg a h
 have h2:=Int.emod_lt a h
 by_cases hb:0<=b
 ·rw[if_pos (Or.inl hb)]
  omega
 ·by_cases hd:b ∣ a
  ·rw[if_pos (Or.inr hd),Int.emod_eq_zero_of_dvd hd]
   omega
  ·have h3:a % b≠0:=fun e=>hd (Int.dvd_of_emod_eq_zero e)
   rw[if_neg (by omega)]
   omega
structure Frac(p q a b:Int):Prop where
 pos:0 < q
 cop:Int.gcd p q=1
 eq:p * b=a * q
 top:p.natAbs<=a.natAbs
 bot:q.natAbs<=b.natAbs
theorem frac_mk(a:Int){b f:Int}(hb:b≠0)(hf:(0 < b/\f=(Int.gcd a b:Int))∨(b < 0/\f=-(Int.gcd a b:Int))):Frac (a.fdiv f) (b.fdiv f) a b:=by
 have g0:0 < Int.gcd a b:=Int.gcd_pos_iff.mpr (Or.inr hb)
 have fa:f.natAbs=Int.gcd a b:=by rcases hf with ⟨_,e⟩|⟨_,e⟩<;>rw[e]<;>simp
 have fn:f≠0:=by omega
 have da:f ∣ a:=by
  have:=Int.gcd_dvd_left a b
  rcases hf with ⟨_,e⟩|⟨_,e⟩
  ·rw[e];exact this
  ·rw[e];exact Int.neg_dvd.mpr this
 have db:f ∣ b:=by
  have:=Int.gcd_dvd_right a b
  rcases hf with ⟨_,e⟩|⟨_,e⟩
  ·rw[e];exact this
  ·rw[e];exact Int.neg_dvd.mpr this
 obtain⟨a',ea⟩:=da
 obtain⟨b',eb⟩:=db
 have e1:a.fdiv f=a':=by rw[ea];exact Int.mul_fdiv_cancel_left a' fn
 have e2:b.fdiv f=b':=by rw[eb];exact Int.mul_fdiv_cancel_left b' fn
 rw[e1,e2]
 have bn:b'≠0:=by rintro rfl;rw[Int.mul_zero]at eb;exact hb eb
 have cop:Int.gcd a' b'=1:=by
  have q:Int.gcd a b=f.natAbs * Int.gcd a' b':=by rw[ea,eb,Int.gcd_mul_left]
  rw[fa]at q
  have q':Int.gcd a b * 1=Int.gcd a b * Int.gcd a' b':=by rw[Nat.mul_one];exact q
  exact(Nat.eq_of_mul_eq_mul_left g0 q').symm
 have na:a.natAbs=f.natAbs * a'.natAbs:=by rw[ea,Int.natAbs_mul]
 have nb:b.natAbs=f.natAbs * b'.natAbs:=by rw[eb,Int.natAbs_mul]
 have f1:1<=f.natAbs:=by omega
 refine⟨?_,cop,?_,?_,?_⟩
 ·rcases hf with ⟨hp,e⟩|⟨hn,e⟩
  ·have fp:0 < f:=by omega
   rw[eb]at hp
   rcases Int.lt_trichotomy b' 0 with z|z|z
   ·have:=Int.mul_neg_of_pos_of_neg fp z
    omega
   ·exact absurd z bn
   ·exact z
  ·have fp:f < 0:=by omega
   rw[eb]at hn
   rcases Int.lt_trichotomy b' 0 with z|z|z
   ·have:=Int.mul_pos_of_neg_of_neg fp z
    omega
   ·exact absurd z bn
   ·exact z
 ·rw[ea,eb]
  rw[← Int.mul_assoc,Int.mul_comm a' f]
 ·rw[na];exact Nat.le_mul_of_pos_left _ f1
 ·rw[nb];exact Nat.le_mul_of_pos_left _ f1
theorem low_uniq{p q p' q':Int}(hq:0 < q)(hq':0 < q')(c:Int.gcd p q=1)(c':Int.gcd p' q'=1)(e:p * q'=p' * q):p=p'/\q=q':=by
 have n:p.natAbs * q'.natAbs=p'.natAbs * q.natAbs:=by rw[← Int.natAbs_mul,← Int.natAbs_mul,e]
 have c1:Nat.Coprime q.natAbs p.natAbs:=by
  have:Nat.gcd p.natAbs q.natAbs=1:=c
  exact(Nat.gcd_comm _ _).trans this
 have c2:Nat.Coprime q'.natAbs p'.natAbs:=by
  have:Nat.gcd p'.natAbs q'.natAbs=1:=c'
  exact(Nat.gcd_comm _ _).trans this
 have d1:q.natAbs ∣ q'.natAbs:=c1.dvd_of_dvd_mul_left ⟨p'.natAbs,by rw[n,Nat.mul_comm]⟩
 have d2:q'.natAbs ∣ q.natAbs:=c2.dvd_of_dvd_mul_left ⟨p.natAbs,by rw[← n,Nat.mul_comm]⟩
 have qe:q.natAbs=q'.natAbs:=Nat.dvd_antisymm d1 d2
 have qq:q=q':=by omega
 subst qq
 exact⟨Int.eq_of_mul_eq_mul_right (by omega) e,rfl⟩
mutual
theorem eqT_self:∀t:T,plain t=true->eqT t t=true
 | .non,_=>rfl
 | .bl b,_=>by rw[eqTb];exact beq_self_eq_true b
 | .int i,_=>by rw[eqTe];exact decide_eq_true rfl
 | .str x,_=>by rw[eqTf];exact beq_self_eq_true x
 | .tup ts,h=>by
  simp only[plain,pd,PyData.canLay0]at h
  exact eqTs_self ts h
 | .lst ts,h=>by
  simp only[plain,pd,PyData.canLay0]at h
  exact eqTs_self ts h
 | .dct,h=>by simp[plain,pd,PyData.canLay0]at h
 | .exc _,h=>by simp[plain,pd,PyData.canLay0]at h
theorem eqTs_self:∀ts:List T,PyData.canLayAll0 (pds ts)=true->eqTs ts ts=true
 | [],_=>rfl
 | t::r,h=>by
  simp only[pds,PyData.canLayAll0,Bool.and_eq_true]at h
  rw[eqTj,Bool.and_eq_true]
  exact⟨eqT_self t h.1,eqTs_self r h.2⟩
end
def Pn(n:Nat)(t:T):Prop:=plain t=true/\dep t<=n
theorem Pn.all{n:Nat}:∀{ts:List T},(∀t∈ts,Pn n t)->PyData.canLayAll0 (pds ts)=true/\PyData.depthAll (pds ts)<=n
 | [],_=>by simp[pds,PyData.canLayAll0,PyData.depthAll]
 | t::r,h=>by
  have h1:(pd t).canLay0=true/\(pd t).depth<=n:=h t List.mem_cons_self
  have ih:=Pn.all fun x hx=>h x (List.mem_cons_of_mem _ hx)
  simp only[pds,PyData.canLayAll0,PyData.depthAll,Bool.and_eq_true]
  exact⟨⟨h1.1,ih.1⟩,by omega⟩
theorem Pn.lst{n:Nat}{ts:List T}(h:∀t∈ts,Pn n t):Pn (n + 1) (.lst ts):=by
 have:=Pn.all h
 refine⟨by simp only[plain,pd,PyData.canLay0];exact this.1,?_⟩
 simp only[dep,pd,PyData.depth]
 omega
theorem Pn.tup{n:Nat}{ts:List T}(h:∀t∈ts,Pn n t):Pn (n + 1) (.tup ts):=by
 have:=Pn.all h
 refine⟨by simp only[plain,pd,PyData.canLay0];exact this.1,?_⟩
 simp only[dep,pd,PyData.depth]
 omega
theorem Pn.int(i:Int):Pn 0 (.int i):=by
 refine⟨by simp[plain,pd,PyData.canLay0],by simp[dep,pd,PyData.depth]⟩
theorem Pn.non:Pn 0 .non:=by
 refine⟨by simp[plain,pd,PyData.canLay0],by simp[dep,pd,PyData.depth]⟩
theorem Pn.up{n m:Nat}{t:T}(h:Pn n t)(hm:n<=m):Pn m t:=⟨h.1,Nat.le_trans h.2 hm⟩
theorem Pn.ok{n m:Nat}{x y:T}(h:Pn n x)(h':Pn m y)(hn:n<=60):EqOk x y:=⟨h.1,h'.1,by have:=h.2;omega⟩
theorem Pn.self{n:Nat}{x:T}(h:Pn n x):eqT x x=true:=eqT_self x h.1
abbrev fra(a b:Int):T:=.tup [.int a,.int b]
structure Rt(p q n m:Int):Prop where
 pos:0 < q
 cop:Int.gcd p q=1
 eq:p * m=n * q
theorem Frac.rt{p q a b:Int}(F:Frac p q a b):Rt p q a b:=⟨F.pos,F.cop,F.eq⟩
theorem mul_cl{a b c:Int}(h:a≠0)(e:a * b=a * c):b=c:=Int.eq_of_mul_eq_mul_left h e
theorem Rt.uniq{p q p' q' n m:Int}(hm:m≠0)(A:Rt p q n m)(B:Rt p' q' n m):p=p'/\q=q':=by
 refine low_uniq A.pos B.pos A.cop B.cop (mul_cl hm ?_)
 have e1:=A.eq
 have e2:=B.eq
 have h1:m * (p * q')=(p * m) * q':=by grind
 have h2:m * (p' * q)=(p' * m) * q:=by grind
 rw[h1,h2,e1,e2]
 grind
theorem Rt.same{p q p' q' n m n' m':Int}(hm:m≠0)(hm':m'≠0)(e:n * m'=n' * m)(A:Rt p q n m)(B:Rt p' q' n' m'):p=p'/\q=q':=by
 refine low_uniq A.pos B.pos A.cop B.cop (mul_cl (Int.mul_ne_zero hm hm') ?_)
 have e1:=A.eq
 have e2:=B.eq
 have h1:m * m' * (p * q')=(p * m) * (m' * q'):=by grind
 have h2:m * m' * (p' * q)=(p' * m') * (m * q):=by grind
 rw[h1,h2,e1,e2]
 have h3:n * q * (m' * q')=(n * m') * (q * q'):=by grind
 rw[h3,e]
 grind
theorem Rt.le{p q n m:Int}(hm:m≠0)(A:Rt p q n m):p.natAbs<=n.natAbs/\q.natAbs<=m.natAbs:=by
 have e:=A.eq
 have hq:=A.pos
 have c1:Nat.Coprime q.natAbs p.natAbs:=by
  have:Nat.gcd p.natAbs q.natAbs=1:=A.cop
  exact(Nat.gcd_comm _ _).trans this
 have en:p.natAbs * m.natAbs=n.natAbs * q.natAbs:=by rw[← Int.natAbs_mul,← Int.natAbs_mul,e]
 have d:q.natAbs ∣ m.natAbs:=c1.dvd_of_dvd_mul_left ⟨n.natAbs,by rw[en,Nat.mul_comm]⟩
 obtain⟨k,hk⟩:=d
 have hm':0 < m.natAbs:=by omega
 have k0:0 < k:=by
  rcases Nat.eq_zero_or_pos k with z|z
  ·rw[z,Nat.mul_zero]at hk;omega
  ·exact z
 have hq':0 < q.natAbs:=by omega
 have en2:n.natAbs=p.natAbs * k:=by
  rw[hk]at en
  have:q.natAbs * (p.natAbs * k)=q.natAbs * n.natAbs:=by rw[Nat.mul_comm q.natAbs n.natAbs,← en,Nat.mul_left_comm]
  exact(Nat.eq_of_mul_eq_mul_left hq' this).symm
 exact⟨by rw[en2];exact Nat.le_mul_of_pos_right _ k0,by rw[hk];exact Nat.le_mul_of_pos_right _ k0⟩
theorem Rt.lp{p q n m:Int}{k:Nat}(hm:m≠0)(A:Rt p q n m)(h:Lim k n):Lim k p:=h.le (A.le hm).1
theorem Rt.lq{p q n m:Int}{k:Nat}(hm:m≠0)(A:Rt p q n m)(h:Lim k m):Lim k q:=h.le (A.le hm).2
theorem Rt.less{p q n m a P R:Int}(A:Rt p q n m)(F:Frac P R (p * 1 - a * q) (q * 1)):Rt P R (n - a * m) m:=by
 refine⟨F.pos,F.cop,mul_cl (a:=q) (by have:=A.pos;omega) ?_⟩
 have e1:=A.eq
 have e2:=F.eq
 clear A F
 grind
theorem Rt.sum{p q p' q' n n' m P R:Int}(A:Rt p q n m)(B:Rt p' q' n' m)(F:Frac P R (p * q' + p' * q) (q * q')):Rt P R (n + n') m:=by
 refine⟨F.pos,F.cop,mul_cl (a:=q * q') (by have:=Int.mul_pos A.pos B.pos;omega) ?_⟩
 have e1:=A.eq
 have e2:=B.eq
 have e3:=F.eq
 clear A B F
 grind
theorem Rt.whole(x:Int):Rt x 1 x 1:=⟨by decide,by simp,rfl⟩
theorem Rt.neg{p q n m w:Int}(hm:0 < m)(A:Rt p q n m):(p * w < 0) ↔ (n * w < 0):=by
 have hq:=A.pos
 have e:(p * w) * m=(n * w) * q:=by have:=A.eq;grind
 constructor
 ·intro h
  have h1:=Int.mul_neg_of_neg_of_pos h hm
  rw[e]at h1
  rcases Int.lt_or_le (n * w) 0 with z|z
  ·exact z
  ·have:=Int.mul_nonneg z (Int.le_of_lt hq);omega
 ·intro h
  have h1:=Int.mul_neg_of_neg_of_pos h hq
  rw[← e]at h1
  rcases Int.lt_or_le (p * w) 0 with z|z
  ·exact z
  ·have:=Int.mul_nonneg z (Int.le_of_lt hm);omega
def frG(n m:Int):Int:=if m < 0 then -(Int.gcd n m:Int) else (Int.gcd n m:Int)
def frN(n m:Int):Int:=n.fdiv (frG n m)
def frD(n m:Int):Int:=m.fdiv (frG n m)
def fr(n m:Int):T:=.tup [.int (frN n m),.int (frD n m)]
theorem fr_frac{n m:Int}(hm:m≠0):Frac (frN n m) (frD n m) n m:=by
 unfold frN frD
 refine frac_mk n hm ?_
 unfold frG
 rcases Int.lt_or_lt_of_ne hm with z|z
 ·exact .inr ⟨z,if_pos z⟩
 ·exact .inl ⟨z,if_neg (by omega)⟩
theorem fr_rt{n m:Int}(hm:m≠0):Rt (frN n m) (frD n m) n m:=(fr_frac hm).rt
theorem fr_of{p q n m:Int}(hm:m≠0)(A:Rt p q n m):fra p q=fr n m:=by
 obtain⟨e1,e2⟩:=A.uniq hm (fr_rt hm)
 rw[e1,e2,fr]
theorem fr_eq{n m n' m':Int}(hm:m≠0)(hm':m'≠0)(e:n * m'=n' * m):fr n m=fr n' m':=by
 obtain⟨e1,e2⟩:=(fr_rt hm).same hm hm' e (fr_rt hm')
 rw[fr,fr,e1,e2]
theorem fr_one(x:Int):fra x 1=fr x 1:=fr_of (by decide) (Rt.whole x)
theorem frN_lim{k:Nat}{n m:Int}(hm:m≠0)(h:Lim k n):Lim k (frN n m):=(fr_rt hm).lp hm h
theorem frD_lim{k:Nat}{n m:Int}(hm:m≠0)(h:Lim k m):Lim k (frD n m):=(fr_rt hm).lq hm h
theorem frD_pos{n m:Int}(hm:m≠0):0 < frD n m:=(fr_rt hm).pos
structure Two(k:Nat)(a b c d:Int):Prop where
 hb:b≠0
 hd:d≠0
 la:Lim k a
 lb:Lim k b
 lc:Lim k c
 ld:Lim k d
theorem Two.mono{k k':Nat}{a b c d:Int}(h:Two k a b c d)(hk:k<=k'):Two k' a b c d:=⟨h.hb,h.hd,h.la.mono hk,h.lb.mono hk,h.lc.mono hk,h.ld.mono hk⟩
theorem fr_sum{a b c d:Int}(hb:b≠0)(hd:d≠0):fr (frN a b * frD c d + frN c d * frD a b) (frD a b * frD c d)=fr (a * d + c * b) (b * d):=by
 have A:=fr_rt (n:=a) hb
 have B:=fr_rt (n:=c) hd
 refine fr_eq (by have:=Int.mul_pos A.pos B.pos;omega) (Int.mul_ne_zero hb hd) ?_
 have e1:=A.eq
 have e2:=B.eq
 generalize frN a b=p at e1 ⊢
 generalize frD a b=q at e1 ⊢
 generalize frN c d=r at e2 ⊢
 generalize frD c d=s at e2 ⊢
 clear A B
 have h1:(p * s + r * q) * (b * d)=(p * b) * (s * d) + (r * d) * (q * b):=by grind
 rw[h1,e1,e2]
 grind
theorem fr_sub{a b c d:Int}(hb:b≠0)(hd:d≠0):fr (frN a b * frD c d - frN c d * frD a b) (frD a b * frD c d)=fr (a * d - c * b) (b * d):=by
 have A:=fr_rt (n:=a) hb
 have B:=fr_rt (n:=c) hd
 refine fr_eq (by have:=Int.mul_pos A.pos B.pos;omega) (Int.mul_ne_zero hb hd) ?_
 have e1:=A.eq
 have e2:=B.eq
 generalize frN a b=p at e1 ⊢
 generalize frD a b=q at e1 ⊢
 generalize frN c d=r at e2 ⊢
 generalize frD c d=s at e2 ⊢
 clear A B
 have h1:(p * s - r * q) * (b * d)=(p * b) * (s * d) - (r * d) * (q * b):=by grind
 rw[h1,e1,e2]
 grind
theorem fr_mul{a b c d:Int}(hb:b≠0)(hd:d≠0):fr (frN a b * frN c d) (frD a b * frD c d)=fr (a * c) (b * d):=by
 have A:=fr_rt (n:=a) hb
 have B:=fr_rt (n:=c) hd
 refine fr_eq (by have:=Int.mul_pos A.pos B.pos;omega) (Int.mul_ne_zero hb hd) ?_
 have e1:=A.eq
 have e2:=B.eq
 generalize frN a b=p at e1 ⊢
 generalize frD a b=q at e1 ⊢
 generalize frN c d=r at e2 ⊢
 generalize frD c d=s at e2 ⊢
 clear A B
 have h1:(p * r) * (b * d)=(p * b) * (r * d):=by grind
 rw[h1,e1,e2]
 grind
theorem frN_ne{c d:Int}(hd:d≠0)(hc:c≠0):frN c d≠0:=fun z=>by
 have e:=(fr_rt (n:=c) hd).eq
 have q:=frD_pos (n:=c) hd
 rw[z,Int.zero_mul]at e
 exact Int.mul_ne_zero hc (by omega) e.symm
theorem fr_quo{a b c d:Int}(hb:b≠0)(hd:d≠0)(hc:c≠0):fr (frN a b * frD c d) (frD a b * frN c d)=fr (a * d) (b * c):=by
 have A:=fr_rt (n:=a) hb
 have B:=fr_rt (n:=c) hd
 have nz:=frN_ne hd hc
 refine fr_eq (Int.mul_ne_zero (by have:=A.pos;omega) nz) (Int.mul_ne_zero hb hc) ?_
 have e1:=A.eq
 have e2:=B.eq
 generalize frN a b=p at e1 ⊢
 generalize frD a b=q at e1 ⊢
 generalize frN c d=r at e2 ⊢
 generalize frD c d=s at e2 ⊢
 clear A B nz
 have h1:(p * s) * (b * c)=(p * b) * (c * s):=by grind
 rw[h1,e1,← e2]
 grind
theorem fr_sum1{a c m:Int}(hm:m≠0):fr (a * m + c * m) (m * m)=fr (a + c) m:=fr_eq (Int.mul_ne_zero hm hm) hm (by grind)
theorem abs_ite(a:Int):(if a < 0 then -a else a)=(a.natAbs:Int):=by split<;>omega
def isWh:T->Bool
 | .int _=>true
 | _=>false
def Z0z:SpT:=fun ts Q=>∃t,ts=[t]/\noExc t/\Q (.bl (isWh t))
theorem Z5s:∀ts Q,Z0z ts Q->ts.length=1:=by rintro ts Q ⟨_,e,_⟩;subst e;rfl
def Z2T:WS :=
 (sRet (wAndV (wIsi .int (wVar 0)) (wNotV (wIsi .bool (wVar 0)))))
theorem Z5P:∀ts Q,Z0z ts Q->Z2T {nx:=fun _=>Q .non,rt:=Q} (startT 1 ts):=by
 rintro _ Q ⟨t,rfl,ne,h⟩
 unfold Z2T
 walk_at "tw"
 cases t<;>simp[isK,isWh,noExc]at h ne ⊢ <;> exact h
def Z0l:SpT:=fun ts Q=>∃a b:Int,ts=[.int a,.int b]/\Q (.int (Int.gcd a b))
theorem Z3v:∀ts Q,Z0l ts Q->ts.length=2:=by rintro ts Q ⟨_,_,e,_⟩;subst e;rfl
def Z08:WS :=
 (sSeq (sSet 2 (w2 rModT (wVar 0) (wVar 1)))
  (sSeq (sSet 0 (wVar 1))
  (sSet 1 (wVar 2))))
def Z1M:WS :=
 (sSeq (sWhile (tCmpT cNeT (wVar 1) (wC (.int 0))) Z08)
  (sRet (wCB rAbsT (aCons (wVar 0) aNil))))
theorem Z3R:∀ts Q,Z0l ts Q->Z1M {nx:=fun _=>Q .non,rt:=Q} (startT 3 ts):=by
 rintro _ Q ⟨a,b,rfl,h⟩
 unfold Z1M
 walk_at "tw"
 refine⟨fun m τ=>∃(x y:Int) (s:Slot),τ=[.val (.int x),.val (.int y),s]/\Int.gcd x y=Int.gcd a b/\m=y.natAbs,⟨_,_,_,_,rfl,rfl,rfl⟩,?_⟩
 rintro m τ ⟨x,y,s,rfl,hg,rfl⟩
 unfold Z08
 walk_at "tw"
 refine⟨fun c=>?_,fun c=>?_⟩
 ·have c':y≠0:=by simpa using c
  exact⟨c',_,fmod_abs_lt x c',_,_,_,rfl,by rw[gcd_step];exact hg,rfl⟩
 ·have e:y=0:=by simpa using c
  subst e
  rw[Int.gcd_zero_right]at hg
  rw[abs_ite,hg]
  exact h
def Z09:SpT:=fun ts Q=>∃a b:Int,ts=[.int a,.int b]/\b≠0/\Lim 2000 b/\Q (fr a b)
theorem Z5t:∀ts Q,Z09 ts Q->ts.length=2:=by rintro ts Q ⟨_,_,e,_⟩;subst e;rfl
def Z0X:WS :=
 (sRet (wTup (aCons (w2 rDivT (wVar 0) (wVar 2)) (aCons (w2 rDivT (wVar 1) (wVar 2)) aNil))))
def Z3w:WS :=
 (sSeq (sIf (tOrT (tNotT (tVal (wCall Z0z (aCons (wVar 0) aNil)))) (tNotT (tVal (wCall Z0z (aCons (wVar 1) aNil))))) sNever sNext)
  (sSeq (sIf (tCmpT cEqT (wVar 1) (wC (.int 0))) sNever sNext)
  (sSeq (sSet 2 (wCall Z0l (aCons (wVar 0) (aCons (wVar 1) aNil))))
  (sSeq (sIf (tCmpT cLtT (wVar 1) (wC (.int 0))) (sSet 2 (wNeg (wVar 2))) sNext)
  Z0X))))
theorem Z5Q:∀ts Q,Z09 ts Q->Z3w {nx:=fun _=>Q .non,rt:=Q} (startT 3 ts):=by
 rintro _ Q ⟨a,b,rfl,hb,lb,h⟩
 simp only[Z3w,Z0X]
 walk_at "tw"
 have g0:0 < Int.gcd a b:=Int.gcd_pos_iff.mpr (Or.inr hb)
 have gl:(Int.gcd a b:Int).natAbs<=b.natAbs:=by
  have d:=Int.gcd_dvd_right a b
  have:=Int.natAbs_dvd_natAbs.mpr d
  exact Nat.le_of_dvd (by omega) this
 refine⟨_,rfl,trivial,?_⟩
 walk_at "tw"
 simp only[isWh]
 refine⟨fun z=>(by cases z),fun _=>⟨_,rfl,trivial,?_⟩⟩
 walk_at "tw"
 simp only[isWh]
 refine⟨fun z=>(by cases z),fun _=>⟨fun c=>hb (of_decide_eq_true c),fun _=>⟨a,b,rfl,?_⟩⟩⟩
 walk_at "tw"
 refine⟨fun c=>?_,fun c=>?_⟩
 ·have c':b < 0:=of_decide_eq_true c
  have dv:DivOk (-(Int.gcd a b:Int)):=divOk (by omega) (lb.le (by omega))
  unfold fr frN frD frG at h
  rw[if_pos c']at h
  exact⟨dv,dv,h⟩
 ·have c':¬ b < 0:=of_decide_eq_false c
  have dv:DivOk (Int.gcd a b:Int):=divOk (by omega) (lb.le gl)
  unfold fr frN frD frG at h
  rw[if_neg c']at h
  exact⟨dv,dv,h⟩
def Z0h:SpT:=fun ts Q=>∃a b c d:Int,ts=[fr a b,fr c d]/\Two 900 a b c d/\Q (fr (a * d + c * b) (b * d))
theorem Z4W:∀ts Q,Z0h ts Q->ts.length=2:=by rintro ts Q ⟨_,_,_,_,e,_⟩;subst e;rfl
def Z2C:WS :=
 (sRet (wCall Z09 (aCons (w2 rAddT (w2 rMulT (w2 rIxTT (wVar 0) (wC (.int 0))) (w2 rIxTT (wVar 1) (wC (.int 1)))) (w2 rMulT (w2 rIxTT (wVar 1) (wC (.int 0))) (w2 rIxTT (wVar 0) (wC (.int 1))))) (aCons (w2 rMulT (w2 rIxTT (wVar 0) (wC (.int 1))) (w2 rIxTT (wVar 1) (wC (.int 1)))) aNil))))
theorem Z5u:∀ts Q,Z0h ts Q->Z2C {nx:=fun _=>Q .non,rt:=Q} (startT 2 ts):=by
 rintro _ Q ⟨a,b,c,d,rfl,⟨hb,hd,la,lb,lc,ld⟩,h⟩
 rw[← fr_sum hb hd]at h
 have q:=Int.mul_pos (frD_pos (n:=a) hb) (frD_pos (n:=c) hd)
 have la:=frN_lim hb la
 have lb:=frD_lim (n:=a) hb lb
 have lc:=frN_lim hd lc
 have ld:=frD_lim (n:=c) hd ld
 unfold Z2C fr
 walk_at "tw"
 exact⟨mulOk la ld,mulOk lc lb,mulOk lb ld,_,_,rfl,by omega,(lb.mul ld).mono (by decide),h⟩
def Z0Y:SpT:=fun ts Q=>∃a b c d:Int,ts=[fr a b,fr c d]/\Two 900 a b c d/\Q (fr (a * d - c * b) (b * d))
theorem Z4J:∀ts Q,Z0Y ts Q->ts.length=2:=by rintro ts Q ⟨_,_,_,_,e,_⟩;subst e;rfl
def Z2l:WS :=
 (sRet (wCall Z09 (aCons (w2 rSubT (w2 rMulT (w2 rIxTT (wVar 0) (wC (.int 0))) (w2 rIxTT (wVar 1) (wC (.int 1)))) (w2 rMulT (w2 rIxTT (wVar 1) (wC (.int 0))) (w2 rIxTT (wVar 0) (wC (.int 1))))) (aCons (w2 rMulT (w2 rIxTT (wVar 0) (wC (.int 1))) (w2 rIxTT (wVar 1) (wC (.int 1)))) aNil))))
theorem Z4X:∀ts Q,Z0Y ts Q->Z2l {nx:=fun _=>Q .non,rt:=Q} (startT 2 ts):=by
 rintro _ Q ⟨a,b,c,d,rfl,⟨hb,hd,la,lb,lc,ld⟩,h⟩
 rw[← fr_sub hb hd]at h
 have q:=Int.mul_pos (frD_pos (n:=a) hb) (frD_pos (n:=c) hd)
 have la:=frN_lim hb la
 have lb:=frD_lim (n:=a) hb lb
 have lc:=frN_lim hd lc
 have ld:=frD_lim (n:=c) hd ld
 unfold Z2l fr
 walk_at "tw"
 exact⟨mulOk la ld,mulOk lc lb,mulOk lb ld,_,_,rfl,by omega,(lb.mul ld).mono (by decide),h⟩
def Z0a:SpT:=fun ts Q=>∃a b c d:Int,ts=[fr a b,fr c d]/\Two 900 a b c d/\Q (fr (a * c) (b * d))
theorem Z4p:∀ts Q,Z0a ts Q->ts.length=2:=by rintro ts Q ⟨_,_,_,_,e,_⟩;subst e;rfl
def Z1X:WS :=
 (sRet (wCall Z09 (aCons (w2 rMulT (w2 rIxTT (wVar 0) (wC (.int 0))) (w2 rIxTT (wVar 1) (wC (.int 0)))) (aCons (w2 rMulT (w2 rIxTT (wVar 0) (wC (.int 1))) (w2 rIxTT (wVar 1) (wC (.int 1)))) aNil))))
theorem Z4K:∀ts Q,Z0a ts Q->Z1X {nx:=fun _=>Q .non,rt:=Q} (startT 2 ts):=by
 rintro _ Q ⟨a,b,c,d,rfl,⟨hb,hd,la,lb,lc,ld⟩,h⟩
 rw[← fr_mul hb hd]at h
 have q:=Int.mul_pos (frD_pos (n:=a) hb) (frD_pos (n:=c) hd)
 have la:=frN_lim hb la
 have lb:=frD_lim (n:=a) hb lb
 have lc:=frN_lim hd lc
 have ld:=frD_lim (n:=c) hd ld
 unfold Z1X fr
 walk_at "tw"
 exact⟨mulOk la lc,mulOk lb ld,_,_,rfl,by omega,(lb.mul ld).mono (by decide),h⟩
def Z15:SpT:=fun ts Q=>∃a b c d:Int,ts=[fr a b,fr c d]/\Two 900 a b c d/\c≠0/\Q (fr (a * d) (b * c))
theorem Z5v:∀ts Q,Z15 ts Q->ts.length=2:=by rintro ts Q ⟨_,_,_,_,e,_⟩;subst e;rfl
def Z2U:WS :=
 (sRet (wCall Z09 (aCons (w2 rMulT (w2 rIxTT (wVar 0) (wC (.int 0))) (w2 rIxTT (wVar 1) (wC (.int 1)))) (aCons (w2 rMulT (w2 rIxTT (wVar 0) (wC (.int 1))) (w2 rIxTT (wVar 1) (wC (.int 0)))) aNil))))
theorem Z5R:∀ts Q,Z15 ts Q->Z2U {nx:=fun _=>Q .non,rt:=Q} (startT 2 ts):=by
 rintro _ Q ⟨a,b,c,d,rfl,⟨hb,hd,la,lb,lc,ld⟩,hc,h⟩
 rw[← fr_quo hb hd hc]at h
 have q:=frD_pos (n:=a) hb
 have nz:=frN_ne hd hc
 have la:=frN_lim hb la
 have lb:=frD_lim (n:=a) hb lb
 have lc:=frN_lim hd lc
 have ld:=frD_lim (n:=c) hd ld
 unfold Z2U fr
 walk_at "tw"
 exact⟨mulOk la ld,mulOk lb lc,_,_,rfl,Int.mul_ne_zero (by omega) nz,(lb.mul lc).mono (by decide),h⟩
abbrev tri(a b c:Int):T:=.tup [.int a,.int b,.int c]
abbrev plt(a b c d e f x y z:Int):T:=.tup [tri a b c,tri d e f,tri x y z]
abbrev Tr:=Int×Int×Int
abbrev trT(d:Tr):T:=tri d.1 d.2.1 d.2.2
abbrev Lim3(k:Nat)(u v w:Int):Prop:=Lim k u/\Lim k v/\Lim k w
abbrev LimT(k:Nat)(d:Tr):Prop:=Lim3 k d.1 d.2.1 d.2.2
theorem Lim3.mono{k k':Nat}{a b c:Int}(h:Lim3 k a b c)(hk:k<=k'):Lim3 k' a b c:=⟨h.1.mono hk,h.2.1.mono hk,h.2.2.mono hk⟩
abbrev crs(a b:Tr):Tr:=(a.2.1 * b.2.2 - a.2.2 * b.2.1,a.2.2 * b.1 - a.1 * b.2.2,a.1 * b.2.1 - a.2.1 * b.1)
abbrev dotI(a b:Tr):Int:=a.1 * b.1 + a.2.1 * b.2.1 + a.2.2 * b.2.2
abbrev pt(t:Tr)(m:Int):T:=.tup [fr t.1 m,fr t.2.1 m,fr t.2.2 m]
abbrev hpl(h:Tr):T:=.tup [fr h.1 h.2.2,fr h.2.1 h.2.2]
abbrev ptl(c s o:Tr):T:=.tup [trT c,trT s,trT o]
theorem lim_crs{m n k:Nat}{a b:Tr}(ha:LimT m a)(hb:LimT n b)(hk:m + n + 1<=k):LimT k (crs a b):=by
 have z:∀{p q r s:Int},Lim m p->Lim m q->Lim n r->Lim n s->Lim k (p * s - q * r):=fun hp hq hr hs=>((hp.mul hs).sub (hq.mul hr)).mono (by simp;omega)
 exact⟨z ha.2.1 ha.2.2 hb.2.1 hb.2.2,z ha.2.2 ha.1 hb.2.2 hb.1,z ha.1 ha.2.1 hb.1 hb.2.1⟩
theorem lim_dotI{m n k:Nat}{a b:Tr}(ha:LimT m a)(hb:LimT n b)(hk:m + n + 2<=k):Lim k (dotI a b):=(((ha.1.mul hb.1).add (ha.2.1.mul hb.2.1)).add (ha.2.2.mul hb.2.2)).mono (by simp;omega)
theorem eqOk_tri(a b c d e f:Int):EqOk (tri a b c) (tri d e f):=eqOk_tup [a,b,c] [d,e,f]
theorem eqT_tri(a b c d e f:Int):eqT (tri a b c) (tri d e f)=decide (a=d/\b=e/\c=f):=by
 simp[eqT,eqTs]
abbrev tless(t c:Tr)(m:Int):Tr:=(t.1 - c.1 * m,t.2.1 - c.2.1 * m,t.2.2 - c.2.2 * m)
theorem lim_tless{k j n:Nat}{t c:Tr}{m:Int}(ht:LimT k t)(hc:LimT k c)(hm:Lim j m)(hn:k + j + 1<=n):LimT n (tless t c m):=by
 have z:∀{p q:Int},Lim k p->Lim k q->Lim n (p - q * m):=fun hp hq=>(hp.sub (hq.mul hm)).mono (by simp;omega)
 exact⟨z ht.1 hc.1,z ht.2.1 hc.2.1,z ht.2.2 hc.2.2⟩
def Z0P:SpT:=fun ts Q=>∃a b:Tr,ts=[trT a,trT b]/\LimT 2000 a/\LimT 2000 b/\Q (.int (dotI a b))
theorem Z6c:∀ts Q,Z0P ts Q->ts.length=2:=by rintro ts Q ⟨_,_,e,_⟩;subst e;rfl
def Z3J:WS :=
 (sRet (w2 rAddT (w2 rAddT (w2 rMulT (w2 rIxTT (wVar 0) (wC (.int 0))) (w2 rIxTT (wVar 1) (wC (.int 0)))) (w2 rMulT (w2 rIxTT (wVar 0) (wC (.int 1))) (w2 rIxTT (wVar 1) (wC (.int 1))))) (w2 rMulT (w2 rIxTT (wVar 0) (wC (.int 2))) (w2 rIxTT (wVar 1) (wC (.int 2))))))
theorem Z6s:∀ts Q,Z0P ts Q->Z3J {nx:=fun _=>Q .non,rt:=Q} (startT 2 ts):=by
 rintro _ Q ⟨⟨a,b,c⟩,⟨d,e,f⟩,rfl,⟨la,lb,lc⟩,⟨ld,le,lf⟩,h⟩
 unfold Z3J
 walk_at "tw"
 exact⟨mulOk la ld,mulOk lb le,mulOk lc lf,h⟩
def Z0A:SpT:=fun ts Q=>∃a b:Tr,ts=[trT a,trT b]/\LimT 1000 a/\LimT 1000 b/\Q (trT (crs a b))
theorem Z5w:∀ts Q,Z0A ts Q->ts.length=2:=by rintro ts Q ⟨_,_,e,_⟩;subst e;rfl
def Z2V:WS :=
 (sRet (wTup (aCons (w2 rSubT (w2 rMulT (w2 rIxTT (wVar 0) (wC (.int 1))) (w2 rIxTT (wVar 1) (wC (.int 2)))) (w2 rMulT (w2 rIxTT (wVar 0) (wC (.int 2))) (w2 rIxTT (wVar 1) (wC (.int 1))))) (aCons (w2 rSubT (w2 rMulT (w2 rIxTT (wVar 0) (wC (.int 2))) (w2 rIxTT (wVar 1) (wC (.int 0)))) (w2 rMulT (w2 rIxTT (wVar 0) (wC (.int 0))) (w2 rIxTT (wVar 1) (wC (.int 2))))) (aCons (w2 rSubT (w2 rMulT (w2 rIxTT (wVar 0) (wC (.int 0))) (w2 rIxTT (wVar 1) (wC (.int 1)))) (w2 rMulT (w2 rIxTT (wVar 0) (wC (.int 1))) (w2 rIxTT (wVar 1) (wC (.int 0))))) aNil)))))
theorem Z5S:∀ts Q,Z0A ts Q->Z2V {nx:=fun _=>Q .non,rt:=Q} (startT 2 ts):=by
 rintro _ Q ⟨⟨a,b,c⟩,⟨d,e,f⟩,rfl,⟨la,lb,lc⟩,⟨ld,le,lf⟩,h⟩
 unfold Z2V
 walk_at "tw"
 exact⟨mulOk lb lf,mulOk lc le,mulOk lc ld,mulOk la lf,mulOk la le,mulOk lb ld,h⟩
def Z0q:SpT:=fun ts Q=>∃(t:T) (s o:Tr),ts=[.tup [t,trT s,trT o]]/\LimT 1000 s/\LimT 1000 o/\Q (trT (crs s o))
theorem Z5x:∀ts Q,Z0q ts Q->ts.length=1:=by rintro ts Q ⟨_,_,_,e,_⟩;subst e;rfl
def Z2W:WS :=
 (sRet (wCall Z0A (aCons (w2 rIxTT (wVar 0) (wC (.int 1))) (aCons (w2 rIxTT (wVar 0) (wC (.int 2))) aNil))))
theorem Z5T:∀ts Q,Z0q ts Q->Z2W {nx:=fun _=>Q .non,rt:=Q} (startT 1 ts):=by
 rintro _ Q ⟨t,s,o,rfl,ls,lo,h⟩
 unfold Z2W
 walk_at "go"
 exact⟨s,o,rfl,ls,lo,h⟩
def Z0u:SpT:=fun ts Q=>∃(t c:Tr) (m:Int),ts=[pt t m,trT c]/\LimT 300 t/\LimT 300 c/\m≠0/\Lim 300 m/\Q (pt (tless t c m) m)
theorem Z4L:∀ts Q,Z0u ts Q->ts.length=2:=by rintro ts Q ⟨_,_,_,e,_⟩;subst e;rfl
def Z0Z:WE :=
 (wCall Z0Y (aCons (w2 rIxTT (wVar 1) (wVar 0)) (aCons (wTup (aCons (w2 rIxTT (wVar 2) (wVar 0)) (aCons (wC (.int 1)) aNil))) aNil)))
def Z2Z:WS :=
 (sRet (wCB rTupleT (aCons (wComp (iRange1 (aCons (wC (.int 3)) aNil)) (gN 0) tTrue Z0Z 1 [0,1]) aNil)))
theorem one9:Lim 900 (1:Int):=Lim.of (by decide) (by decide)
theorem up900{i:Int}(h:Lim 300 i):Lim 900 i:=h.mono (by decide)
theorem Z4Y:∀ts Q,Z0u ts Q->Z2Z {nx:=fun _=>Q .non,rt:=Q} (startT 2 ts):=by
 rintro _ Q ⟨⟨t0,t1,t2⟩,⟨c0,c1,c2⟩,m,rfl,lt,lc,hm,lm,h⟩
 unfold Z2Z
 obtain⟨W0,hW0⟩:∃W,W=Z0Z:=⟨_,rfl⟩
 rw[← hW0]
 have c0:∀{xs cs:List T}{k X C:Int}{Q:T->Prop},atI xs k=some (fr X m)->atI cs k=some (.int C)->Lim 300 X->Lim 300 C->Q (fr (X - C * m) m)->W0 [.val (.int k),.val (.tup xs),.val (.tup cs)] Q:=fun {xs cs k X C Q} ex ec lX lC hQ=>by
  rw[hW0]
  unfold Z0Z
  walk_at "go"
  rw[ex]
  walk_at "go"
  rw[ec]
  walk_at "go"
  refine⟨X,m,C,1,congrArg (fun x=>[fr X m,x]) (fr_one C),⟨hm,by decide,up900 lX,up900 lm,up900 lC,one9⟩,?_⟩
  rw[Int.mul_one,Int.mul_one]
  exact hQ
 walk_at "go"
 refine c0 (atI0 _ _) (atI0 _ _) lt.1 lc.1 ?_
 walk_at "go"
 refine c0 (atI1 _ _ _) (atI1 _ _ _) lt.2.1 lc.2.1 ?_
 walk_at "go"
 refine c0 (atI2 _ _ _ _) (atI2 _ _ _ _) lt.2.2 lc.2.2 ?_
 walk_at "go"
 exact h
def Z0r:SpT:=fun ts Q=>∃(t n:Tr) (m:Int),ts=[pt t m,trT n]/\LimT 300 t/\LimT 300 n/\m≠0/\Lim 300 m/\Q (fr (dotI t n) m)
theorem Z4Z:∀ts Q,Z0r ts Q->ts.length=2:=by rintro ts Q ⟨_,_,_,e,_⟩;subst e;rfl
def Z1d:WE :=
 (wCall Z0a (aCons (w2 rIxTT (wVar 1) (wVar 0)) (aCons (wTup (aCons (w2 rIxTT (wVar 2) (wVar 0)) (aCons (wC (.int 1)) aNil))) aNil)))
def Z3k:WS :=
 (sSeq (sSet 2 (wComp (iRange1 (aCons (wC (.int 3)) aNil)) (gN 0) tTrue Z1d 1 [0,1]))
  (sRet (wCall Z0h (aCons (w2 rIxTT (wVar 2) (wC (.int 0))) (aCons (wCall Z0h (aCons (w2 rIxTT (wVar 2) (wC (.int 1))) (aCons (w2 rIxTT (wVar 2) (wC (.int 2))) aNil))) aNil)))))
theorem Z5y:∀ts Q,Z0r ts Q->Z3k {nx:=fun _=>Q .non,rt:=Q} (startT 3 ts):=by
 rintro _ Q ⟨⟨t0,t1,t2⟩,⟨n0,n1,n2⟩,m,rfl,⟨lt0,lt1,lt2⟩,⟨ln0,ln1,ln2⟩,hm,lm,h⟩
 simp only at lt0 lt1 lt2 ln0 ln1 ln2
 have up6:∀{i:Int},Lim (300 + 300) i->Lim 900 i:=fun h=>h.mono (by decide)
 unfold Z3k
 obtain⟨W0,hW0⟩:∃W,W=Z1d:=⟨_,rfl⟩
 rw[← hW0]
 have c0:∀{xs cs:List T}{k X C:Int}{Q:T->Prop},atI xs k=some (fr X m)->atI cs k=some (.int C)->Lim 300 X->Lim 300 C->Q (fr (X * C) m)->W0 [.val (.int k),.val (.tup xs),.val (.tup cs)] Q:=fun {xs cs k X C Q} ex ec lX lC hQ=>by
  rw[hW0]
  unfold Z1d
  walk_at "go"
  rw[ex]
  walk_at "go"
  rw[ec]
  walk_at "go"
  refine⟨X,m,C,1,congrArg (fun x=>[fr X m,x]) (fr_one C),⟨hm,by decide,up900 lX,up900 lm,up900 lC,one9⟩,?_⟩
  rw[Int.mul_one]
  exact hQ
 walk_at "go"
 refine c0 (atI0 _ _) (atI0 _ _) lt0 ln0 ?_
 walk_at "go"
 refine c0 (atI1 _ _ _) (atI1 _ _ _) lt1 ln1 ?_
 walk_at "go"
 refine c0 (atI2 _ _ _ _) (atI2 _ _ _ _) lt2 ln2 ?_
 walk_at "go"
 refine⟨t1 * n1,m,t2 * n2,m,rfl,⟨hm,hm,up6 (lt1.mul ln1),up900 lm,up6 (lt2.mul ln2),up900 lm⟩,?_⟩
 rw[fr_sum1 hm]
 walk_at "go"
 refine⟨t0 * n0,m,t1 * n1 + t2 * n2,m,rfl,⟨hm,hm,up6 (lt0.mul ln0),up900 lm,((lt1.mul ln1).add (lt2.mul ln2)).mono (by decide),up900 lm⟩,?_⟩
 rw[fr_sum1 hm]
 rw[show dotI (t0,t1,t2) (n0,n1,n2)=t0 * n0 + (t1 * n1 + t2 * n2) by simp only[dotI];omega]at h
 exact h
abbrev meet(c s o t d:Tr)(m:Int):Tr:=(dotI (tless t c m) (crs o d),dotI (tless t c m) (crs d s),m * dotI (crs s o) d)
def Z0v:SpT:=fun ts Q=>∃(c s o t d:Tr) (m:Int),ts=[ptl c s o,pt t m,trT d]/\(LimT 50 c/\LimT 50 s/\LimT 50 o/\LimT 100 d)/\LimT 150 t/\m≠0/\Lim 100 m ∧
 (dotI (crs s o) d=0->Q .non)/\(dotI (crs s o) d≠0->Q (hpl (meet c s o t d m)))
theorem Z4M:∀ts Q,Z0v ts Q->ts.length=3:=by rintro ts Q ⟨_,_,_,_,_,_,e,_⟩;subst e;rfl
def Z2m:WS :=
 (sSeq (sSet 3 (wCall Z0P (aCons (wCall Z0q (aCons (wVar 0) aNil)) (aCons (wVar 2) aNil))))
  (sSeq (sIf (tCmpT cEqT (wVar 3) (wC (.int 0))) (sRet (wC .non)) sNext)
  (sSeq (sSet 4 (wCall Z0u (aCons (wVar 1) (aCons (w2 rIxTT (wVar 0) (wC (.int 0))) aNil))))
  (sSeq (sSet 5 (wCall Z0r (aCons (wVar 4) (aCons (wCall Z0A (aCons (w2 rIxTT (wVar 0) (wC (.int 2))) (aCons (wVar 2) aNil))) aNil))))
  (sSeq (sSet 6 (wCall Z0r (aCons (wVar 4) (aCons (wCall Z0A (aCons (wVar 2) (aCons (w2 rIxTT (wVar 0) (wC (.int 1))) aNil))) aNil))))
  (sRet (wTup (aCons (wCall Z15 (aCons (wVar 5) (aCons (wTup (aCons (wVar 3) (aCons (wC (.int 1)) aNil))) aNil))) (aCons (wCall Z15 (aCons (wVar 6) (aCons (wTup (aCons (wVar 3) (aCons (wC (.int 1)) aNil))) aNil))) aNil)))))))))
theorem Z50:∀ts Q,Z0v ts Q->Z2m {nx:=fun _=>Q .non,rt:=Q} (startT 7 ts):=by
 rintro _ Q ⟨c,s,o,t,d,m,rfl,⟨lc,ls,lo,ld⟩,lt,hm,lm,h0,h1⟩
 have lF:=lim_crs ls lo (k:=101) (by decide)
 have lW:=lim_dotI lF ld (k:=203) (by decide)
 have lB:=lim_tless (lt.mono (show 150<=150 by decide)) (lc.mono (show 50<=150 by decide)) lm (n:=251) (by decide)
 have lod:=lim_crs lo ld (k:=151) (by decide)
 have lds:=lim_crs ld ls (k:=151) (by decide)
 have lS:=lim_dotI lB lod (k:=404) (by decide)
 have lT:=lim_dotI lB lds (k:=404) (by decide)
 unfold Z2m
 walk_at "go"
 refine⟨_,s,o,rfl,ls.mono (by decide),lo.mono (by decide),?_⟩
 walk_at "go"
 refine⟨crs s o,d,rfl,lF.mono (by decide),ld.mono (by decide),?_⟩
 walk_at "go"
 refine⟨fun z=>?_,fun z=>?_⟩
 ·walk_at "go"
  exact h0 (of_decide_eq_true z)
 ·have hW:=of_decide_eq_false z
  have q:=h1 hW
  walk_at "go"
  refine⟨t,c,m,rfl,lt.mono (by decide),lc.mono (by decide),hm,lm.mono (by decide),?_⟩
  walk_at "go"
  refine⟨o,d,rfl,lo.mono (by decide),ld.mono (by decide),?_⟩
  walk_at "go"
  refine⟨tless t c m,crs o d,m,rfl,lB.mono (by decide),lod.mono (by decide),hm,lm.mono (by decide),?_⟩
  walk_at "go"
  refine⟨d,s,rfl,ld.mono (by decide),ls.mono (by decide),?_⟩
  walk_at "go"
  refine⟨tless t c m,crs d s,m,rfl,lB.mono (by decide),lds.mono (by decide),hm,lm.mono (by decide),?_⟩
  walk_at "go"
  refine⟨_,m,dotI (crs s o) d,1,congrArg (fun x=>[fr (dotI (tless t c m) (crs o d)) m,x]) (fr_one _),⟨hm,by decide,lS.mono (by decide),lm.mono (by decide),lW.mono (by decide),one9⟩,hW,?_⟩
  rw[Int.mul_one]
  walk_at "go"
  refine⟨_,m,dotI (crs s o) d,1,congrArg (fun x=>[fr (dotI (tless t c m) (crs d s)) m,x]) (fr_one _),⟨hm,by decide,lT.mono (by decide),lm.mono (by decide),lW.mono (by decide),one9⟩,hW,?_⟩
  rw[Int.mul_one]
  walk_at "go"
  exact q
def Z0d:SpT:=fun ts Q=>∃(t:T) (s o d:Tr),ts=[.tup [t,trT s,trT o],trT d]/\(LimT 50 s/\LimT 50 o/\LimT 100 d)/\Q (.bl (decide (0 < dotI (crs s o) d)))
theorem Z3u:∀ts Q,Z0d ts Q->ts.length=2:=by rintro ts Q ⟨_,_,_,_,e,_⟩;subst e;rfl
def Z0W:WS :=
 (sRet (wCmp cGtT (wCall Z0P (aCons (wCall Z0q (aCons (wVar 0) aNil)) (aCons (wVar 1) aNil))) (wC (.int 0))))
theorem Z3x:∀ts Q,Z0d ts Q->Z0W {nx:=fun _=>Q .non,rt:=Q} (startT 2 ts):=by
 rintro _ Q ⟨t,s,o,d,rfl,⟨ls,lo,ld⟩,h⟩
 have lF:=lim_crs ls lo (k:=101) (by decide)
 unfold Z0W
 walk_at "go"
 refine⟨_,s,o,rfl,ls.mono (by decide),lo.mono (by decide),?_⟩
 walk_at "go"
 refine⟨crs s o,d,rfl,lF.mono (by decide),ld.mono (by decide),?_⟩
 walk_at "go"
 exact h
def Z1v:SpT:=fun ts Q=>∃t:Tr,ts=[trT t]/\Q (pt t 1)
theorem Z5z:∀ts Q,Z1v ts Q->ts.length=1:=by rintro ts Q ⟨_,e,_⟩;subst e;rfl
def Z3y:WS :=
 (sRet (wCB rTupleT (aCons (wComp (iSeq (wVar 0)) (gN 0) tTrue (wTup (aCons (wVar 0) (aCons (wC (.int 1)) aNil))) 1 []) aNil)))
theorem Z5U:∀ts Q,Z1v ts Q->Z3y {nx:=fun _=>Q .non,rt:=Q} (startT 1 ts):=by
 rintro _ Q ⟨⟨a,b,c⟩,rfl,h⟩
 simp only[pt,← fr_one]at h
 unfold Z3y
 walk_at "go"
 exact h
def Z1f:SpT:=fun ts Q=>∃(c s o t d:Tr),ts=[ptl c s o,trT t,trT d]/\(LimT 50 c/\LimT 50 s/\LimT 50 o/\LimT 100 d)/\LimT 150 t ∧
 (¬ 0 < dotI (crs s o) d->Q .non)/\(0 < dotI (crs s o) d->Q (hpl (meet c s o t d 1)))
theorem Z51:∀ts Q,Z1f ts Q->ts.length=3:=by rintro ts Q ⟨_,_,_,_,_,e,_⟩;subst e;rfl
def Z2D:WS :=
 (sSeq (sIf (tNotT (tVal (wCall Z0d (aCons (wVar 0) (aCons (wVar 2) aNil))))) (sRet (wC .non)) sNext)
  (sRet (wCall Z0v (aCons (wVar 0) (aCons (wCall Z1v (aCons (wVar 1) aNil)) (aCons (wVar 2) aNil))))))
theorem Z5A:∀ts Q,Z1f ts Q->Z2D {nx:=fun _=>Q .non,rt:=Q} (startT 3 ts):=by
 rintro _ Q ⟨c,s,o,t,d,rfl,⟨lc,ls,lo,ld⟩,lt,h0,h1⟩
 unfold Z2D
 walk_at "go"
 refine⟨_,s,o,d,rfl,⟨ls,lo,ld⟩,?_⟩
 by_cases z:0 < dotI (crs s o) d
 ·rw[decide_eq_true z]
  walk_at "go"
  refine⟨t,rfl,?_⟩
  walk_at "go"
  exact⟨c,s,o,t,d,1,rfl,⟨lc,ls,lo,ld⟩,lt,by decide,Lim.of (by decide) (by decide),fun e=>absurd z (by omega),fun _=>h1 z⟩
 ·rw[decide_eq_false z]
  walk_at "go"
  exact h0 z
abbrev pl2(s p t q:Int):T:=.tup [fr s p,fr t q]
abbrev spot(a d e s p t q:Int):Int:=a * (p * q) + (s * d * q + t * e * p)
def Z1g:SpT:=fun ts Q=>∃(as ds es:List T) (s p t q k a d e:Int),ts=[.tup [.tup as,.tup ds,.tup es],pl2 s p t q,.int k]/\atI as k=some (.int a)/\atI ds k=some (.int d)/\atI es k=some (.int e)/\Two 100 s p t q/\(Lim 100 a/\Lim 100 d/\Lim 100 e)/\Q (fr (spot a d e s p t q) (p * q))
theorem Z52:∀ts Q,Z1g ts Q->ts.length=3:=by rintro ts Q ⟨_,_,_,_,_,_,_,_,_,_,_,e,_⟩;subst e;rfl
def Z2E:WS :=
 (sSeq (sSet 3 (wCall Z0a (aCons (w2 rIxTT (wVar 1) (wC (.int 0))) (aCons (wTup (aCons (w2 rIxTT (w2 rIxTT (wVar 0) (wC (.int 1))) (wVar 2)) (aCons (wC (.int 1)) aNil))) aNil))))
  (sSeq (sSet 4 (wCall Z0a (aCons (w2 rIxTT (wVar 1) (wC (.int 1))) (aCons (wTup (aCons (w2 rIxTT (w2 rIxTT (wVar 0) (wC (.int 2))) (wVar 2)) (aCons (wC (.int 1)) aNil))) aNil))))
  (sRet (wCall Z0h (aCons (wTup (aCons (w2 rIxTT (w2 rIxTT (wVar 0) (wC (.int 0))) (wVar 2)) (aCons (wC (.int 1)) aNil))) (aCons (wCall Z0h (aCons (wVar 3) (aCons (wVar 4) aNil))) aNil))))))
theorem spot_eq{a d e s p t q:Int}(hp:p≠0)(hq:q≠0):fr (a * (p * 1 * (q * 1)) + (s * d * (q * 1) + t * e * (p * 1)) * 1) (1 * (p * 1 * (q * 1)))=fr (spot a d e s p t q) (p * q):=by
 simp only[Int.mul_one,Int.one_mul]
theorem Z5B:∀ts Q,Z1g ts Q->Z2E {nx:=fun _=>Q .non,rt:=Q} (startT 5 ts):=by
 rintro _ Q ⟨as,ds,es,s,p,t,q,k,a,d,e,rfl,ea,ed,ee,⟨hp,hq,ls,lp,lt,lq⟩,⟨la,ld,le⟩,h⟩
 have up:∀{i:Int},Lim 100 i->Lim 900 i:=fun h=>h.mono (by decide)
 have l1:Lim 900 (1:Int):=Lim.of (by decide) (by decide)
 have p1:p * 1≠0:=by rw[Int.mul_one];exact hp
 have q1:q * 1≠0:=by rw[Int.mul_one];exact hq
 have lp1:Lim 100 (p * 1):=by rw[Int.mul_one];exact lp
 have lq1:Lim 100 (q * 1):=by rw[Int.mul_one];exact lq
 unfold Z2E
 walk_at "go"
 rw[ed]
 walk_at "go"
 refine⟨s,p,d,1,congrArg (fun x=>[fr s p,x]) (fr_one d),⟨hp,by decide,up ls,up lp,up ld,l1⟩,?_⟩
 walk_at "go"
 rw[ee]
 walk_at "go"
 refine⟨t,q,e,1,congrArg (fun x=>[fr t q,x]) (fr_one e),⟨hq,by decide,up lt,up lq,up le,l1⟩,?_⟩
 walk_at "go"
 rw[ea]
 walk_at "go"
 refine⟨s * d,p * 1,t * e,q * 1,rfl,⟨p1,q1,(ls.mul ld).mono (by decide),up lp1,(lt.mul le).mono (by decide),up lq1⟩,?_⟩
 walk_at "go"
 refine⟨a,1,_,_,congrArg (fun x=>[x,_]) (fr_one a),⟨by decide,Int.mul_ne_zero p1 q1,up la,l1,(((ls.mul ld).mul lq1).add ((lt.mul le).mul lp1)).mono (by decide),(lp1.mul lq1).mono (by decide)⟩,?_⟩
 rw[spot_eq hp hq]
 exact h
def Z1w:SpT:=fun ts Q=>∃(a b c d e f x y z s p t q:Int),ts=[plt a b c d e f x y z,pl2 s p t q]/\Two 100 s p t q/\(Lim3 100 a b c/\Lim3 100 d e f/\Lim3 100 x y z)/\Q (.tup [fr (spot a d x s p t q) (p * q),fr (spot b e y s p t q) (p * q),fr (spot c f z s p t q) (p * q)])
theorem Z5C:∀ts Q,Z1w ts Q->ts.length=2:=by rintro ts Q ⟨_,_,_,_,_,_,_,_,_,_,_,_,_,e,_⟩;subst e;rfl
def Z3z:WS :=
 (sRet (wCB rTupleT (aCons (wComp (iRange1 (aCons (wC (.int 3)) aNil)) (gN 0) tTrue (wCall Z1g (aCons (wVar 1) (aCons (wVar 2) (aCons (wVar 0) aNil)))) 1 [0,1]) aNil)))
theorem Z5V:∀ts Q,Z1w ts Q->Z3z {nx:=fun _=>Q .non,rt:=Q} (startT 2 ts):=by
 rintro _ Q ⟨a,b,c,d,e,f,x,y,z,s,p,t,q,rfl,tw,⟨⟨la,lb,lc⟩,⟨ld,le,lf⟩,⟨lx,ly,lz⟩⟩,h⟩
 unfold Z3z
 walk_at "go"
 refine⟨_,_,_,s,p,t,q,0,a,d,x,rfl,atI0 _ _,atI0 _ _,atI0 _ _,tw,⟨la,ld,lx⟩,?_⟩
 walk_at "go"
 refine⟨_,_,_,s,p,t,q,0 + 1,b,e,y,rfl,atI1 _ _ _,atI1 _ _ _,atI1 _ _ _,tw,⟨lb,le,ly⟩,?_⟩
 walk_at "go"
 refine⟨_,_,_,s,p,t,q,0 + 1 + 1,c,f,z,rfl,atI2 _ _ _ _,atI2 _ _ _ _,atI2 _ _ _ _,tw,⟨lc,lf,lz⟩,?_⟩
 walk_at "go"
 exact h
def on1(p q:Int):Bool:=decide (0<=p)&&decide (p<=q)
def onF(h:Tr):Bool:=on1 (frN h.1 h.2.2) (frD h.1 h.2.2)&&on1 (frN h.2.1 h.2.2) (frD h.2.1 h.2.2)
def Z14:SpT:=fun ts Q=>∃h:Tr,ts=[hpl h]/\Q (.bl (onF h))
theorem Z5W:∀ts Q,Z14 ts Q->ts.length=1:=by rintro ts Q ⟨_,e,_⟩;subst e;rfl
def Z1h:WE :=
 (wChain cLeT cLeT (wC (.int 0)) (w2 rIxTT (wVar 0) (wC (.int 0))) (w2 rIxTT (wVar 0) (wC (.int 1))))
def Z3W:WS :=
 (sRet (wCB rAllT (aCons (wComp (iSeq (wVar 0)) (gN 0) tTrue Z1h 1 []) aNil)))
theorem lies_c0{n m:Int}{r:List Slot}{k:T->Prop}(h:k (.bl (on1 (frN n m) (frD n m)))):Z1h (.val (fr n m)::r) k:=by
 unfold Z1h
 unfold on1 at h
 walk_at "go"
 refine⟨fun e=>?_,fun e=>?_⟩
 ·rw[e]at h
  walk_at "go"
  simpa using h
 ·rw[e]at h
  simpa using h
theorem Z6d:∀ts Q,Z14 ts Q->Z3W {nx:=fun _=>Q .non,rt:=Q} (startT 1 ts):=by
 rintro _ Q ⟨h,rfl,hQ⟩
 unfold Z3W
 obtain⟨W0,hW0⟩:∃W,W=Z1h:=⟨_,rfl⟩
 rw[← hW0]
 walk_at "go"
 refine Eq.mpr (congrFun (congrFun hW0 _) _) ?_
 refine lies_c0 ?_
 walk_at "go"
 refine Eq.mpr (congrFun (congrFun hW0 _) _) ?_
 refine lies_c0 ?_
 walk_at "go"
 simpa [onF] using hQ
def goF(c s o t:Tr)(m:Int)(d:Tr):Bool:=decide (frN (dotI (tless t c m) (crs s o)) m * dotI (crs s o) d < 0)
def Z0D:SpT:=fun ts Q=>∃(c s o t d:Tr) (m:Int),ts=[ptl c s o,pt t m,trT d]/\(LimT 50 c/\LimT 50 s/\LimT 50 o/\LimT 100 d)/\LimT 150 t/\m≠0/\Lim 100 m/\Q (.bl (goF c s o t m d))
theorem Z41:∀ts Q,Z0D ts Q->ts.length=3:=by rintro ts Q ⟨_,_,_,_,_,_,e,_⟩;subst e;rfl
def Z1L:WS :=
 (sSeq (sSet 3 (wCall Z0q (aCons (wVar 0) aNil)))
  (sSeq (sSet 4 (wCall Z0r (aCons (wCall Z0u (aCons (wVar 1) (aCons (w2 rIxTT (wVar 0) (wC (.int 0))) aNil))) (aCons (wVar 3) aNil))))
  (sRet (wCmp cLtT (w2 rMulT (w2 rIxTT (wVar 4) (wC (.int 0))) (wCall Z0P (aCons (wVar 3) (aCons (wVar 2) aNil)))) (wC (.int 0))))))
theorem Z4q:∀ts Q,Z0D ts Q->Z1L {nx:=fun _=>Q .non,rt:=Q} (startT 5 ts):=by
 rintro _ Q ⟨c,s,o,t,d,m,rfl,⟨lc,ls,lo,ld⟩,lt,hm,lm,h⟩
 have lF:=lim_crs ls lo (k:=101) (by decide)
 have lW:=lim_dotI lF ld (k:=203) (by decide)
 have lB:=lim_tless (lt.mono (show 150<=150 by decide)) (lc.mono (show 50<=150 by decide)) lm (n:=251) (by decide)
 have lS:=lim_dotI lB lF (k:=354) (by decide)
 have lN:=frN_lim hm lS
 have mk:=mulOk lN lW
 unfold Z1L
 walk_at "go"
 refine⟨_,s,o,rfl,ls.mono (by decide),lo.mono (by decide),?_⟩
 walk_at "go"
 refine⟨t,c,m,rfl,lt.mono (by decide),lc.mono (by decide),hm,lm.mono (by decide),?_⟩
 walk_at "go"
 refine⟨tless t c m,crs s o,m,rfl,lB.mono (by decide),lF.mono (by decide),hm,lm.mono (by decide),?_⟩
 walk_at "go"
 refine⟨crs s o,d,rfl,lF.mono (by decide),ld.mono (by decide),?_⟩
 walk_at "go"
 exact h
theorem goF_ne{c s o t d:Tr}{m:Int}(h:goF c s o t m d=true):dotI (crs s o) d≠0:=fun z=>by
 unfold goF at h
 rw[z,Int.mul_zero]at h
 exact absurd (of_decide_eq_true h) (by decide)
def hidF(c s o t:Tr)(m:Int)(d:Tr):Bool:=goF c s o t m d&&onF (meet c s o t d m)
def Z0n:SpT:=fun ts Q=>∃(c s o t d:Tr) (m:Int),ts=[ptl c s o,pt t m,trT d]/\(LimT 50 c/\LimT 50 s/\LimT 50 o/\LimT 100 d)/\LimT 150 t/\m≠0/\Lim 100 m/\Q (.bl (hidF c s o t m d))
theorem Z4r:∀ts Q,Z0n ts Q->ts.length=3:=by rintro ts Q ⟨_,_,_,_,_,_,e,_⟩;subst e;rfl
def Z1Y:WS :=
 (sRet (wAndV (wCall Z0D (aCons (wVar 0) (aCons (wVar 1) (aCons (wVar 2) aNil)))) (wCall Z14 (aCons (wCall Z0v (aCons (wVar 0) (aCons (wVar 1) (aCons (wVar 2) aNil)))) aNil))))
theorem Z4N:∀ts Q,Z0n ts Q->Z1Y {nx:=fun _=>Q .non,rt:=Q} (startT 3 ts):=by
 rintro _ Q ⟨c,s,o,t,d,m,rfl,L,lt,hm,lm,h⟩
 unfold hidF at h
 unfold Z1Y
 walk_at "go"
 refine⟨c,s,o,t,d,m,rfl,L,lt,hm,lm,?_⟩
 cases e:goF c s o t m d with
 | false =>
  rw[e]at h
  walk_at "go"
  exact h
 | true =>
  rw[e]at h
  walk_at "go"
  refine⟨c,s,o,t,d,m,rfl,L,lt,hm,lm,fun z=>absurd z (goF_ne e),fun _=>?_⟩
  walk_at "go"
  exact⟨_,rfl,h⟩
abbrev Pl:=Tr×Tr×Tr
abbrev plT(p:Pl):T:=ptl p.1 p.2.1 p.2.2
abbrev PlLim(k:Nat)(p:Pl):Prop:=LimT k p.1/\LimT k p.2.1/\LimT k p.2.2
theorem PlLim.mono{k k':Nat}{p:Pl}(h:PlLim k p)(hk:k<=k'):PlLim k' p:=⟨h.1.mono hk,h.2.1.mono hk,h.2.2.mono hk⟩
abbrev Th:=Str×Pl×Option Tr
def thT:Th->T
 | (n,p,none)=>.tup [.str n,plT p]
 | (n,p,some t)=>.tup [.str n,plT p,trT t]
abbrev sT(e:Int×Tr):T:=.tup [.int e.1,trT e.2]
abbrev SOk(a:Str):Prop:=PyData.strOk a=true
theorem eqOk_str{a b:Str}(ha:SOk a)(hb:SOk b):EqOk (.str a) (.str b):=by
 refine⟨by simpa [plain,pd,PyData.canLay0] using ha,by simpa [plain,pd,PyData.canLay0] using hb,by simp[dep,pd,PyData.depth]⟩
theorem eqT_str(a b:Str):eqT (.str a) (.str b)=decide (a=b):=by
 rw[eqTf]
 by_cases h:a=b
 ·subst h;simp
 ·rw[decide_eq_false h];exact beq_eq_false_iff_ne.mpr h
abbrev sunAt(sun:List (Int×Tr))(h:Int):Option (Int×Tr):=sun.find? fun e=>decide (e.1=h)
def Z02:SpT:=fun ts Q=>∃(sun:List (Int×Tr)) (h:Int),ts=[.lst (sun.map sT),.int h]/\h.natAbs.log2 < 1920/\(match sunAt sun h with|some e=>Q (trT e.2)|none=>False)
theorem Z42:∀ts Q,Z02 ts Q->ts.length=2:=by rintro ts Q ⟨_,_,e,_⟩;subst e;rfl
def Z03:WS :=
 (sIf (tCmpT cEqT (w2 rIxTT (wVar 2) (wC (.int 0))) (wVar 1)) (sRet (w2 rIxTT (wVar 2) (wC (.int 1)))) sNext)
def Z0b:WS :=
 sNever
def Z2t:WS :=
 (sSeq (sIf (tVal (wCall Z0z (aCons (wVar 1) aNil))) (sFor (iSeq (wVar 0)) (gN 2) Z03) sNext)
  Z0b)
theorem dat_loop{Q:T->Prop}{x:Slot}{g:Int}:∀(rs:List (Int×Tr))(s2:Slot)(N:List Slot->Prop),(match sunAt rs g with|some r=>Q (trT r.2)|none=>∀s2,N [x,.val (.int g),s2]) →
  forT (gN 2) (Z03) (rs.map sT) {nx:=N,rt:=Q} [x,.val (.int g),s2]
 | [],s2,N,h=>by
  simp only[List.map,forT]
  exact h s2
 | r::rs,s2,N,h=>by
  have ih:=fun s2=>dat_loop (Q:=Q) (x:=x) (g:=g) rs s2 N
  simp only[List.map,forT]
  generalize forT (gN 2) (Z03) (rs.map sT) {nx:=N,rt:=Q}=F at ih ⊢
  unfold Z03
  walk_at "go"
  refine⟨fun c=>?_,fun c=>?_⟩
  ·have e:sunAt (r::rs) g=some r:=List.find?_cons_of_pos c
   rw[e]at h
   walk_at "go"
   exact h
  ·have e:sunAt (r::rs) g=sunAt rs g:=List.find?_cons_of_neg (by rw[c];exact Bool.false_ne_true)
   rw[e]at h
   exact ih _ h
theorem Z4s:∀ts Q,Z02 ts Q->Z2t {nx:=fun _=>Q .non,rt:=Q} (startT 3 ts):=by
 rintro _ Q ⟨rs,g,rfl,lg,h⟩
 unfold Z2t
 obtain⟨W0,hW0⟩:∃W,W=Z03:=⟨_,rfl⟩
 obtain⟨W1,hW1⟩:∃W,W=Z0b:=⟨_,rfl⟩
 rw[← hW0,← hW1]
 walk_at "go"
 refine⟨_,rfl,trivial,?_⟩
 walk_at "tw"
 rw[hW0]
 refine⟨fun _=>dat_loop rs _ _ ?_,fun z=>by cases z⟩
 cases q:sunAt rs g with
 | some r=>rw[q]at h;exact h
 | none =>
  rw[q]at h
  intro s2
  rw[hW1]
  unfold Z0b
  walk_at "go"
  exact h
def Z2F:SpT:=fun ts Q=>∃(sun:List (Int×Tr)) (h:Int),ts=[.lst (sun.map sT),.int h]/\h.natAbs.log2 < 1920/\(match sunAt sun h with|some e=>Q (.bl (decide (e.2.2.2 > 0)))|none=>False)
theorem Z6t:∀ts Q,Z2F ts Q->ts.length=2:=by rintro ts Q ⟨_,_,e,_⟩;subst e;rfl
def Z43:WS :=
 (sRet (wCmp cGtT (w2 rIxTT (wCall Z02 (aCons (wVar 0) (aCons (wVar 1) aNil))) (wC (.int 2))) (wC (.int 0))))
theorem Z6T:∀ts Q,Z2F ts Q->Z43 {nx:=fun _=>Q .non,rt:=Q} (startT 2 ts):=by
 rintro _ Q ⟨rs,g,rfl,lg,h⟩
 unfold Z43
 walk_at "go"
 refine⟨rs,g,rfl,lg,?_⟩
 cases q:sunAt rs g with
 | some r =>
  rw[q]at h
  walk_at "go"
  exact h
 | none=>rw[q]at h;exact h
abbrev dialAt(ds:List Th)(n:Str):Option Th:=ds.find? fun t=>decide (t.1=n)
def Z1Q:SpT:=fun ts Q=>∃(s0 s1:T) (ds:List Th) (n:Str),ts=[.tup [s0,s1,.lst (ds.map thT)],.str n]/\SOk n/\(∀t∈ds,SOk t.1)/\(match dialAt ds n with|some d=>Q (thT d)|none=>False)
theorem Z5X:∀ts Q,Z1Q ts Q->ts.length=2:=by rintro ts Q ⟨_,_,_,_,e,_⟩;subst e;rfl
def Z0s:WS :=
 (sIf (tCmpT cEqT (w2 rIxTT (wVar 2) (wC (.int 0))) (wVar 1)) (sRet (wVar 2)) sNext)
def Z0Q:WS :=
 sNever
def Z3X:WS :=
 (sSeq (sIf (tVal (wIsi .str (wVar 1))) (sFor (iSeq (w2 rIxTT (wVar 0) (wC (.int 2)))) (gN 2) Z0s) sNext)
  Z0Q)
theorem dof_loop{Q:T->Prop}{x:Slot}{n:Str}(hn:SOk n):∀(ds:List Th)(s2:Slot)(N:List Slot->Prop),(∀t∈ds,SOk t.1)->(match dialAt ds n with|some r=>Q (thT r)|none=>∀s2,N [x,.val (.str n),s2]) →
  forT (gN 2) (Z0s) (ds.map thT) {nx:=N,rt:=Q} [x,.val (.str n),s2]
 | [],s2,N,_,h=>by
  simp only[List.map,forT]
  exact h s2
 | r::rs,s2,N,hs,h=>by
  have hx:=hs r List.mem_cons_self
  have ih:=fun s2=>dof_loop (Q:=Q) (x:=x) hn rs s2 N fun t ht=>hs t (List.mem_cons_of_mem _ ht)
  simp only[List.map,forT]
  generalize forT (gN 2) (Z0s) (rs.map thT) {nx:=N,rt:=Q}=F at ih ⊢
  unfold Z0s
  have key:(decide (r.1=n)=true->Q (thT r))/\(decide (r.1=n)=false->∀s2,F [x,.val (.str n),s2]):=by
   refine⟨fun c=>?_,fun c s2=>?_⟩
   ·have e:dialAt (r::rs) n=some r:=List.find?_cons_of_pos c
    rw[e]at h
    exact h
   ·have e:dialAt (r::rs) n=dialAt rs n:=List.find?_cons_of_neg (by rw[c];exact Bool.false_ne_true)
    rw[e]at h
    exact ih _ h
  obtain⟨xn,xp,xt⟩:=r
  cases xt <;>
  ·simp only[thT]at key ⊢
   walk_at "go"
   refine⟨eqOk_str hx hn,?_⟩
   rw[eqT_str]
   refine⟨fun c=>?_,fun c=>?_⟩
   ·have z:=key.1 c
    walk_at "go"
    exact z
   ·exact key.2 c _
theorem Z6e:∀ts Q,Z1Q ts Q->Z3X {nx:=fun _=>Q .non,rt:=Q} (startT 3 ts):=by
 rintro _ Q ⟨s0,s1,ds,n,rfl,hn,hs,h⟩
 unfold Z3X
 obtain⟨W0,hW0⟩:∃W,W=Z0s:=⟨_,rfl⟩
 obtain⟨W1,hW1⟩:∃W,W=Z0Q:=⟨_,rfl⟩
 rw[← hW0,← hW1]
 walk_at "tw"
 rw[hW0]
 refine⟨fun _=>dof_loop hn ds _ _ hs ?_,fun z=>by cases z⟩
 cases q:dialAt ds n with
 | some r=>rw[q]at h;exact h
 | none =>
  rw[q]at h
  intro s2
  rw[hW1]
  unfold Z0Q
  walk_at "go"
  exact h
theorem lt_tri:∀a b:List Nat,PySem.Spec.ltCps a b=false->PySem.Spec.ltCps b a=false->a=b
 | [],[],_,_=>rfl
 | [],_::_,h,_=>by simp[PySem.Spec.ltCps]at h
 | _::_,[],_,h=>by simp[PySem.Spec.ltCps]at h
 | a::r,b::t,h,h'=>by
  simp only[PySem.Spec.ltCps,Bool.or_eq_false_iff,Bool.and_eq_false_iff,decide_eq_false_iff_not]at h h'
  have e:a=b:=by omega
  subst e
  have h1:=h.2.resolve_left (by simp)
  have h2:=h'.2.resolve_left (by simp)
  rw[lt_tri r t h1 h2]
theorem le_trans3:∀a b c:List Nat,PySem.Spec.ltCps b a=false->PySem.Spec.ltCps c b=false->PySem.Spec.ltCps c a=false
 | [],_,[],_,_=>rfl
 | [],_,_::_,_,_=>rfl
 | _::_,[],_,h,_=>by simp[PySem.Spec.ltCps]at h
 | _::_,_::_,[],_,h=>by simp[PySem.Spec.ltCps]at h
 | a::r,b::t,c::u,h,h'=>by
  simp only[PySem.Spec.ltCps,Bool.or_eq_false_iff,Bool.and_eq_false_iff,decide_eq_false_iff_not]at h h' ⊢
  refine⟨by omega,?_⟩
  by_cases e:c=a
  ·subst e
   have e2:b=c:=by omega
   subst e2
   exact .inr (le_trans3 r t u (h.2.resolve_left (by simp)) (h'.2.resolve_left (by simp)))
  ·exact .inl (by simpa using e)
def LeS(a b:Str):Prop:=PySem.Spec.ltCps b.cps.toList a.cps.toList=false
theorem str_ext{a b:Str}(h:a.cps.toList=b.cps.toList):a=b:=by
 cases a
 cases b
 simpa using h
theorem LeS.anti{a b:Str}(h:LeS a b)(h':LeS b a):a=b:=str_ext (lt_tri _ _ h' h)
theorem rising_pw:∀(l:List Str)(p:Str),risingS p l=true->(p::l).Pairwise LeS
 | [],p,_=>by simp
 | x::r,p,h=>by
  simp only[risingS,Bool.and_eq_true,Bool.not_eq_true']at h
  have ih:=rising_pw r x h.2
  refine List.pairwise_cons.mpr ⟨fun y hy=>?_,ih⟩
  rcases List.mem_cons.mp hy with e|hy
  ·subst e
   exact h.1
  ·exact le_trans3 _ _ _ h.1 ((List.pairwise_cons.mp ih).1 y hy)
theorem sorted_pw{l:List Str}(h:sortedS l=true):l.Pairwise LeS:=by
 cases l with
 | nil=>exact List.Pairwise.nil
 | cons x r=>exact rising_pw r x h
theorem sorted_uniq:∀{us vs:List Str},us.Perm vs->us.Pairwise LeS->vs.Pairwise LeS->us=vs
 | [],vs,h,_,_=>by
  have:=h.length_eq
  cases vs with
  | nil=>rfl
  | cons v r=>simp at this
 | u::us,[],h,_,_=>by
  have:=h.length_eq
  simp at this
 | u::us,v::vs,h,hu,hv=>by
  have hu':=List.pairwise_cons.mp hu
  have hv':=List.pairwise_cons.mp hv
  have e:u=v:=by
   have m1:u∈v::vs:=h.mem_iff.mp List.mem_cons_self
   have m2:v∈u::us:=h.mem_iff.mpr List.mem_cons_self
   rcases List.mem_cons.mp m1 with e|m1
   ·exact e
   ·rcases List.mem_cons.mp m2 with e|m2
    ·exact e.symm
    ·exact LeS.anti (hu'.1 v m2) (hv'.1 u m1)
  subst e
  rw[sorted_uniq h.cons_inv hu'.2 hv'.2]
open Classical in
noncomputable def srt(N:List Str):List Str:=if h:∃us:List Str,us.Perm N/\us.Pairwise LeS then h.choose else []
theorem srt_of{us N:List Str}(hp:us.Perm N)(hs:us.Pairwise LeS):srt N=us:=by
 have h:∃us:List Str,us.Perm N/\us.Pairwise LeS:=⟨us,hp,hs⟩
 unfold srt
 rw[dif_pos h]
 exact sorted_uniq (h.choose_spec.1.trans hp.symm) h.choose_spec.2 hs
abbrev ptOf(p:Pl)(h:Tr):Tr:=(spot p.1.1 p.2.1.1 p.2.2.1 h.1 h.2.2 h.2.1 h.2.2,spot p.1.2.1 p.2.1.2.1 p.2.2.2.1 h.1 h.2.2 h.2.1 h.2.2,spot p.1.2.2 p.2.1.2.2 p.2.2.2.2 h.1 h.2.2 h.2.1 h.2.2)
abbrev others(n:Str)(L:List Th):List Th:=L.filter fun t=>!decide (t.1=n)
abbrev hidP(p:Tr)(m:Int)(d:Tr)(t:Th):Bool:=hidF t.2.1.1 t.2.1.2.1 t.2.1.2.2 p m d
def hidN(p:Tr)(m:Int)(d:Tr)(n:Str)(L:List Th):List Str:=((others n L).filter (hidP p m d)).map (·.1)
def Z0E:SpT:=fun ts Q=>∃(s0:T) (ws ds:List Th) (t:Th) (h d:Tr),ts=[.tup [s0,.lst (ws.map thT),.lst (ds.map thT)],thT t,hpl h,trT d] ∧
 h.2.2≠0/\LimT 36 h/\PlLim 20 t.2.1/\LimT 60 d/\SOk t.1/\(∀t∈ws++ds,SOk t.1/\PlLim 20 t.2.1)/\(ws++ds).length < 64/\Q (.lst ((srt (hidN (ptOf t.2.1 h) (h.2.2 * h.2.2) d t.1 (ws++ds))).map T.str))
theorem Z44:∀ts Q,Z0E ts Q->ts.length=4:=by rintro ts Q ⟨_,_,_,_,_,_,e,_⟩;subst e;rfl
def Z2u:WS :=
 (sSeq (sSet 4 (wCall Z1w (aCons (w2 rIxTT (wVar 1) (wC (.int 1))) (aCons (wVar 2) aNil))))
  (sSeq (sSet 5 (wComp (iSeq (w2 rCatLT (w2 rIxTT (wVar 0) (wC (.int 1))) (w2 rIxTT (wVar 0) (wC (.int 2))))) (gN 0) (tCmpT cNeT (w2 rIxTT (wVar 0) (wC (.int 0))) (w2 rIxTT (wVar 1) (wC (.int 0)))) (wVar 0) 1 [1]))
  (sRet (wCB rSortT (aCons (wComp (iSeq (wVar 5)) (gN 0) (tVal (wCall Z0n (aCons (w2 rIxTT (wVar 0) (wC (.int 1))) (aCons (wVar 1) (aCons (wVar 2) aNil))))) (w2 rIxTT (wVar 0) (wC (.int 0))) 1 [4,3]) aNil)))))
abbrev tO1:WT:=tCmpT cNeT (w2 rIxTT (wVar 0) (wC (.int 0))) (w2 rIxTT (wVar 1) (wC (.int 0)))
abbrev tO2:WT:=tVal (wCall Z0n (aCons (w2 rIxTT (wVar 0) (wC (.int 1))) (aCons (wVar 1) (aCons (wVar 2) aNil))))
theorem oth_comp{Q:List T->Prop}{n:Str}{pl:Pl}{o:Option Tr}(hn:SOk n):∀(L:List Th)(acc:List T)(s:Slot),(∀t∈L,SOk t.1)->Q (acc++(others n L).map thT) →
  compT (gN 0) tO1 (wVar 0) (L.map thT) acc [s,.val (thT (n,pl,o))] Q
 | [],acc,s,_,h=>by
  simp only[others,List.filter_nil,List.map_nil,List.append_nil]at h
  exact h
 | x::r,acc,s,hs,h=>by
  have hx:=hs x List.mem_cons_self
  have ih:=fun (acc:List T) (s:Slot) h=>oth_comp (Q:=Q) (n:=n) (pl:=pl) (o:=o) hn r acc s (fun t ht=>hs t (List.mem_cons_of_mem _ ht)) h
  simp only[List.map_cons,compT]
  generalize compT (gN 0) tO1 (wVar 0) (r.map thT)=F at ih ⊢
  obtain⟨xn,xp,xt⟩:=x
  have fin:(decide (xn=n)=false->Q (acc++[thT (xn,xp,xt)]++(others n r).map thT))/\(decide (xn=n)=true->Q (acc++(others n r).map thT)):=by
   constructor
   ·intro e
    have:others n ((xn,xp,xt)::r)=(xn,xp,xt)::others n r:=by simp only[others];rw[List.filter_cons_of_pos (by simpa using e)]
    rw[this]at h
    simpa using h
   ·intro e
    have:others n ((xn,xp,xt)::r)=others n r:=by simp only[others];rw[List.filter_cons_of_neg (by simpa using e)]
    rw[this]at h
    exact h
  cases xt<;>cases o <;>
  ·simp only[thT]at ih fin ⊢
   walk_at "go"
   refine⟨eqOk_str hx hn,?_⟩
   rw[eqT_str]
   refine⟨fun c=>?_,fun c=>?_⟩
   ·walk_at "go"
    exact ih _ _ (fin.1 (by simpa using c))
   ·walk_at "go"
    exact ih _ _ (fin.2 (by simpa using c))
theorem hid_comp{Q:List T->Prop}{p d:Tr}{m:Int}(lp:LimT 150 p)(hm:m≠0)(lm:Lim 100 m)(ld:LimT 60 d):∀(L:List Th)(acc:List T)(s:Slot),(∀t∈L,PlLim 20 t.2.1)->Q (acc++((L.filter (hidP p m d)).map (·.1)).map T.str) →
  compT (gN 0) tO2 (w2 rIxTT (wVar 0) (wC (.int 0))) (L.map thT) acc [s,.val (pt p m),.val (trT d)] Q
 | [],acc,s,_,h=>by
  simp only[List.filter_nil,List.map_nil,List.append_nil]at h
  exact h
 | x::r,acc,s,hs,h=>by
  have hx:=(hs x List.mem_cons_self).mono (k':=50) (by decide)
  have ih:=fun (acc:List T) (s:Slot) h=>hid_comp (Q:=Q) lp hm lm ld r acc s (fun t ht=>hs t (List.mem_cons_of_mem _ ht)) h
  simp only[List.map_cons,compT]
  obtain⟨SP,hSP⟩:∃S,S=Z0n:=⟨_,rfl⟩
  generalize compT (gN 0) tO2 (w2 rIxTT (wVar 0) (wC (.int 0))) (r.map thT)=F at ih ⊢
  have fin:(hidP p m d x=true->Q (acc++[T.str x.1]++((r.filter (hidP p m d)).map (·.1)).map T.str))/\(hidP p m d x=false->Q (acc++((r.filter (hidP p m d)).map (·.1)).map T.str)):=by
   constructor
   ·intro e
    rw[List.filter_cons_of_pos e]at h
    simpa using h
   ·intro e
    rw[List.filter_cons_of_neg (by rw[e];exact Bool.false_ne_true)]at h
    exact h
  obtain⟨xn,xp,xt⟩:=x
  cases xt <;>
  ·simp only[thT,tO2]
   rw[← hSP]
   walk_at "go"
   refine Eq.mpr (congrFun (congrFun hSP _) _) ?_
   refine⟨xp.1,xp.2.1,xp.2.2,p,d,m,rfl,⟨hx.1,hx.2.1,hx.2.2,ld.mono (by decide)⟩,lp,hm,lm,?_⟩
   refine⟨fun c=>?_,fun c=>?_⟩
   ·walk_at "go"
    exact ih _ _ (fin.1 c)
   ·walk_at "go"
    exact ih _ _ (fin.2 c)
theorem lim_spot{a d x:Int}{h:Tr}(la:Lim 20 a)(ld:Lim 20 d)(lx:Lim 20 x)(lh:LimT 36 h):Lim 150 (spot a d x h.1 h.2.2 h.2.1 h.2.2) :=
 ((la.mul (lh.2.2.mul lh.2.2)).add (((lh.1.mul ld).mul lh.2.2).add ((lh.2.1.mul lx).mul lh.2.2))).mono (by decide)
theorem Z4t:∀ts Q,Z0E ts Q->Z2u {nx:=fun _=>Q .non,rt:=Q} (startT 6 ts):=by
 rintro _ Q ⟨s0,ws,ds,⟨n,pl,o⟩,h,d,rfl,h0,lh,lp,ld,hn,hs,hl,hq⟩
 have up:∀{t:Tr},LimT 20 t->LimT 100 t:=fun h=>h.mono (by decide)
 have lt:LimT 150 (ptOf pl h):=⟨lim_spot lp.1.1 lp.2.1.1 lp.2.2.1 lh,lim_spot lp.1.2.1 lp.2.1.2.1 lp.2.2.2.1 lh,lim_spot lp.1.2.2 lp.2.1.2.2 lp.2.2.2.2 lh⟩
 have hm:h.2.2 * h.2.2≠0:=Int.mul_ne_zero h0 h0
 have lm:Lim 100 (h.2.2 * h.2.2):=(lh.2.2.mul lh.2.2).mono (by decide)
 have hlen:(ws.map thT).length + (ds.map thT).length<=1000:=by
  have:=hl
  simp only[List.length_append,List.length_map]at this ⊢
  omega
 have hlen2:(ws.map thT++ds.map thT).length<=1000:=by rw[List.length_append];exact hlen
 unfold Z2u
 cases o <;>
 ·simp only[thT]
  walk_at "go"
  refine⟨_,_,_,_,_,_,_,_,_,h.1,h.2.2,h.2.1,h.2.2,rfl,⟨h0,h0,lh.1.mono (by decide),lh.2.2.mono (by decide),lh.2.1.mono (by decide),lh.2.2.mono (by decide)⟩,⟨up lp.1,up lp.2.1,up lp.2.2⟩,?_⟩
  walk_at "go"
  rw[← List.map_append]
  first
  | refine oth_comp (pl:=pl) (o:=none) hn (ws++ds) [] _ (fun t ht=>(hs t ht).1) ?_
  | refine oth_comp (pl:=pl) (o:=some _) hn (ws++ds) [] _ (fun t ht=>(hs t ht).1) ?_
  have hlen3:((others n (ws++ds)).map thT).length<=1000:=by
   have:=List.length_filter_le (fun t:Th=>!decide (t.1=n)) (ws++ds)
   simp only[others,List.length_map]
   omega
  walk_at "go"
  refine hid_comp (p:=ptOf pl h) (m:=h.2.2 * h.2.2) lt hm lm ld (others n (ws++ds)) [] _ (fun t ht=>(hs t (List.mem_filter.mp ht).1).2) ?_
  walk_at "go"
  rw[List.nil_append,strsOf_map]
  refine⟨?_,fun us hp hso=>?_⟩
  ·have a1:=List.length_filter_le (fun t:Th=>!decide (t.1=n)) (ws++ds)
   have a2:=List.length_filter_le (hidP (ptOf pl h) (h.2.2 * h.2.2) d) (others n (ws++ds))
   simp only[List.length_map]
   simp only[others]at a2 ⊢
   omega
  ·walk_at "go"
   rw[← srt_of hp (sorted_pw hso)]
   exact hq
abbrev sDown:T:=.tup [.str (Str.ofString "down")]
abbrev sBehind:T:=.tup [.str (Str.ofString "behind")]
abbrev sOff(t:T):T:=.tup [.str (Str.ofString "off"),t]
abbrev sHid(us:List Str):T:=.tup [.str (Str.ofString "hidden"),.lst (us.map T.str)]
abbrev sRead(t:T):T:=.tup [.str (Str.ofString "read"),t]
noncomputable def toldF(d:Tr)(t:Th)(tip:Tr)(L:List Th):T :=
 if 0 < d.2.2 then
  if 0 < dotI (crs t.2.1.2.1 t.2.1.2.2) d then
   if onF (meet t.2.1.1 t.2.1.2.1 t.2.1.2.2 tip d 1)=true then
    (match srt (hidN (ptOf t.2.1 (meet t.2.1.1 t.2.1.2.1 t.2.1.2.2 tip d 1)) ((meet t.2.1.1 t.2.1.2.1 t.2.1.2.2 tip d 1).2.2 * (meet t.2.1.1 t.2.1.2.1 t.2.1.2.2 tip d 1).2.2) d t.1 L) with
     | []=>sRead (hpl (meet t.2.1.1 t.2.1.2.1 t.2.1.2.2 tip d 1))
     | u::us=>sHid (u::us))
   else sOff (hpl (meet t.2.1.1 t.2.1.2.1 t.2.1.2.2 tip d 1))
  else sBehind
 else sDown
structure YOk(sun:List (Int×Tr))(ws ds:List Th):Prop where
 sun:∀e∈sun,LimT 2 e.2
 things:∀t∈ws++ds,SOk t.1/\PlLim 12 t.2.1
 tips:∀t∈ds,∃tip,t.2.2=some tip/\LimT 12 tip
 few:(ws++ds).length < 64
abbrev yardT(sun:List (Int×Tr))(ws ds:List Th):T:=.tup [.lst (sun.map sT),.lst (ws.map thT),.lst (ds.map thT)]
abbrev tipOf(t:Th):Tr:=t.2.2.getD (0,0,0)
def Z07:SpT:=fun ts Q=>∃(sun:List (Int×Tr)) (ws ds:List Th) (h:Int) (n:Str),ts=[yardT sun ws ds,.int h,.str n]/\YOk sun ws ds/\SOk n/\h.natAbs.log2 < 1920 ∧
 (match sunAt sun h with
  | none=>False
  | some e=>(match dialAt ds n with|none=>False|some t=>Q (toldF e.2 t (tipOf t) (ws++ds))))
theorem Z5Y:∀ts Q,Z07 ts Q->ts.length=3:=by rintro ts Q ⟨_,_,_,_,_,e,_⟩;subst e;rfl
def Z3l:WS :=
 (sSeq (sSet 3 (wCall Z02 (aCons (w2 rIxTT (wVar 0) (wC (.int 0))) (aCons (wVar 1) aNil))))
  (sSeq (sSet 4 (wCall Z1Q (aCons (wVar 0) (aCons (wVar 2) aNil))))
  (sSeq (sIf (tNotT (tVal (wCall Z2F (aCons (w2 rIxTT (wVar 0) (wC (.int 0))) (aCons (wVar 1) aNil))))) (sRet (wTup (aCons (wC (.str (Str.ofString "down"))) aNil))) sNext)
  (sSeq (sSet 5 (wCall Z1f (aCons (w2 rIxTT (wVar 4) (wC (.int 1))) (aCons (w2 rIxTT (wVar 4) (wC (.int 2))) (aCons (wVar 3) aNil)))))
  (sSeq (sIf (tCmpT cIsN (wVar 5) (wC .non)) (sRet (wTup (aCons (wC (.str (Str.ofString "behind"))) aNil))) sNext)
  (sSeq (sIf (tNotT (tVal (wCall Z14 (aCons (wVar 5) aNil)))) (sRet (wTup (aCons (wC (.str (Str.ofString "off"))) (aCons (wVar 5) aNil)))) sNext)
  (sSeq (sSet 6 (wCall Z0E (aCons (wVar 0) (aCons (wVar 4) (aCons (wVar 5) (aCons (wVar 3) aNil))))))
  (sSeq (sIf (tTruT (wVar 6)) (sRet (wTup (aCons (wC (.str (Str.ofString "hidden"))) (aCons (wVar 6) aNil)))) sNext)
  (sRet (wTup (aCons (wC (.str (Str.ofString "read"))) (aCons (wVar 5) aNil))))))))))))
theorem told_lim{p:Pl}{tip d:Tr}(lp:PlLim 12 p)(lt:LimT 12 tip)(ld:LimT 2 d):LimT 36 (meet p.1 p.2.1 p.2.2 tip d 1):=by
 have lB:=lim_tless lt lp.1 (m:=1) (j:=1) (Lim.of (by decide) (by decide)) (n:=14) (by decide)
 have l1:=lim_crs lp.2.2 ld (k:=15) (by decide)
 have l2:=lim_crs ld lp.2.1 (k:=15) (by decide)
 have lF:=lim_crs lp.2.1 lp.2.2 (k:=25) (by decide)
 have lW:=lim_dotI lF ld (k:=29) (by decide)
 exact⟨(lim_dotI lB l1 (k:=31) (by decide)).mono (by decide),(lim_dotI lB l2 (k:=31) (by decide)).mono (by decide),by show Lim 36 (1 * dotI (crs p.2.1 p.2.2) d);rw[Int.one_mul];exact lW.mono (by decide)⟩
theorem Z6f:∀ts Q,Z07 ts Q->Z3l {nx:=fun _=>Q .non,rt:=Q} (startT 7 ts):=by
 rintro _ Q ⟨sun,ws,ds,h,n,rfl,Y,hn,lh,hq⟩
 have hsd:∀t∈ds,SOk t.1:=fun t ht=>(Y.things t (List.mem_append_right _ ht)).1
 unfold Z3l
 walk_at "go"
 refine⟨sun,h,rfl,lh,?_⟩
 cases hf:sunAt sun h with
 | none=>rw[hf]at hq;exact hq
 | some e =>
  rw[hf]at hq
  walk_at "go"
  refine⟨_,_,ds,n,rfl,hn,hsd,?_⟩
  cases hg:dialAt ds n with
  | none=>rw[hg]at hq;exact hq
  | some t =>
   rw[hg]at hq
   have md:=List.mem_of_find?_eq_some hg
   have ld:=Y.sun e (List.mem_of_find?_eq_some hf)
   obtain⟨hn',lp⟩:=Y.things t (List.mem_append_right _ md)
   obtain⟨tip,et,lt⟩:=Y.tips t md
   obtain⟨n',p,o⟩:=t
   obtain rfl:o=some tip:=et
   have lm:=told_lim lp lt ld
   walk_at "go"
   refine⟨sun,h,rfl,lh,?_⟩
   rw[hf]
   replace hq:Q (toldF e.2 (n',p,some tip) tip (ws++ds)):=hq
   unfold toldF at hq
   dsimp only at hq
   by_cases up:0 < e.2.2.2
   ·rw [if_pos up]at hq
    dsimp only
    rw[show decide (e.2.2.2 > 0)=true from decide_eq_true up]
    walk_at "go"
    refine⟨p.1,p.2.1,p.2.2,tip,e.2,rfl,⟨lp.1.mono (by decide),lp.2.1.mono (by decide),lp.2.2.mono (by decide),ld.mono (by decide)⟩,lt.mono (by decide),fun nb=>?_,fun ha=>?_⟩
    ·rw[if_neg nb]at hq
     walk_at "go"
     exact hq
    ·rw [if_pos ha]at hq
     walk_at "go"
     refine⟨_,rfl,?_⟩
     cases ho:onF (meet p.1 p.2.1 p.2.2 tip e.2 1) with
     | false =>
      rw[if_neg (by rw[ho];exact Bool.false_ne_true)]at hq
      walk_at "go"
      exact hq
     | true =>
      rw[if_pos ho]at hq
      walk_at "go"
      refine⟨_,ws,ds,(n',p,some tip),meet p.1 p.2.1 p.2.2 tip e.2 1,e.2,rfl,?_,lm,lp.mono (by decide),ld.mono (by decide),hn',fun t ht=>⟨(Y.things t ht).1,(Y.things t ht).2.mono (by decide)⟩,Y.few,?_⟩
      ·show 1 * dotI (crs p.2.1 p.2.2) e.2≠0
       rw[Int.one_mul]
       omega
      ·generalize srt (hidN (ptOf p (meet p.1 p.2.1 p.2.2 tip e.2 1)) ((meet p.1 p.2.1 p.2.2 tip e.2 1).2.2 * (meet p.1 p.2.1 p.2.2 tip e.2 1).2.2) e.2 n' (ws++ds))=us at hq ⊢
       cases us with
       | nil =>
        walk_at "go"
        exact hq
       | cons u us =>
        walk_at "go"
        exact hq
   ·rw[if_neg up]at hq
    dsimp only
    rw[show decide (e.2.2.2 > 0)=false from decide_eq_false up]
    walk_at "go"
    exact hq
def cellF(ns:List Int)(k:Int):Int :=
 if k < (ns.length:Int) then ns.getD k.toNat 0 else
 let n0:=k * k * 48271 + 7919 * k + 11
 let n:=if (0:Int) < (ns.length:Int) then n0 + (ns.getD ((k * 7).fmod (ns.length:Int)).toNat 0).fmod 2147483647 * (k * k + 69621) else n0
 (n * n).fmod 2147483629 * 982451653 + n
theorem atI_getD{ns:List Int}{k:Int}(h0:0<=k)(h1:k < ns.length):atI (ns.map T.int) k=some (.int (ns.getD k.toNat 0)):=by
 have hk:k.toNat < ns.length:=by omega
 unfold atI ixN
 rw[List.length_map,if_pos h0,if_pos h1]
 simp only[Option.bind]
 rw[List.getElem?_map,List.getElem?_eq_getElem hk]
 simp[hk]
def Z2n:SpT:=fun ts Q=>∃(ns:List Int) (k:Int),ts=[.lst (ns.map T.int),.int k]/\0<=k/\k<=1000/\Q (.int (cellF ns k))
theorem Z6U:∀ts Q,Z2n ts Q->ts.length=2:=by rintro ts Q ⟨_,_,e,_⟩;subst e;rfl
def Z21:WS :=
 (sRet (w2 rAddT (w2 rMulT (w2 rModT (w2 rMulT (wVar 2) (wVar 2)) (wC (.int 2147483629))) (wC (.int 982451653))) (wVar 2)))
def Z4R:WS :=
 (sSeq (sIf (tCmpT cLtT (wVar 1) (wCB rLenT (aCons (wVar 0) aNil))) (sRet (w2 rIxTT (wVar 0) (wVar 1))) sNext)
  (sSeq (sSet 2 (w2 rAddT (w2 rAddT (w2 rMulT (w2 rMulT (wVar 1) (wVar 1)) (wC (.int 48271))) (w2 rMulT (wC (.int 7919)) (wVar 1))) (wC (.int 11))))
  (sSeq (sIf (tCmpT cGtT (wCB rLenT (aCons (wVar 0) aNil)) (wC (.int 0))) (sSet 2 (w2 rAddT (wVar 2) (w2 rMulT (w2 rModT (w2 rIxTT (wVar 0) (w2 rModT (w2 rMulT (wVar 1) (wC (.int 7))) (wCB rLenT (aCons (wVar 0) aNil)))) (wC (.int 2147483647))) (w2 rAddT (w2 rMulT (wVar 1) (wVar 1)) (wC (.int 69621)))))) sNext)
  Z21)))
theorem cell_k0{Q:T->Prop}{n:Int}(h:Q (.int ((n * n).fmod 2147483629 * 982451653 + n)))(ln:Lim 40 n)(s0 s1:Slot):Z21 {nx:=fun _=>Q .non,rt:=Q} [s0,s1,.val (.int n)]:=by
 unfold Z21
 walk_at "tw"
 have f:=fmod_pos (n * n) (b:=2147483629) (by decide)
 have lf:Lim 10 ((n * n).fmod 2147483629):=small_lim f.1 (by have:=f.2;omega)
 have lc:Lim 10 (982451653:Int):=Lim.of (by decide) (by decide)
 exact⟨mulOk ln ln,by decide,mulOk lf lc,h⟩
theorem Z7k:∀ts Q,Z2n ts Q->Z4R {nx:=fun _=>Q .non,rt:=Q} (startT 3 ts):=by
 rintro _ Q ⟨ns,k,rfl,h0,h1,h⟩
 have k0:=@cell_k0 Q
 unfold Z4R
 generalize Z21=K at k0 ⊢
 walk_at "tw"
 have lk:Lim 4 k:=Lim.of (by omega) (by omega)
 have kk:=lk.mul lk
 have l1:Lim 5 (48271:Int):=Lim.of (by decide) (by decide)
 have l2:Lim 4 (7919:Int):=Lim.of (by decide) (by decide)
 have l3:Lim 2 (11:Int):=Lim.of (by decide) (by decide)
 have l7:Lim 1 (7:Int):=Lim.of (by decide) (by decide)
 have l6:Lim 5 (69621:Int):=Lim.of (by decide) (by decide)
 have base:=((kk.mul l1).add (l2.mul lk)).add l3
 rw[List.length_map]
 unfold cellF at h
 refine⟨fun c=>?_,fun c=>⟨mulOk lk lk,mulOk kk l1,mulOk l2 lk,fun c2=>⟨mulOk lk l7,?_,?_⟩,fun c2=>?_⟩⟩
 ·have c':k < (ns.length:Int):=of_decide_eq_true c
  rw[if_pos c']at h
  rw[atI_getD h0 c']
  exact h
 ·have c':(0:Int) < (ns.length:Int):=of_decide_eq_true c2
  omega
 ·have c':(0:Int) < (ns.length:Int):=of_decide_eq_true c2
  have nc:¬ k < (ns.length:Int):=of_decide_eq_false c
  rw[if_neg nc]at h
  simp only[if_pos c']at h
  have f:=fmod_pos (k * 7) c'
  rw[atI_getD f.1 f.2]
  have g:=fmod_pos (ns.getD ((k * 7).fmod (ns.length:Int)).toNat 0) (b:=2147483647) (by decide)
  have lg:Lim 10 ((ns.getD ((k * 7).fmod (ns.length:Int)).toNat 0).fmod 2147483647):=small_lim g.1 (by have:=g.2;omega)
  have l8:=kk.add l6
  exact⟨by decide,mulOk lk lk,mulOk lg l8,k0 h ((base.add (lg.mul l8)).mono (by decide)) _ _⟩
 ·have c':¬ (0:Int) < (ns.length:Int):=of_decide_eq_false c2
  have nc:¬ k < (ns.length:Int):=of_decide_eq_false c
  rw[if_neg nc]at h
  simp only[if_neg c']at h
  exact k0 h (base.mono (by decide)) _ _
theorem Lim.pow{m:Nat}{i:Int}(h:Lim m i)(n:Nat)(hn:n≠0):Lim (m * n) (i ^ n):=by
 unfold Lim at *
 rw[Int.natAbs_pow,Nat.pow_mul]
 exact Nat.pow_lt_pow_left h hn
theorem fdiv_abs{a b:Int}(h:0<=a)(hb:0 < b):(a.fdiv b).natAbs<=a.natAbs:=by
 have h0:0<=a.fdiv b:=Int.fdiv_nonneg h (by omega)
 have h1:a.fdiv b<=a:=by
  rw[Int.fdiv_eq_ediv_of_nonneg _ (by omega)]
  exact Int.ediv_le_self _ h
 omega
def wideF(ns:List Int)(k:Int):Int :=
 if k < (ns.length:Int)/\(1000000000000000000:Int)<=cellF ns k then (cellF ns k).fmod (10 ^ 120) else (((cellF ns k).fmod 2147483629 + 48271 + k * k) * 982451653 + 7) ^ 7 |>.fdiv 1000003
theorem mixed_ok{k:Int}(h0:0<=k)(h1:k<=1000)(v:Int):MulOk k k/\MulOk (v.fmod 2147483629 + 48271 + k * k) 982451653/\CPow ((v.fmod 2147483629 + 48271 + k * k) * 982451653 + 7) 7/\0<=((((v.fmod 2147483629 + 48271 + k * k) * 982451653 + 7) ^ 7).fdiv 1000003)/\Lim 140 ((((v.fmod 2147483629 + 48271 + k * k) * 982451653 + 7) ^ 7).fdiv 1000003):=by
 have lk:Lim 4 k:=Lim.of (by omega) (by omega)
 have kk0:0<=k * k:=Int.mul_nonneg h0 h0
 have kk1:k * k<=1000 * 1000:=Int.mul_le_mul h1 h1 h0 (by decide)
 have f:=fmod_pos v (b:=2147483629) (by decide)
 have lx:Lim 10 (v.fmod 2147483629 + 48271 + k * k):=small_lim (by omega) (by omega)
 have ly:Lim 19 ((v.fmod 2147483629 + 48271 + k * k) * 982451653 + 7):=small_lim (by omega) (by omega)
 have y0:0<=(v.fmod 2147483629 + 48271 + k * k) * 982451653 + 7:=by omega
 have p:=ly.pow 7 (by decide)
 have p0:0<=((v.fmod 2147483629 + 48271 + k * k) * 982451653 + 7) ^ 7:=Int.pow_nonneg y0
 refine⟨mulOk lk lk,mulOk lx (n:=10) (Lim.of (by decide) (by decide)),⟨by decide,by decide,?_⟩,Int.fdiv_nonneg p0 (by decide),((p.le (fdiv_abs p0 (by decide))).mono (by decide))⟩
 have:(2:Nat) ^ 64=18446744073709551616:=by decide
 rw[this]
 omega
theorem wideF_ok{ns:List Int}{k:Int}(h0:0<=k)(h1:k<=1000):0<=wideF ns k/\Lim 140 (wideF ns k):=by
 unfold wideF
 split
 ·have g:=fmod_pos (cellF ns k) (b:=10 ^ 120) (by decide)
  exact⟨g.1,(small_lim (n:=120) g.1 g.2).mono (by decide)⟩
 ·have m:=mixed_ok h0 h1 (cellF ns k)
  exact⟨m.2.2.2.1,m.2.2.2.2⟩
def Z06:SpT:=fun ts Q=>∃(ns:List Int) (k:Int),ts=[.lst (ns.map T.int),.int k]/\0<=k/\k<=1000/\Q (.int (wideF ns k))
theorem Z6V:∀ts Q,Z06 ts Q->ts.length=2:=by rintro ts Q ⟨_,_,e,_⟩;subst e;rfl
def Z4S:WS :=
 (sSeq (sSet 2 (wCall Z2n (aCons (wVar 0) (aCons (wVar 1) aNil))))
  (sSeq (sIf (tAndT (tCmpT cLtT (wVar 1) (wCB rLenT (aCons (wVar 0) aNil))) (tCmpT cGeT (wVar 2) (w2 rPowT (wC (.int 10)) (wC (.int 18))))) (sRet (w2 rModT (wVar 2) (w2 rMulT (w2 rPowT (wC (.int 10)) (wC (.int 60))) (w2 rPowT (wC (.int 10)) (wC (.int 60)))))) sNext)
  (sSeq (sSet 3 (w2 rAddT (w2 rAddT (w2 rModT (wVar 2) (wC (.int 2147483629))) (wC (.int 48271))) (w2 rMulT (wVar 1) (wVar 1))))
  (sRet (w2 rDivT (w2 rPowT (w2 rAddT (w2 rMulT (wVar 3) (wC (.int 982451653))) (wC (.int 7))) (wC (.int 7))) (wC (.int 1000003)))))))
theorem Z7l:∀ts Q,Z06 ts Q->Z4S {nx:=fun _=>Q .non,rt:=Q} (startT 4 ts):=by
 rintro _ Q ⟨ns,k,rfl,h0,h1,h⟩
 unfold Z4S
 walk_at "tw"
 refine⟨ns,k,rfl,h0,h1,?_⟩
 obtain⟨m1,m2,m3,_,_⟩:=mixed_ok h0 h1 (cellF ns k)
 unfold wideF at h
 rw[List.length_map]
 have c18:=cpow10 18 (by decide)
 have c60:=cpow10 60 (by decide)
 have l61:Lim 61 (1000000000000000000000000000000000000000000000000000000000000:Int):=Lim.of (by decide) (by decide)
 have d1:DivOk 1000003:=divOk (by decide) (Lim.of (n:=7) (by decide) (by decide))
 have mixed:¬ (k < (ns.length:Int)/\(1000000000000000000:Int)<=cellF ns k)->(2147483629:Int)≠0/\MulOk k k/\MulOk ((cellF ns k).fmod 2147483629 + 48271 + k * k) 982451653/\CPow (((cellF ns k).fmod 2147483629 + 48271 + k * k) * 982451653 + 7) 7/\DivOk 1000003/\Q (T.int (((((cellF ns k).fmod 2147483629 + 48271 + k * k) * 982451653 + 7) ^ 7).fdiv 1000003)):=fun nc=>by
  rw[if_neg nc]at h
  exact⟨by decide,m1,m2,m3,d1,h⟩
 refine⟨fun c=>⟨c18,fun c2=>⟨c60,c60,mulOk l61 l61,by decide,?_⟩,fun c2=>mixed fun cc=>?_⟩,fun c=>⟨fun z=>(by cases z),fun _=>mixed fun cc=>?_⟩⟩
 ·rw[if_pos ⟨of_decide_eq_true c,of_decide_eq_true c2⟩]at h
  have big:(10:Int) ^ 120=1000000000000000000000000000000000000000000000000000000000000000000000000000000000000000000000000000000000000000000000000:=by decide
  rw[big]at h
  exact h
 ·exact absurd cc.2 (of_decide_eq_false c2)
 ·exact absurd cc.1 (of_decide_eq_false c)
def Most(m i:Int):Prop:=-m<=i/\i<=m
def Z16:SpT:=fun ts Q=>∃n m:Int,ts=[.int n,.int m]/\1<=m/\m<=1000000000/\∀a b c:Int,Most m a->Most m b->Most m c->Q (tri a b c)
theorem Z6g:∀ts Q,Z16 ts Q->ts.length=2:=by rintro ts Q ⟨_,_,e,_⟩;subst e;rfl
def Z3K:WS :=
 (sSeq (sSet 2 (w2 rAddT (w2 rMulT (wC (.int 2)) (wVar 1)) (wC (.int 1))))
  (sRet (wTup (aCons (w2 rSubT (w2 rModT (wVar 0) (wVar 2)) (wVar 1)) (aCons (w2 rSubT (w2 rModT (w2 rDivT (wVar 0) (wVar 2)) (wVar 2)) (wVar 1)) (aCons (w2 rSubT (w2 rModT (w2 rDivT (wVar 0) (w2 rPowT (wVar 2) (wC (.int 2)))) (wVar 2)) (wVar 1)) aNil))))))
theorem Z6u:∀ts Q,Z16 ts Q->Z3K {nx:=fun _=>Q .non,rt:=Q} (startT 3 ts):=by
 rintro _ Q ⟨n,m,rfl,h0,h1,h⟩
 unfold Z3K
 walk_at "tw"
 have lm:Lim 10 m:=small_lim (by omega) (by omega)
 have ls:Lim 10 (2 * m + 1):=small_lim (by omega) (by omega)
 have ne:2 * m + 1≠0:=by omega
 have q:=ls.pow 2 (by decide)
 have ne2:(2 * m + 1) ^ 2≠0:=Int.pow_ne_zero ne
 refine⟨mulOk (m:=1) (Lim.of (by decide) (by decide)) lm,ne,divOk ne ls,ne,⟨by decide,by decide,?_⟩,divOk ne2 q,ne,?_⟩
 ·have:(2:Nat) ^ 64=18446744073709551616:=by decide
  rw[this]
  omega
 ·have f:∀n:Int,Most m (n.fmod (2 * m + 1) - m):=fun n=>by
   have:=fmod_pos n (b:=2 * m + 1) (by omega)
   exact⟨by omega,by omega⟩
  exact h _ _ _ (f _) (f _) (f _)
def Z1x:SpT:=fun ts Q=>∃a b c d e f:Int,ts=[tri a b c,tri d e f]/\(Lim 1000 a/\Lim 1000 b/\Lim 1000 c/\Lim 1000 d/\Lim 1000 e/\Lim 1000 f)/\Q (tri (b * f - c * e) (c * d - a * f) (a * e - b * d))
theorem Z6v:∀ts Q,Z1x ts Q->ts.length=2:=by rintro ts Q ⟨_,_,_,_,_,_,e,_⟩;subst e;rfl
def Z45:WS :=
 (sSeq (sAsg (gT 3 (gsC (gN 2) (gsC (gN 3) (gsC (gN 4) gs0)))) (wVar 0))
  (sSeq (sAsg (gT 3 (gsC (gN 5) (gsC (gN 6) (gsC (gN 7) gs0)))) (wVar 1))
  (sRet (wTup (aCons (w2 rSubT (w2 rMulT (wVar 3) (wVar 7)) (w2 rMulT (wVar 4) (wVar 6))) (aCons (w2 rSubT (w2 rMulT (wVar 4) (wVar 5)) (w2 rMulT (wVar 2) (wVar 7))) (aCons (w2 rSubT (w2 rMulT (wVar 2) (wVar 6)) (w2 rMulT (wVar 3) (wVar 5))) aNil)))))))
theorem Z6W:∀ts Q,Z1x ts Q->Z45 {nx:=fun _=>Q .non,rt:=Q} (startT 8 ts):=by
 rintro _ Q ⟨a,b,c,d,e,f,rfl,⟨la,lb,lc,ld,le,lf⟩,h⟩
 unfold Z45
 walk_at "tw"
 exact⟨mulOk lb lf,mulOk lc le,mulOk lc ld,mulOk la lf,mulOk la le,mulOk lb ld,h⟩
def Z3L:SpT:=fun ts Q=>∃a b c d e f:Int,ts=[tri a b c,tri d e f]/\(Lim 2000 a/\Lim 2000 b/\Lim 2000 c/\Lim 2000 d/\Lim 2000 e/\Lim 2000 f)/\Q (.int (a * d + b * e + c * f))
theorem Z7m:∀ts Q,Z3L ts Q->ts.length=2:=by rintro ts Q ⟨_,_,_,_,_,_,e,_⟩;subst e;rfl
def Z5Z:WS :=
 (sRet (w2 rAddT (w2 rAddT (w2 rMulT (w2 rIxTT (wVar 0) (wC (.int 0))) (w2 rIxTT (wVar 1) (wC (.int 0)))) (w2 rMulT (w2 rIxTT (wVar 0) (wC (.int 1))) (w2 rIxTT (wVar 1) (wC (.int 1))))) (w2 rMulT (w2 rIxTT (wVar 0) (wC (.int 2))) (w2 rIxTT (wVar 1) (wC (.int 2))))))
theorem Z7C:∀ts Q,Z3L ts Q->Z5Z {nx:=fun _=>Q .non,rt:=Q} (startT 2 ts):=by
 rintro _ Q ⟨a,b,c,d,e,f,rfl,⟨la,lb,lc,ld,le,lf⟩,h⟩
 unfold Z5Z
 walk_at "tw"
 exact⟨mulOk la ld,mulOk lb le,mulOk lc lf,h⟩
def Z1H:SpT:=fun ts Q=>∃a b c d e f m:Int,ts=[tri a b c,tri d e f,.int m]/\(Lim 2000 d/\Lim 2000 e/\Lim 2000 f/\Lim 2000 m)/\Q (tri (a + m * d) (b + m * e) (c + m * f))
theorem Z7D:∀ts Q,Z1H ts Q->ts.length=3:=by rintro ts Q ⟨_,_,_,_,_,_,_,e,_⟩;subst e;rfl
def Z6P:WS :=
 (sRet (wTup (aCons (w2 rAddT (w2 rIxTT (wVar 0) (wC (.int 0))) (w2 rMulT (wVar 2) (w2 rIxTT (wVar 1) (wC (.int 0))))) (aCons (w2 rAddT (w2 rIxTT (wVar 0) (wC (.int 1))) (w2 rMulT (wVar 2) (w2 rIxTT (wVar 1) (wC (.int 1))))) (aCons (w2 rAddT (w2 rIxTT (wVar 0) (wC (.int 2))) (w2 rMulT (wVar 2) (w2 rIxTT (wVar 1) (wC (.int 2))))) aNil)))))
theorem Z7L:∀ts Q,Z1H ts Q->Z6P {nx:=fun _=>Q .non,rt:=Q} (startT 3 ts):=by
 rintro _ Q ⟨a,b,c,d,e,f,m,rfl,⟨ld,le,lf,lm⟩,h⟩
 unfold Z6P
 walk_at "tw"
 exact⟨mulOk lm ld,mulOk lm le,mulOk lm lf,h⟩
theorem Most.lim{m i:Int}(h:Most m i)(hm:m<=1000000000):Lim 10 i:=Lim.of (by have:=h.1;omega) (by have:=h.2;omega)
theorem Most.up{m m' i:Int}(h:Most m i)(hm:m<=m'):Most m' i:=⟨by have:=h.1;omega,by have:=h.2;omega⟩
abbrev Most3(m a b c:Int):Prop:=Most m a/\Most m b/\Most m c
abbrev NoFlat(d e f x y z:Int):Prop:=¬ (e * z - f * y=0/\f * x - d * z=0/\d * y - e * x=0)
def Z2o:SpT:=fun ts Q=>∃n m:Int,ts=[.int n,.int m]/\1<=m/\m<=1000000000/\∀d e f x y z:Int,Most3 m d e f->Most3 m x y z->NoFlat d e f x y z->Q (.tup [tri d e f,tri x y z])
theorem Z6X:∀ts Q,Z2o ts Q->ts.length=2:=by rintro ts Q ⟨_,_,e,_⟩;subst e;rfl
def Z4T:WS :=
 (sSeq (sSet 2 (wCall Z16 (aCons (wVar 0) (aCons (wVar 1) aNil))))
  (sSeq (sSet 3 (wCall Z16 (aCons (w2 rDivT (wVar 0) (w2 rPowT (w2 rAddT (w2 rMulT (wC (.int 2)) (wVar 1)) (wC (.int 1))) (wC (.int 3)))) (aCons (wVar 1) aNil))))
  (sSeq (sIf (tCmpT cEqT (wCall Z1x (aCons (wVar 2) (aCons (wVar 3) aNil))) (wTup (aCons (wC (.int 0)) (aCons (wC (.int 0)) (aCons (wC (.int 0)) aNil))))) (sRet (wTup (aCons (wTup (aCons (wVar 1) (aCons (wC (.int 0)) (aCons (wC (.int 0)) aNil)))) (aCons (wTup (aCons (wC (.int 0)) (aCons (wVar 1) (aCons (wC (.int 0)) aNil)))) aNil)))) sNext)
  (sRet (wTup (aCons (wVar 2) (aCons (wVar 3) aNil)))))))
theorem Z7n:∀ts Q,Z2o ts Q->Z4T {nx:=fun _=>Q .non,rt:=Q} (startT 4 ts):=by
 rintro _ Q ⟨n,m,rfl,h0,h1,h⟩
 have lm:Lim 10 m:=small_lim (by omega) (by omega)
 have ls:Lim 10 (2 * m + 1):=small_lim (by omega) (by omega)
 have ne:2 * m + 1≠0:=by omega
 have q:=ls.pow 3 (by decide)
 have ne2:(2 * m + 1) ^ 3≠0:=Int.pow_ne_zero ne
 have cp:CPow (2 * m + 1) 3:=⟨by decide,by decide,by
  have:(2:Nat) ^ 64=18446744073709551616:=by decide
  rw[this]
  omega⟩
 have up:∀{i:Int},Most m i->Lim 1000 i:=fun h=>(h.lim h1).mono (by decide)
 unfold Z4T
 walk_at "tw"
 refine⟨n,m,rfl,h0,h1,fun a b c A B C=>⟨mulOk (m:=1) (Lim.of (by decide) (by decide)) lm,cp,divOk ne2 q,_,m,rfl,h0,h1,fun d e f D E F=>?_⟩⟩
 try walk_at "tw"
 refine⟨_,_,_,_,_,_,rfl,⟨up A,up B,up C,up D,up E,up F⟩,eqOk_tri _ _ _ _ _ _,fun _=>?_,fun zz=>?_⟩
 ·have z0:Most m 0:=⟨by omega,by omega⟩
  have zm:Most m m:=⟨by omega,by omega⟩
  refine h _ _ _ _ _ _ ⟨zm,z0,z0⟩ ⟨z0,zm,z0⟩ ?_
  rintro ⟨_,_,k⟩
  have:0 < m * m:=Int.mul_pos (by omega) (by omega)
  simp at k
  omega
 ·rw[eqT_tri]at zz
  have zz':=of_decide_eq_false zz
  exact h _ _ _ _ _ _ ⟨A,B,C⟩ ⟨D,E,F⟩ zz'
theorem lim_cross3{m n k:Nat}{d e f x y z:Int}(hd:Lim3 m d e f)(hx:Lim3 n x y z)(hk:m + n + 1<=k):Lim3 k (e * z - f * y) (f * x - d * z) (d * y - e * x):=lim_crs (a:=(d,e,f)) (b:=(x,y,z)) hd hx hk
theorem lim6{m n k:Nat}{d e f x y z:Int}(ld:Lim3 m d e f)(lx:Lim3 n x y z)(hm:m<=k)(hn:n<=k):Lim k d/\Lim k e/\Lim k f/\Lim k x/\Lim k y/\Lim k z:=⟨ld.1.mono hm,ld.2.1.mono hm,ld.2.2.mono hm,lx.1.mono hn,lx.2.1.mono hn,lx.2.2.mono hn⟩
theorem lim4{m n k:Nat}{d e f i:Int}(ld:Lim3 m d e f)(li:Lim n i)(hm:m<=k)(hn:n<=k):Lim k d/\Lim k e/\Lim k f/\Lim k i:=⟨ld.1.mono hm,ld.2.1.mono hm,ld.2.2.mono hm,li.mono hn⟩
theorem z3:Lim3 1 (0:Int) 0 0:=⟨Lim.of (by decide) (by decide),Lim.of (by decide) (by decide),Lim.of (by decide) (by decide)⟩
theorem on3{m n o k:Nat}{a b c d e f i:Int}(h:Lim3 m a b c)(h2:Lim3 n d e f)(li:Lim o i)(h1:m + 1<=k)(hk:n + o + 1<=k):Lim3 k (a + i * d) (b + i * e) (c + i * f) :=
 have g:∀{p q:Int},Lim m p->Lim n q->Lim k (p + i * q):=fun hp hq=>(hp.add (li.mul hq)).mono (by omega)
 ⟨g h.1 h2.1,g h.2.1 h2.2.1,g h.2.2 h2.2.2⟩
theorem pow_div(n:Nat)(hn:n<=60):DivOk (10 ^ n):=by
 refine divOk (n:=n + 1) (Int.pow_ne_zero (by decide)) (Lim.of ?_ ?_) (by omega)
 ·have:(0:Int) < 10 ^ n:=Int.pow_pos (by decide)
  have:(0:Int) < 10 ^ (n + 1):=Int.pow_pos (by decide)
  omega
 ·rw[Int.pow_succ]
  have:(0:Int) < 10 ^ n:=Int.pow_pos (by decide)
  omega
theorem atI_mapG{α:Type}{f:α->T}{l:List α}{k:Int}(h0:0<=k)(h1:k < l.length):∃x,x∈l/\atI (l.map f) k=some (f x):=by
 have hk:k.toNat < l.length:=by omega
 refine⟨l[k.toNat],List.getElem_mem hk,?_⟩
 unfold atI ixN
 rw[List.length_map,if_pos h0,if_pos h1]
 simp only[Option.bind]
 rw[List.getElem?_map,List.getElem?_eq_getElem hk]
 rfl
theorem pick_two(x y:Int){i:Int}(h:i=0∨i=1):∃v,(v=x∨v=y)/\atI [T.int x,T.int y] i=some (.int v):=by
 rcases h with rfl|rfl
 ·exact⟨x,.inl rfl,atI0 _ _⟩
 ·exact⟨y,.inr rfl,atI1 _ _ _⟩
theorem dv{n:Int}(h0:0 < n)(h1:n < 10 ^ 6:=by decide):DivOk n:=divOk (n:=6) (by omega) (Lim.of (by omega) h1)
def SunOk(sun:List (Int×Tr))(hour:Int):Prop:=sun.Pairwise (fun a b=>a.1 < b.1)/\∀e∈sun,(e.1 < hour/\LimT 2 e.2)/\0<=e.1/\hour<=30 + 5 * (sun.length:Int)
def Z3M:SpT:=fun ts Q=>∃(ns:List Int) (m:Nat),ts=[.lst (ns.map T.int),.int m]/\m<=100/\∀(sun:List (Int×Tr))(h:Int),sun.length=m->SunOk sun h->Q (.lst (sun.map sT))
theorem Z7o:∀ts Q,Z3M ts Q->ts.length=2:=by rintro ts Q ⟨_,_,e,_⟩;subst e;rfl
def Z1R:WS :=
 (sSeq (sApp 2 (wTup (aCons (wVar 3) (aCons (wVar 7) aNil))))
  (sSet 3 (w2 rAddT (w2 rAddT (wVar 3) (wC (.int 1))) (w2 rModT (w2 rDivT (wVar 5) (wC (.int 2205))) (wC (.int 5))))))
def Z1y:WS :=
 (sSeq (sSet 5 (wCall Z06 (aCons (wVar 0) (aCons (w2 rAddT (wC (.int 2)) (wVar 4)) aNil))))
  (sSeq (sSet 6 (w2 rIxTT (wLst (aCons (w2 rAddT (w2 rModT (w2 rDivT (wVar 5) (wC (.int 441))) (wC (.int 4))) (wC (.int 1))) (aCons (w2 rSubT (w2 rModT (w2 rDivT (wVar 5) (wC (.int 441))) (wC (.int 5))) (wC (.int 3))) aNil))) (w2 rDivT (w2 rModT (wVar 5) (wC (.int 9))) (wC (.int 7)))))
  (sSeq (sSet 7 (wTup (aCons (w2 rSubT (w2 rModT (w2 rDivT (wVar 5) (wC (.int 9))) (wC (.int 7))) (wC (.int 3))) (aCons (w2 rSubT (w2 rModT (w2 rDivT (wVar 5) (wC (.int 63))) (wC (.int 7))) (wC (.int 3))) (aCons (wVar 6) aNil)))))
  (sSeq (sIf (tCmpT cEqT (wVar 7) (wTup (aCons (wC (.int 0)) (aCons (wC (.int 0)) (aCons (wC (.int 0)) aNil))))) (sSet 7 (wTup (aCons (wC (.int 0)) (aCons (wC (.int 0)) (aCons (wC (.int 1)) aNil))))) sNext)
  Z1R))))
def Z6w:WS :=
 (sSeq (sOwn 2 aNil)
  (sSeq (sSet 3 (w2 rModT (wCall Z06 (aCons (wVar 0) (aCons (wC (.int 1)) aNil))) (wC (.int 24))))
  (sSeq (sFor (iRange1 (aCons (wVar 1) aNil)) (gN 4) Z1y)
  (sFrz 2 (sRet (wVar 2))))))
theorem sun_k0{D:DT}{sun:List (Int×Tr)}{hour n:Int}{s0 s1 s4 s6:Slot}{d:Tr}(hl:sun.length < 900)(hs:SunOk sun hour)(h0:0<=hour)(h3:hour<=30 + 5 * (sun.length:Int))(ld:LimT 2 d)
  (h:∀hour',SunOk (sun++[(hour,d)]) hour'->0<=hour'->hour'<=30 + 5 * ((sun++[(hour,d)]).length:Int)->D.nx [s0,s1,.own ((sun++[(hour,d)]).map sT),.val (.int hour'),s4,.val (.int n),s6,.val (trT d)]) :
  Z1R D [s0,s1,.own (sun.map sT),.val (.int hour),s4,.val (.int n),s6,.val (trT d)]:=by
 have d1:DivOk 2205:=dv (by decide)
 have f:=fmod_pos (n.fdiv 2205) (b:=5) (by decide)
 have hlen:(sun.map sT).length < 1000:=by rw[List.length_map];omega
 unfold Z1R
 walk_at "go"
 have el:((sun++[(hour,d)]).length:Int)=sun.length + 1:=by simp
 have h2:=h (hour + 1 + (n.fdiv 2205).fmod 5) ⟨?_,?_⟩ (by omega) (by omega)
 ·rw[List.map_append]at h2
  exact h2
 ·refine List.pairwise_append.mpr ⟨hs.1,by simp,fun a ha b hb=>?_⟩
  rw[List.mem_singleton.mp hb]
  exact(hs.2 a ha).1.1
 ·intro e he
  rcases List.mem_append.mp he with he|he
  ·have:=hs.2 e he
   exact⟨⟨by omega,this.1.2⟩,this.2.1,by omega⟩
  ·rw[List.mem_singleton.mp he]
   exact⟨⟨by show hour < _;omega,ld⟩,h0,by omega⟩
theorem sun_loop{D:DT}{ns:List Int}{s1:Slot}:∀(n:Nat)(lo:Int)(sun:List (Int×Tr))(hour:Int)(s4 s5 s6 s7:Slot),0<=lo->lo + n<=500->sun.length + n<=500->SunOk sun hour->0<=hour->hour<=30 + 5 * (sun.length:Int) →
  (∀(sun':List (Int×Tr))(hour:Int)(s4 s5 s6 s7:Slot),sun'.length=sun.length + n->SunOk sun' hour->D.nx [.val (.lst (ns.map T.int)),s1,.own (sun'.map sT),.val (.int hour),s4,s5,s6,s7]) →
  forT (gN 4) Z1y (rangeT lo n) D [.val (.lst (ns.map T.int)),s1,.own (sun.map sT),.val (.int hour),s4,s5,s6,s7]
 | 0,lo,sun,hour,s4,s5,s6,s7,_,_,_,hs,_,_,h=>by
  simp only[rangeT,forT]
  exact h sun hour _ _ _ _ (by simp) hs
 | n + 1,lo,sun,hour,s4,s5,s6,s7,h0,h1,hl,hs,g0,g3,h=>by
  have ih:=fun (d:Tr) (hour':Int) (hs':SunOk (sun++[(hour,d)]) hour') (g0':0<=hour') (g3':hour'<=30 + 5 * ((sun++[(hour,d)]).length:Int)) (s4 s5 s6 s7:Slot)=>sun_loop (D:=D) (ns:=ns) (s1:=s1) n (lo + 1) (sun++[(hour,d)]) hour' s4 s5 s6 s7 (by omega) (by omega) (by simp;omega) hs' g0' g3' (fun sun' hour s4 s5 s6 s7 e hs=>h sun' hour s4 s5 s6 s7 (by rw[e];simp;omega) hs)
  simp only[rangeT,forT]
  generalize forT (gN 4) Z1y (rangeT (lo + 1) n) D=F at ih ⊢
  unfold Z1y
  obtain⟨W0,hW0⟩:∃W,W=Z1R:=⟨_,rfl⟩
  rw[← hW0]
  have d441:DivOk 441:=dv (by decide)
  have d7:DivOk 7:=dv (by decide)
  have d9:DivOk 9:=dv (by decide)
  have d63:DivOk 63:=dv (by decide)
  walk_at "go"
  refine⟨ns,2 + lo,rfl,by omega,by omega,?_⟩
  generalize wideF ns (2 + lo)=N
  have f9:=fmod_pos N (b:=9) (by decide)
  have f4:=fmod_pos (N.fdiv 441) (b:=4) (by decide)
  have f5:=fmod_pos (N.fdiv 441) (b:=5) (by decide)
  have g1:=fmod_pos (N.fdiv 9) (b:=7) (by decide)
  have g2:=fmod_pos (N.fdiv 63) (b:=7) (by decide)
  have ix:(N.fmod 9).fdiv 7=0∨(N.fmod 9).fdiv 7=1:=by
   rw[Int.fdiv_eq_ediv_of_nonneg _ (by decide:(0:Int)<=7)]
   omega
  obtain⟨v,hv,ev⟩:=pick_two ((N.fdiv 441).fmod 4 + 1) ((N.fdiv 441).fmod 5 - 3) ix
  have lv:Lim 2 v:=by rcases hv with rfl|rfl<;>exact Lim.of (by omega) (by omega)
  have lx1:Lim 2 ((N.fdiv 9).fmod 7 - 3):=Lim.of (by omega) (by omega)
  have lx2:Lim 2 ((N.fdiv 63).fmod 7 - 3):=Lim.of (by omega) (by omega)
  have ld:LimT 2 ((N.fdiv 9).fmod 7 - 3,(N.fdiv 63).fmod 7 - 3,v):=⟨lx1,lx2,lv⟩
  walk_at "go"
  rw[ev]
  walk_at "go"
  refine⟨eqOk_tri _ _ _ _ _ _,fun _=>?_,fun _=>?_⟩
  ·walk_at "go"
   refine Eq.mpr (congrFun (congrFun hW0 _) _) ?_
   refine sun_k0 (d:=((0:Int),(0:Int),(1:Int))) (by omega) hs g0 g3 ⟨Lim.of (by decide) (by decide),Lim.of (by decide) (by decide),Lim.of (by decide) (by decide)⟩ fun hour' hs' a b=>ih _ _ hs' a b _ _ _ _
  ·walk_at "go"
   refine Eq.mpr (congrFun (congrFun hW0 _) _) ?_
   exact sun_k0 (d:=((N.fdiv 9).fmod 7 - 3,(N.fdiv 63).fmod 7 - 3,v)) (by omega) hs g0 g3 ld fun hour' hs' a b=>ih _ _ hs' a b _ _ _ _
theorem Z7E:∀ts Q,Z3M ts Q->Z6w {nx:=fun _=>Q .non,rt:=Q} (startT 8 ts):=by
 rintro _ Q ⟨ns,m,rfl,hm,h⟩
 unfold Z6w
 obtain⟨W0,hW0⟩:∃W,W=Z1y:=⟨_,rfl⟩
 rw[← hW0]
 walk_at "tw"
 refine⟨ns,1,rfl,by decide,by decide,by decide,by omega,?_⟩
 rw[hW0]
 have z:=sun_loop (D:={nx:=fun τ=>sFrz 2 (sRet (wVar 2)) {nx:=fun _=>Q .non,rt:=Q} τ,rt:=Q}) (ns:=ns) (s1:=.val (.int (m:Int))) m 0 [] ((wideF ns 1).fmod 24) .no .no .no .no (by decide) (by omega) (by simp;omega) ⟨List.Pairwise.nil,fun e he=>absurd he (by simp)⟩ (fmod_pos _ (by decide)).1 (by have:=(fmod_pos (wideF ns 1) (b:=24) (by decide)).2;simp;omega) (fun sun hour s4 s5 s6 s7 e hs=>by
  walk_at "tw"
  exact h sun hour (by simpa using e) hs)
 simpa using z
theorem Most3.lim1{m a b c:Int}(h:Most3 m a b c)(hm:m<=9):Lim3 1 a b c:=by
 have g:∀{i:Int},Most m i->Lim 1 i:=fun h=>Lim.of (by have:=h.1;omega) (by have:=h.2;omega)
 exact⟨g h.1,g h.2.1,g h.2.2⟩
abbrev dcT(x:Pl×Tr×Tr):T:=.tup [plT x.1,trT x.2.1,trT x.2.2]
def Z34:SpT:=fun ts Q=>∃(n:Int) (sun:List (Int×Tr)),ts=[.int n,.lst (sun.map sT)]/\0 < sun.length/\(∀e∈sun,LimT 2 e.2)/\∀x:Pl×Tr×Tr,PlLim 10 x.1->LimT 10 x.2.1->LimT 4 x.2.2->Q (dcT x)
theorem Z6Y:∀ts Q,Z34 ts Q->ts.length=2:=by rintro ts Q ⟨_,_,e,_⟩;subst e;rfl
def Z22:WS :=
 (sSeq (sSet 0 (w2 rDivT (wVar 0) (w2 rPowT (wC (.int 10)) (wC (.int 10)))))
  (sSeq (sSet 5 (wCall Z16 (aCons (wVar 0) (aCons (wC (.int 6)) aNil))))
  (sSeq (sSet 0 (w2 rDivT (wVar 0) (w2 rPowT (wC (.int 13)) (wC (.int 3)))))
  (sSeq (sSet 6 (w2 rIxTT (wLst (aCons (w2 rModT (wVar 0) (w2 rAddT (wVar 2) (wC (.int 1)))) (aCons (w2 rSubT (w2 rModT (wVar 0) (w2 rAddT (wVar 2) (wC (.int 3)))) (wC (.int 1))) aNil))) (w2 rDivT (w2 rModT (w2 rDivT (wVar 0) (wC (.int 30))) (wC (.int 4))) (wC (.int 3)))))
  (sSeq (sSet 7 (w2 rIxTT (wLst (aCons (w2 rModT (w2 rDivT (wVar 0) (wC (.int 120))) (w2 rAddT (wVar 2) (wC (.int 1)))) (aCons (w2 rSubT (w2 rModT (w2 rDivT (wVar 0) (wC (.int 120))) (w2 rAddT (wVar 2) (wC (.int 3)))) (wC (.int 1))) aNil))) (w2 rDivT (w2 rModT (w2 rDivT (wVar 0) (wC (.int 3600))) (wC (.int 4))) (wC (.int 3)))))
  (sSeq (sSet 8 (wCall Z1H (aCons (wCall Z1H (aCons (wVar 5) (aCons (wVar 10) (aCons (wVar 6) aNil)))) (aCons (wVar 11) (aCons (wVar 7) aNil)))))
  (sSeq (sSet 9 (wCall Z1H (aCons (wVar 8) (aCons (wVar 3) (aCons (w2 rAddT (wC (.int 1)) (w2 rModT (w2 rDivT (wVar 0) (wC (.int 14400))) (wC (.int 6)))) aNil)))))
  (sRet (wTup (aCons (wTup (aCons (wVar 5) (aCons (wCall Z1H (aCons (wTup (aCons (wC (.int 0)) (aCons (wC (.int 0)) (aCons (wC (.int 0)) aNil)))) (aCons (wVar 10) (aCons (wVar 2) aNil)))) (aCons (wCall Z1H (aCons (wTup (aCons (wC (.int 0)) (aCons (wC (.int 0)) (aCons (wC (.int 0)) aNil)))) (aCons (wVar 11) (aCons (wVar 2) aNil)))) aNil)))) (aCons (wVar 9) (aCons (wVar 8) aNil))))))))))))
def Z23:WS :=
 (sSeq (sIf (tCmpT cEqT (wVar 4) (wC (.int 0))) (sSet 3 (wCall Z1x (aCons (wVar 10) (aCons (wVar 11) aNil)))) sNext)
  Z22)
def Z4U:WS :=
 (sSeq (sSet 2 (w2 rAddT (wC (.int 1)) (w2 rModT (wVar 0) (wC (.int 4)))))
  (sSeq (sSet 0 (w2 rDivT (wVar 0) (wC (.int 4))))
  (sSeq (sAsg (gT 2 (gsC (gN 10) (gsC (gN 11) gs0))) (wCall Z2o (aCons (w2 rDivT (wVar 0) (wC (.int 2000))) (aCons (wC (.int 2)) aNil))))
  (sSeq (sSet 3 (w2 rIxTT (w2 rIxTT (wVar 1) (w2 rModT (wVar 0) (wCB rLenT (aCons (wVar 1) aNil)))) (wC (.int 1))))
  (sSeq (sSet 4 (wCall Z3L (aCons (wCall Z1x (aCons (wVar 10) (aCons (wVar 11) aNil))) (aCons (wVar 3) aNil))))
  (sSeq (sIf (tCmpT cLtT (wVar 4) (wC (.int 0))) (sPar 10 11 (aCons (wVar 11) (aCons (wVar 10) aNil))) sNext)
  Z23))))))
theorem dial_k0{Q:T->Prop}{n m d e f x y z u v w:Int}{s1 s4 s5 s6 s7 s8 s9:Slot}(hm0:1<=m)(hm1:m<=4)(ld:Lim3 1 d e f)(lx:Lim3 1 x y z)(lu:Lim3 3 u v w)(h:∀x:Pl×Tr×Tr,PlLim 10 x.1->LimT 10 x.2.1->LimT 4 x.2.2->Q (dcT x)) :
  Z22 {nx:=fun _=>Q .non,rt:=Q} [.val (.int n),s1,.val (.int m),.val (tri u v w),s4,s5,s6,s7,s8,s9,.val (tri d e f),.val (tri x y z)]:=by
 have c10:=cpow10 10 (by decide)
 have d10:=pow_div 10 (by decide)
 have c13:CPow 13 3:=⟨by decide,by decide,by decide⟩
 have d13:DivOk (13 ^ 3):=divOk (n:=6) (by decide) (Lim.of (by decide) (by decide))
 have d30:DivOk 30:=dv (by decide)
 have d3:DivOk 3:=dv (by decide)
 have d120:DivOk 120:=dv (by decide)
 have d3600:DivOk 3600:=dv (by decide)
 have d14400:DivOk 14400:=dv (by decide)
 have lm:Lim 1 m:=Lim.of (by omega) (by omega)
 have nz1:m + 1≠0:=by omega
 have nz3:m + 3≠0:=by omega
 unfold Z22
 walk_at "go"
 refine⟨_,6,rfl,by decide,by decide,fun a b c A B C=>?_⟩
 have la:Lim3 1 a b c:=Most3.lim1 ⟨A,B,C⟩ (by decide)
 generalize hN:(n.fdiv (10 ^ Int.toNat 10)).fdiv (13 ^ Int.toNat 3)=N
 have ixf:∀X:Int,(X.fmod 4).fdiv 3=0∨(X.fmod 4).fdiv 3=1:=fun X=>by
  have:=fmod_pos X (b:=4) (by decide)
  rw[Int.fdiv_eq_ediv_of_nonneg _ (by decide:(0:Int)<=3)]
  omega
 obtain⟨i,hi,ei⟩:=pick_two (N.fmod (m + 1)) (N.fmod (m + 3) - 1) (ixf (N.fdiv 30))
 obtain⟨j,hj,ej⟩:=pick_two ((N.fdiv 120).fmod (m + 1)) ((N.fdiv 120).fmod (m + 3) - 1) (ixf (N.fdiv 3600))
 have li:Lim 1 i:=by
  have g1:=fmod_pos N (b:=m + 1) (by omega)
  have g2:=fmod_pos N (b:=m + 3) (by omega)
  rcases hi with rfl|rfl<;>exact Lim.of (by omega) (by omega)
 have lj:Lim 1 j:=by
  have g1:=fmod_pos (N.fdiv 120) (b:=m + 1) (by omega)
  have g2:=fmod_pos (N.fdiv 120) (b:=m + 3) (by omega)
  rcases hj with rfl|rfl<;>exact Lim.of (by omega) (by omega)
 walk_at "go"
 rw[hN,ei]
 walk_at "go"
 try rw[hN]
 rw[ej]
 walk_at "go"
 refine⟨_,_,_,_,_,_,_,rfl,lim4 ld li (by decide) (by decide),?_⟩
 walk_at "go"
 refine⟨_,_,_,_,_,_,_,rfl,lim4 lx lj (by decide) (by decide),?_⟩
 have p1:=on3 la ld li (k:=3) (by decide) (by decide)
 have p2:=on3 p1 lx lj (k:=4) (by decide) (by decide)
 have f6:=fmod_pos (N.fdiv 14400) (b:=6) (by decide)
 have lk:Lim 1 (1 + (N.fdiv 14400).fmod 6):=Lim.of (by omega) (by omega)
 have p3:=on3 p2 lu lk (k:=10) (by decide) (by decide)
 walk_at "go"
 refine⟨_,_,_,_,_,_,_,rfl,lim4 lu lk (by decide) (by decide),?_⟩
 walk_at "go"
 refine⟨_,_,_,_,_,_,_,rfl,lim4 ld lm (by decide) (by decide),?_⟩
 walk_at "go"
 refine⟨_,_,_,_,_,_,_,rfl,lim4 lx lm (by decide) (by decide),?_⟩
 have lD:=on3 z3 ld lm (k:=10) (by decide) (by decide)
 have lX:=on3 z3 lx lm (k:=10) (by decide) (by decide)
 have la':=la.mono (k':=10) (by decide)
 walk_at "go"
 exact h (((a,b,c),(0 + m * d,0 + m * e,0 + m * f),(0 + m * x,0 + m * y,0 + m * z)),(_,_,_),(_,_,_)) ⟨la',lD,lX⟩ p3 p2
theorem dial_k1{Q:T->Prop}{n m d e f x y z u v w a:Int}{s1 s5 s6 s7 s8 s9:Slot}(hm0:1<=m)(hm1:m<=4)(ld:Lim3 1 d e f)(lx:Lim3 1 x y z)(lu:Lim3 2 u v w)(h:∀x:Pl×Tr×Tr,PlLim 10 x.1->LimT 10 x.2.1->LimT 4 x.2.2->Q (dcT x)) :
  Z23 {nx:=fun _=>Q .non,rt:=Q} [.val (.int n),s1,.val (.int m),.val (tri u v w),.val (.int a),s5,s6,s7,s8,s9,.val (tri d e f),.val (tri x y z)]:=by
 unfold Z23
 obtain⟨W0,hW0⟩:∃W,W=Z22:=⟨_,rfl⟩
 rw[← hW0]
 walk_at "go"
 refine⟨fun _=>?_,fun _=>?_⟩
 ·walk_at "go"
  refine⟨_,_,_,_,_,_,rfl,lim6 ld lx (by decide) (by decide),?_⟩
  walk_at "go"
  refine Eq.mpr (congrFun (congrFun hW0 _) _) ?_
  exact dial_k0 hm0 hm1 ld lx (lim_cross3 ld lx (by decide)) h
 ·walk_at "go"
  refine Eq.mpr (congrFun (congrFun hW0 _) _) ?_
  exact dial_k0 hm0 hm1 ld lx (lu.mono (by decide)) h
theorem Z7p:∀ts Q,Z34 ts Q->Z4U {nx:=fun _=>Q .non,rt:=Q} (startT 12 ts):=by
 rintro _ Q ⟨n,sun,rfl,hl,hs,h⟩
 have d4:DivOk 4:=dv (by decide)
 have d2000:DivOk 2000:=dv (by decide)
 have f4:=fmod_pos n (b:=4) (by decide)
 have hlz:((sun.map sT).length:Int)≠0:=by rw[List.length_map];omega
 unfold Z4U
 obtain⟨W0,hW0⟩:∃W,W=Z23:=⟨_,rfl⟩
 rw[← hW0]
 walk_at "go"
 refine⟨_,2,rfl,by decide,by decide,fun d e f x y z A B NF=>?_⟩
 have ld:=A.lim1 (by decide)
 have lx:=B.lim1 (by decide)
 have fl:=fmod_pos (n.fdiv 4) (b:=((sun.map sT).length:Int)) (by rw[List.length_map];omega)
 obtain⟨en,me,ee⟩:=atI_mapG (f:=sT) (l:=sun) fl.1 (by have:=fl.2;rw[List.length_map]at this ⊢;exact this)
 have lu:=hs en me
 walk_at "go"
 rw[ee]
 walk_at "go"
 refine⟨_,_,_,_,_,_,rfl,lim6 ld lx (by decide) (by decide),?_⟩
 have lF:=lim_cross3 ld lx (k:=3) (by decide)
 walk_at "go"
 refine⟨_,_,_,_,_,_,rfl,lim6 lF lu (by decide) (by decide),?_⟩
 walk_at "go"
 refine⟨fun _=>?_,fun _=>?_⟩
 ·walk_at "go"
  refine Eq.mpr (congrFun (congrFun hW0 _) _) ?_
  exact dial_k1 (by omega) (by omega) lx ld lu h
 ·walk_at "go"
  refine Eq.mpr (congrFun (congrFun hW0 _) _) ?_
  exact dial_k1 (by omega) (by omega) ld lx lu h
theorem pn_tr(t:Tr):Pn 1 (trT t):=Pn.tup fun x hx=>by
 simp only[List.mem_cons,List.not_mem_nil,or_false]at hx
 rcases hx with rfl|rfl|rfl<;>exact Pn.int _
theorem pn_pl(p:Pl):Pn 2 (plT p):=Pn.tup fun x hx=>by
 simp only[List.mem_cons,List.not_mem_nil,or_false]at hx
 rcases hx with rfl|rfl|rfl<;>exact pn_tr _
theorem eqOk_dcs(l:List (Pl×Tr×Tr)):EqOk (.lst (l.map dcT)) (.lst []):=by
 refine(Pn.lst (n:=3) fun x hx=>?_).ok (Pn.lst (n:=0) fun x hx=>absurd hx (by simp)) (by decide)
 obtain⟨y,_,rfl⟩:=List.mem_map.mp hx
 refine Pn.tup fun x hx=>?_
 simp only[List.mem_cons,List.not_mem_nil,or_false]at hx
 rcases hx with rfl|rfl|rfl
 ·exact pn_pl _
 ·exact(pn_tr _).up (by decide)
 ·exact(pn_tr _).up (by decide)
theorem eqT_nilG{α:Type}(f:α->T)(l:List α):eqT (.lst (l.map f)) (.lst [])=decide (l=[]):=by
 cases l with
 | nil=>rfl
 | cons x r=>exact(decide_eq_false (by simp)).symm
def Z2G:SpT:=fun ts Q=>∃(n:Int) (sun:List (Int×Tr)) (ds:List (Pl×Tr×Tr)),ts=[.int n,.lst (sun.map sT),.lst (ds.map dcT)]/\0 < sun.length/\(∀e∈sun,LimT 2 e.2)/\(∀x∈ds,LimT 4 x.2.2)/\∀p:Pl,PlLim 12 p->Q (plT p)
theorem Z6x:∀ts Q,Z2G ts Q->ts.length=3:=by rintro ts Q ⟨_,_,_,e,_⟩;subst e;rfl
def Z1S:WS :=
 (sSeq (sSet 4 (w2 rIxTT (w2 rIxTT (wVar 1) (w2 rModT (w2 rDivT (wVar 0) (wC (.int 60))) (wCB rLenT (aCons (wVar 1) aNil)))) (wC (.int 1))))
  (sSeq (sSet 0 (w2 rDivT (wVar 0) (wC (.int 3600))))
  (sSeq (sSet 5 (w2 rAddT (wC (.int 1)) (w2 rModT (wVar 0) (wC (.int 3)))))
  (sSeq (sAsg (gT 2 (gsC (gN 10) (gsC (gN 11) gs0))) (wCall Z2o (aCons (w2 rDivT (wVar 0) (wC (.int 3))) (aCons (wC (.int 2)) aNil))))
  (sSeq (sSet 0 (w2 rDivT (wVar 0) (w2 rPowT (wC (.int 10)) (wC (.int 6)))))
  (sSeq (sSet 6 (wCall Z1H (aCons (wVar 3) (aCons (wVar 4) (aCons (w2 rSubT (w2 rModT (wVar 0) (wC (.int 9))) (wC (.int 1))) aNil)))))
  (sSeq (sSet 7 (w2 rSubT (w2 rModT (w2 rDivT (wVar 0) (wC (.int 9))) (w2 rAddT (wVar 5) (wC (.int 2)))) (wC (.int 1))))
  (sSeq (sSet 8 (w2 rSubT (w2 rModT (w2 rDivT (wVar 0) (wC (.int 60))) (w2 rAddT (wVar 5) (wC (.int 2)))) (wC (.int 1))))
  (sSeq (sSet 9 (wCall Z1H (aCons (wCall Z1H (aCons (wVar 6) (aCons (wVar 10) (aCons (w2 rSubT (wC (.int 0)) (wVar 7)) aNil)))) (aCons (wVar 11) (aCons (w2 rSubT (wC (.int 0)) (wVar 8)) aNil)))))
  (sRet (wTup (aCons (wVar 9) (aCons (wCall Z1H (aCons (wTup (aCons (wC (.int 0)) (aCons (wC (.int 0)) (aCons (wC (.int 0)) aNil)))) (aCons (wVar 10) (aCons (wVar 5) aNil)))) (aCons (wCall Z1H (aCons (wTup (aCons (wC (.int 0)) (aCons (wC (.int 0)) (aCons (wC (.int 0)) aNil)))) (aCons (wVar 11) (aCons (wVar 5) aNil)))) aNil))))))))))))))
def Z46:WS :=
 (sSeq (sSet 3 (wTup (aCons (wC (.int 0)) (aCons (wC (.int 0)) (aCons (wC (.int 1)) aNil)))))
  (sSeq (sIf (tCmpT cNeT (wVar 2) (wLst aNil)) (sSet 3 (w2 rIxTT (w2 rIxTT (wVar 2) (w2 rModT (wVar 0) (wCB rLenT (aCons (wVar 2) aNil)))) (wC (.int 2)))) sNext)
  Z1S))
theorem fence_k0{Q:T->Prop}{n t0 t1 t2:Int}{sun:List (Int×Tr)}{s2 s4 s5 s6 s7 s8 s9 s10 s11:Slot}(hl:0 < sun.length)(hs:∀e∈sun,LimT 2 e.2)(lt:Lim3 4 t0 t1 t2)(h:∀p:Pl,PlLim 12 p->Q (plT p)) :
  Z1S {nx:=fun _=>Q .non,rt:=Q} [.val (.int n),.val (.lst (sun.map sT)),s2,.val (tri t0 t1 t2),s4,s5,s6,s7,s8,s9,s10,s11]:=by
 have c6:=cpow10 6 (by decide)
 have d6:=pow_div 6 (by decide)
 have d60:DivOk 60:=dv (by decide)
 have d3600:DivOk 3600:=dv (by decide)
 have d3:DivOk 3:=dv (by decide)
 have d9:DivOk 9:=dv (by decide)
 have hlz:((sun.map sT).length:Int)≠0:=by rw[List.length_map];omega
 have fl:=fmod_pos (n.fdiv 60) (b:=((sun.map sT).length:Int)) (by rw[List.length_map];omega)
 obtain⟨en,me,ee⟩:=atI_mapG (f:=sT) (l:=sun) fl.1 (by have:=fl.2;rw[List.length_map]at this ⊢;exact this)
 have lu:=hs en me
 have f3:=fmod_pos (n.fdiv 3600) (b:=3) (by decide)
 unfold Z1S
 walk_at "go"
 rw[ee]
 walk_at "go"
 refine⟨_,2,rfl,by decide,by decide,fun d e f x y z A B NF=>?_⟩
 have ld:=A.lim1 (by decide)
 have lx:=B.lim1 (by decide)
 generalize hm:1 + (n.fdiv 3600).fmod 3=m
 have lm:Lim 1 m:=Lim.of (by omega) (by omega)
 have nz2:m + 2≠0:=by omega
 generalize hN:(n.fdiv 3600).fdiv (10 ^ Int.toNat 6)=N
 have f9:=fmod_pos N (b:=9) (by decide)
 have l9:Lim 1 (N.fmod 9 - 1):=Lim.of (by omega) (by omega)
 have fi:=fmod_pos (N.fdiv 9) (b:=m + 2) (by omega)
 have fj:=fmod_pos (N.fdiv 60) (b:=m + 2) (by omega)
 have li:Lim 1 (0 - ((N.fdiv 9).fmod (m + 2) - 1)):=Lim.of (by omega) (by omega)
 have lj:Lim 1 (0 - ((N.fdiv 60).fmod (m + 2) - 1)):=Lim.of (by omega) (by omega)
 have p1:=on3 lt lu l9 (k:=9) (by decide) (by decide)
 have p2:=on3 p1 ld li (k:=10) (by decide) (by decide)
 have p3:=on3 p2 lx lj (k:=12) (by decide) (by decide)
 have lD:=on3 z3 ld lm (k:=12) (by decide) (by decide)
 have lX:=on3 z3 lx lm (k:=12) (by decide) (by decide)
 walk_at "go"
 rw[hN]
 refine⟨_,_,_,_,_,_,_,rfl,lim4 lu l9 (by decide) (by decide),?_⟩
 walk_at "go"
 refine⟨_,_,_,_,_,_,_,rfl,lim4 ld li (by decide) (by decide),?_⟩
 walk_at "go"
 refine⟨_,_,_,_,_,_,_,rfl,lim4 lx lj (by decide) (by decide),?_⟩
 walk_at "go"
 refine⟨_,_,_,_,_,_,_,rfl,lim4 ld lm (by decide) (by decide),?_⟩
 walk_at "go"
 refine⟨_,_,_,_,_,_,_,rfl,lim4 lx lm (by decide) (by decide),?_⟩
 walk_at "go"
 exact h ((_,_,_),(0 + m * d,0 + m * e,0 + m * f),(0 + m * x,0 + m * y,0 + m * z)) ⟨p3,lD,lX⟩
theorem Z6Z:∀ts Q,Z2G ts Q->Z46 {nx:=fun _=>Q .non,rt:=Q} (startT 12 ts):=by
 rintro _ Q ⟨n,sun,ds,rfl,hl,hs,hd,h⟩
 unfold Z46
 obtain⟨W0,hW0⟩:∃W,W=Z1S:=⟨_,rfl⟩
 rw[← hW0]
 walk_at "go"
 refine⟨eqOk_dcs ds,?_⟩
 rw[eqT_nilG]
 refine⟨fun c=>?_,fun c=>?_⟩
 ·have ne:ds≠[]:=by simpa using c
  have hp:0 < ds.length:=List.length_pos_iff.mpr ne
  have hlz:((ds.map dcT).length:Int)≠0:=by rw[List.length_map];omega
  have fl:=fmod_pos n (b:=((ds.map dcT).length:Int)) (by rw[List.length_map];omega)
  obtain⟨en,me,ee⟩:=atI_mapG (f:=dcT) (l:=ds) fl.1 (by have:=fl.2;rw[List.length_map]at this ⊢;exact this)
  walk_at "go"
  rw[ee]
  walk_at "go"
  refine Eq.mpr (congrFun (congrFun hW0 _) _) ?_
  exact fence_k0 hl hs (hd en me) h
 ·walk_at "go"
  refine Eq.mpr (congrFun (congrFun hW0 _) _) ?_
  exact fence_k0 hl hs ⟨Lim.of (by decide) (by decide),Lim.of (by decide) (by decide),Lim.of (by decide) (by decide)⟩ h
abbrev chS(c:Nat):Str:=⟨#[c]⟩
def nameF(pad k:Int):Str:=repS (Str.ofString "x") (pad.fmod 5)++(chS (97 + ((k + pad.fdiv 20).fmod 26).toNat)++chS (97 + (k.fdiv 26).toNat))++repS (Str.ofString "q") ((pad.fdiv 4).fmod 3)
theorem letters_at:∀j:Fin 26,atI (Str.ofString "abcdefghijklmnopqrstuvwxyz").cps.toList ((j:Nat):Int)=some (97 + (j:Nat)):=by decide +kernel
theorem letter_at{i:Int}(h0:0<=i)(h1:i < 26):atI (Str.ofString "abcdefghijklmnopqrstuvwxyz").cps.toList i=some (97 + i.toNat):=by
 have:=letters_at ⟨i.toNat,by omega⟩
 rw[show ((i.toNat:Nat):Int)=i by omega]at this
 exact this
theorem repx{n:Int}(h0:0<=n)(h1:n<=4):SOk (repS (Str.ofString "x") n)/\(repS (Str.ofString "x") n).length<=4:=by
 have:n=0∨n=1∨n=2∨n=3∨n=4:=by omega
 rcases this with rfl|rfl|rfl|rfl|rfl<;>exact⟨by decide +kernel,by decide +kernel⟩
theorem repq{n:Int}(h0:0<=n)(h1:n<=4):SOk (repS (Str.ofString "q") n)/\(repS (Str.ofString "q") n).length<=4:=by
 have:n=0∨n=1∨n=2∨n=3∨n=4:=by omega
 rcases this with rfl|rfl|rfl|rfl|rfl<;>exact⟨by decide +kernel,by decide +kernel⟩
theorem cps_app(a b:Str):(a++b).cps=a.cps++b.cps:=rfl
theorem sok_app{a b:Str}(ha:SOk a)(hb:SOk b):SOk (a++b):=by
 unfold SOk PyData.strOk at *
 rw[cps_app,Array.all_append,ha,hb]
 rfl
theorem len_app(a b:Str):(a++b).length=a.length + b.length:=by
 simp[Str.length,cps_app]
theorem sok_ch{c:Nat}(h:c < 1000):SOk (chS c):=by
 unfold SOk PyData.strOk
 simp
 omega
theorem nameF_ok{pad k:Int}(hk:0<=k/\k < 100):SOk (nameF pad k):=by
 have f4:0<=k.fdiv 26/\k.fdiv 26 < 26:=by
  rw[Int.fdiv_eq_ediv_of_nonneg _ (by decide:(0:Int)<=26)]
  omega
 have f1:=fmod_pos pad (b:=5) (by decide)
 have f2:=fmod_pos (pad.fdiv 4) (b:=3) (by decide)
 have f3:=fmod_pos (k + pad.fdiv 20) (b:=26) (by decide)
 exact sok_app (sok_app (repx f1.1 (by omega)).1 (sok_app (sok_ch (by omega)) (sok_ch (by omega)))) (repq f2.1 (by omega)).1
theorem nameF_inj{pad k k':Int}(h0:0<=k)(h1:k < 100)(h0':0<=k')(h1':k' < 100)(e:nameF pad k=nameF pad k'):k=k':=by
 have e2:(nameF pad k).cps.toList=(nameF pad k').cps.toList:=by rw[e]
 unfold nameF at e2
 simp only[cps_app,Array.toList_append,List.append_assoc]at e2
 have e3:=List.append_cancel_left e2
 have e5:(97 + ((k + pad.fdiv 20).fmod 26).toNat)=(97 + ((k' + pad.fdiv 20).fmod 26).toNat)/\(97 + (k.fdiv 26).toNat)=(97 + (k'.fdiv 26).toNat):=by
  simpa using e3
 have f:=fmod_pos (k + pad.fdiv 20) (b:=26) (by decide)
 have f':=fmod_pos (k' + pad.fdiv 20) (b:=26) (by decide)
 have e6:(k + pad.fdiv 20).fmod 26=(k' + pad.fdiv 20).fmod 26:=by omega
 have e7:=e5.2
 rw[Int.fmod_eq_emod_of_nonneg _ (by decide),Int.fmod_eq_emod_of_nonneg _ (by decide)]at e6
 rw[Int.fdiv_eq_ediv_of_nonneg _ (by decide:(0:Int)<=26),Int.fdiv_eq_ediv_of_nonneg _ (by decide:(0:Int)<=26)]at e7
 omega
def Z1e:SpT:=fun ts Q=>∃(ns:List Int) (k:Int),ts=[.lst (ns.map T.int),.int k]/\0<=k/\k < 100/\Q (.str (nameF (wideF ns 60) k))
theorem Z70:∀ts Q,Z1e ts Q->ts.length=2:=by rintro ts Q ⟨_,_,e,_⟩;subst e;rfl
def Z4V:WS :=
 (sSeq (sSet 2 (wC (.str (Str.ofString "abcdefghijklmnopqrstuvwxyz"))))
  (sSeq (sSet 3 (wCall Z06 (aCons (wVar 0) (aCons (wC (.int 60)) aNil))))
  (sSeq (sSet 4 (w2 rAddST (w2 rIxST (wVar 2) (w2 rModT (w2 rAddT (wVar 1) (w2 rDivT (wVar 3) (wC (.int 20)))) (wC (.int 26)))) (w2 rIxST (wVar 2) (w2 rDivT (wVar 1) (wC (.int 26))))))
  (sRet (w2 rAddST (w2 rAddST (w2 rMulST (wC (.str (Str.ofString "x"))) (w2 rModT (wVar 3) (wC (.int 5)))) (wVar 4)) (w2 rMulST (wC (.str (Str.ofString "q"))) (w2 rModT (w2 rDivT (wVar 3) (wC (.int 4))) (wC (.int 3)))))))))
theorem Z7q:∀ts Q,Z1e ts Q->Z4V {nx:=fun _=>Q .non,rt:=Q} (startT 5 ts):=by
 rintro _ Q ⟨ns,k,rfl,h0,h1,h⟩
 have d20:DivOk 20:=dv (by decide)
 have d26:DivOk 26:=dv (by decide)
 have d4:DivOk 4:=dv (by decide)
 unfold Z4V
 walk_at "go"
 refine⟨ns,60,rfl,by decide,by decide,?_⟩
 generalize wideF ns 60=P at *
 have f1:=fmod_pos P (b:=5) (by decide)
 have f2:=fmod_pos (P.fdiv 4) (b:=3) (by decide)
 have f3:=fmod_pos (k + P.fdiv 20) (b:=26) (by decide)
 have l26:(Str.ofString "abcdefghijklmnopqrstuvwxyz").length<=1000:=by decide +kernel
 have lx:(Str.ofString "x").length<=1:=by decide +kernel
 have lq:(Str.ofString "q").length<=1:=by decide +kernel
 have k0:0<=k.fdiv 26/\k.fdiv 26 < 26:=by
  rw[Int.fdiv_eq_ediv_of_nonneg _ (by decide:(0:Int)<=26)]
  omega
 walk_at "go"
 rw[letter_at f3.1 f3.2]
 walk_at "go"
 rw[letter_at k0.1 k0.2]
 have rx:=repx f1.1 (by omega)
 have rq:=repq f2.1 (by omega)
 have g1:0<=P.fmod 5:=f1.1
 have g2:P.fmod 5<=1000:=by omega
 have g3:0<=(P.fdiv 4).fmod 3:=f2.1
 have g4:(P.fdiv 4).fmod 3<=1000:=by omega
 have m2:(chS (97 + ((k + P.fdiv 20).fmod 26).toNat)++chS (97 + (k.fdiv 26).toNat)).length=2:=rfl
 have hA:(repS (Str.ofString "x") (P.fmod 5)).length + (chS (97 + ((k + P.fdiv 20).fmod 26).toNat)++chS (97 + (k.fdiv 26).toNat)).length<=1000:=by rw[m2];omega
 have hB:(repS (Str.ofString "x") (P.fmod 5)++(chS (97 + ((k + P.fdiv 20).fmod 26).toNat)++chS (97 + (k.fdiv 26).toNat))).length + (repS (Str.ofString "q") ((P.fdiv 4).fmod 3)).length<=1000:=by rw[len_app,m2];omega
 walk_at "go"
 exact h
def wTh(pad:Int):Int->List Pl->List Th
 | _,[]=>[]
 | k,p::r=>(nameF pad k,p,none)::wTh pad (k + 1) r
def dTh(pad:Int):Int->List (Pl×Tr×Tr)->List Th
 | _,[]=>[]
 | k,x::r=>(nameF pad k,x.1,some x.2.1)::dTh pad (k + 1) r
def Z35:SpT:=fun ts Q=>∃(ns:List Int) (md ms mh:Int),ts=[.lst (ns.map T.int),.int md,.int ms,.int mh]/\(0<=md/\md<=7)/\(0<=ms/\ms<=6)/\(1<=mh/\mh<=20) ∧
 ∀(sun:List (Int×Tr))(h:Int)(ws:List Pl)(ds:List (Pl×Tr×Tr)),0 < sun.length->sun.length<=30->SunOk sun h->(ws.length:Int)<=ms->(ds.length:Int)<=md->(∀p∈ws,PlLim 12 p)->(∀x∈ds,PlLim 10 x.1/\LimT 10 x.2.1) →
  Q (.tup [.lst (sun.map sT),.lst ((wTh (wideF ns 60) 0 ws).map thT),.lst ((dTh (wideF ns 60) 20 ds).map thT)])
theorem Z71:∀ts Q,Z35 ts Q->ts.length=4:=by rintro ts Q ⟨_,_,_,_,e,_⟩;subst e;rfl
def Z1N:WE :=
 (wTup (aCons (wCall Z1e (aCons (wVar 1) (aCons (wVar 0) aNil))) (aCons (w2 rIxTT (wVar 2) (wVar 0)) aNil)))
def Z1O:WE :=
 (wTup (aCons (wCall Z1e (aCons (wVar 1) (aCons (w2 rAddT (wC (.int 20)) (wVar 0)) aNil))) (aCons (w2 rIxTT (w2 rIxTT (wVar 2) (wVar 0)) (wC (.int 0))) (aCons (w2 rIxTT (w2 rIxTT (wVar 2) (wVar 0)) (wC (.int 1))) aNil))))
def Z17:WS :=
 (sApp 6 (wCall Z34 (aCons (wCall Z06 (aCons (wVar 0) (aCons (w2 rAddT (wC (.int 20)) (wVar 7)) aNil))) (aCons (wVar 5) aNil))))
def Z18:WS :=
 (sApp 8 (wCall Z2G (aCons (wCall Z06 (aCons (wVar 0) (aCons (w2 rAddT (wC (.int 40)) (wVar 7)) aNil))) (aCons (wVar 5) (aCons (wVar 6) aNil)))))
def Z60:WS :=
 (sSeq (sSet 4 (w2 rDivT (wCall Z06 (aCons (wVar 0) (aCons (wC (.int 0)) aNil))) (wC (.int 2))))
  (sSeq (sSet 5 (wCall Z3M (aCons (wVar 0) (aCons (w2 rAddT (wC (.int 1)) (w2 rModT (wVar 4) (wVar 3))) aNil))))
  (sSeq (sOwn 6 aNil)
  (sSeq (sFor (iRange1 (aCons (w2 rModT (w2 rDivT (wVar 4) (wC (.int 100))) (w2 rAddT (wVar 1) (wC (.int 1)))) aNil)) (gN 7) Z17)
  (sSeq (sOwn 8 aNil)
  (sFrz 6 (sSeq (sFor (iRange1 (aCons (w2 rModT (w2 rDivT (wVar 4) (wC (.int 10000))) (w2 rAddT (wVar 2) (wC (.int 1)))) aNil)) (gN 7) Z18)
  (sFrz 8 (sSeq (sSet 9 (wComp (iRange1 (aCons (wCB rLenT (aCons (wVar 8) aNil)) aNil)) (gN 0) tTrue Z1N 1 [0,8]))
  (sSeq (sSet 10 (wComp (iRange1 (aCons (wCB rLenT (aCons (wVar 6) aNil)) aNil)) (gN 0) tTrue Z1O 1 [0,6]))
  (sRet (wTup (aCons (wVar 5) (aCons (wVar 9) (aCons (wVar 10) aNil)))))))))))))))
theorem atI_drop{α:Type}{f:α->T}{l:List α}{i:Nat}(h:i < l.length):atI (l.map f) (i:Int)=some (f l[i])/\l.drop i=l[i]::l.drop (i + 1):=by
 refine⟨?_,List.drop_eq_getElem_cons h⟩
 unfold atI ixN
 rw[List.length_map,if_pos (by omega),if_pos (by omega)]
 simp only[Option.bind,Int.toNat_natCast]
 rw[List.getElem?_map,List.getElem?_eq_getElem h]
 rfl
theorem named_comp{Q:List T->Prop}{ns:List Int}{ps:List Pl}(hl:ps.length<=20):∀(n lo:Nat)(acc:List T)(s:Slot),lo + n=ps.length->Q (acc++(wTh (wideF ns 60) lo (ps.drop lo)).map thT) →
  compT (gN 0) tTrue Z1N (rangeT lo n) acc [s,.val (.lst (ns.map T.int)),.val (.lst (ps.map plT))] Q
 | 0,lo,acc,s,e,h=>by
  rw[List.drop_of_length_le (by omega)]at h
  simp only[wTh,List.map_nil,List.append_nil]at h
  exact h
 | n + 1,lo,acc,s,e,h=>by
  have ih:=fun (acc:List T) (s:Slot) h=>named_comp (Q:=Q) (ns:=ns) hl n (lo + 1) acc s (by omega) h
  obtain⟨e1,e2⟩:=atI_drop (f:=plT) (l:=ps) (i:=lo) (by omega)
  rw[e2]at h
  simp only[wTh,List.map_cons]at h
  simp only[rangeT,compT]
  rw[show ((lo:Int) + 1)=((lo + 1:Nat):Int) by simp]at h ⊢
  generalize compT (gN 0) tTrue Z1N (rangeT ((lo + 1:Nat):Int) n)=F at ih ⊢
  unfold Z1N
  walk_at "go"
  refine⟨ns,lo,rfl,by omega,by omega,?_⟩
  walk_at "go"
  rw[e1]
  walk_at "go"
  refine ih _ _ ?_
  simpa [thT] using h
theorem faces_comp{Q:List T->Prop}{ns:List Int}{ps:List (Pl×Tr×Tr)}(hl:ps.length<=7):∀(n lo:Nat)(acc:List T)(s:Slot),lo + n=ps.length->Q (acc++(dTh (wideF ns 60) (20 + lo) (ps.drop lo)).map thT) →
  compT (gN 0) tTrue Z1O (rangeT lo n) acc [s,.val (.lst (ns.map T.int)),.val (.lst (ps.map dcT))] Q
 | 0,lo,acc,s,e,h=>by
  rw[List.drop_of_length_le (by omega)]at h
  simp only[dTh,List.map_nil,List.append_nil]at h
  exact h
 | n + 1,lo,acc,s,e,h=>by
  have ih:=fun (acc:List T) (s:Slot) h=>faces_comp (Q:=Q) (ns:=ns) hl n (lo + 1) acc s (by omega) h
  obtain⟨e1,e2⟩:=atI_drop (f:=dcT) (l:=ps) (i:=lo) (by omega)
  rw[e2]at h
  simp only[dTh,List.map_cons]at h
  simp only[rangeT,compT]
  rw[show (20 + (lo:Int) + 1)=20 + ((lo + 1:Nat):Int) by omega]at h
  rw[show ((lo:Int) + 1)=((lo + 1:Nat):Int) by simp]
  generalize compT (gN 0) tTrue Z1O (rangeT ((lo + 1:Nat):Int) n)=F at ih ⊢
  unfold Z1O
  walk_at "go"
  refine⟨ns,20 + lo,rfl,by omega,by omega,?_⟩
  walk_at "go"
  rw[e1]
  walk_at "go"
  rw[e1]
  walk_at "go"
  refine ih _ _ ?_
  simpa [thT] using h
theorem dials_loop{D:DT}{ns:List Int}{sun:List (Int×Tr)}{s1 s2 s3 s4 s8 s9 s10:Slot}(hl:0 < sun.length)(hs:∀e∈sun,LimT 2 e.2):∀(n:Nat)(lo:Int)(ds:List (Pl×Tr×Tr))(s7:Slot),0<=lo->lo + n<=100->ds.length + n<=100->(∀x∈ds,PlLim 10 x.1/\LimT 10 x.2.1/\LimT 4 x.2.2) →
  (∀(ds':List (Pl×Tr×Tr))(s7:Slot),ds'.length=ds.length + n->(∀x∈ds',PlLim 10 x.1/\LimT 10 x.2.1/\LimT 4 x.2.2)->D.nx [.val (.lst (ns.map T.int)),s1,s2,s3,s4,.val (.lst (sun.map sT)),.own (ds'.map dcT),s7,s8,s9,s10]) →
  forT (gN 7) Z17 (rangeT lo n) D [.val (.lst (ns.map T.int)),s1,s2,s3,s4,.val (.lst (sun.map sT)),.own (ds.map dcT),s7,s8,s9,s10]
 | 0,lo,ds,s7,_,_,_,hd,h=>by
  simp only[rangeT,forT]
  exact h ds s7 (by simp) hd
 | n + 1,lo,ds,s7,h0,h1,h2,hd,h=>by
  have ih:=fun (x:Pl×Tr×Tr) (hx:PlLim 10 x.1/\LimT 10 x.2.1/\LimT 4 x.2.2) (s7:Slot)=>dials_loop (D:=D) (ns:=ns) (s1:=s1) (s2:=s2) (s3:=s3) (s4:=s4) (s8:=s8) (s9:=s9) (s10:=s10) hl hs n (lo + 1) (ds++[x]) s7 (by omega) (by omega) (by simp;omega) (fun y hy=>by
   rcases List.mem_append.mp hy with hy|hy
   ·exact hd y hy
   ·rw[List.mem_singleton.mp hy];exact hx) (fun ds' s7 e hd=>h ds' s7 (by rw[e];simp;omega) hd)
  simp only[List.map_append,List.map_cons,List.map_nil]at ih
  simp only[rangeT,forT]
  generalize forT (gN 7) Z17 (rangeT (lo + 1) n) D=F at ih ⊢
  have hlen:(ds.map dcT).length < 1000:=by rw[List.length_map];omega
  unfold Z17
  walk_at "go"
  refine⟨ns,20 + lo,rfl,by omega,by omega,?_⟩
  walk_at "go"
  refine⟨_,sun,rfl,hl,hs,fun x a b c=>?_⟩
  walk_at "go"
  exact ih x ⟨a,b,c⟩ _
theorem shuts_loop{D:DT}{ns:List Int}{sun:List (Int×Tr)}{ds:List (Pl×Tr×Tr)}{s1 s2 s3 s4 s9 s10:Slot}(hl:0 < sun.length)(hs:∀e∈sun,LimT 2 e.2)(hd:∀x∈ds,LimT 4 x.2.2):∀(n:Nat)(lo:Int)(ps:List Pl)(s7:Slot),0<=lo->lo + n<=100->ps.length + n<=100->(∀p∈ps,PlLim 12 p) →
  (∀(ps':List Pl)(s7:Slot),ps'.length=ps.length + n->(∀p∈ps',PlLim 12 p)->D.nx [.val (.lst (ns.map T.int)),s1,s2,s3,s4,.val (.lst (sun.map sT)),.val (.lst (ds.map dcT)),s7,.own (ps'.map plT),s9,s10]) →
  forT (gN 7) Z18 (rangeT lo n) D [.val (.lst (ns.map T.int)),s1,s2,s3,s4,.val (.lst (sun.map sT)),.val (.lst (ds.map dcT)),s7,.own (ps.map plT),s9,s10]
 | 0,lo,ps,s7,_,_,_,hp,h=>by
  simp only[rangeT,forT]
  exact h ps s7 (by simp) hp
 | n + 1,lo,ps,s7,h0,h1,h2,hp,h=>by
  have ih:=fun (x:Pl) (hx:PlLim 12 x) (s7:Slot)=>shuts_loop (D:=D) (ns:=ns) (s1:=s1) (s2:=s2) (s3:=s3) (s4:=s4) (s9:=s9) (s10:=s10) hl hs hd n (lo + 1) (ps++[x]) s7 (by omega) (by omega) (by simp;omega) (fun y hy=>by
   rcases List.mem_append.mp hy with hy|hy
   ·exact hp y hy
   ·rw[List.mem_singleton.mp hy];exact hx) (fun ps' s7 e hp=>h ps' s7 (by rw[e];simp;omega) hp)
  simp only[List.map_append,List.map_cons,List.map_nil]at ih
  simp only[rangeT,forT]
  generalize forT (gN 7) Z18 (rangeT (lo + 1) n) D=F at ih ⊢
  have hlen:(ps.map plT).length < 1000:=by rw[List.length_map];omega
  unfold Z18
  walk_at "go"
  refine⟨ns,40 + lo,rfl,by omega,by omega,?_⟩
  walk_at "go"
  refine⟨_,sun,ds,rfl,hl,hs,hd,fun p lp=>?_⟩
  walk_at "go"
  exact ih p lp _
theorem Z7r:∀ts Q,Z35 ts Q->Z60 {nx:=fun _=>Q .non,rt:=Q} (startT 11 ts):=by
 rintro _ Q ⟨ns,md,ms,mh,rfl,hmd,hms,hmh,h⟩
 have d2:DivOk 2:=dv (by decide)
 have d100:DivOk 100:=dv (by decide)
 have d10000:DivOk 10000:=dv (by decide)
 have nz1:mh≠0:=by omega
 have nz2:md + 1≠0:=by omega
 have nz3:ms + 1≠0:=by omega
 unfold Z60
 obtain⟨W0,hW0⟩:∃W,W=Z17:=⟨_,rfl⟩
 obtain⟨W1,hW1⟩:∃W,W=Z18:=⟨_,rfl⟩
 rw[← hW0,← hW1]
 walk_at "go"
 refine⟨ns,0,rfl,by decide,by decide,?_⟩
 generalize hX:(wideF ns 0).fdiv 2=X
 have f1:=fmod_pos X (b:=mh) (by omega)
 have f2:=fmod_pos (X.fdiv 100) (b:=md + 1) (by omega)
 have f3:=fmod_pos (X.fdiv 10000) (b:=ms + 1) (by omega)
 walk_at "go"
 rw[hX]
 refine⟨ns,(1 + X.fmod mh).toNat,by rw[show (((1 + X.fmod mh).toNat:Nat):Int)=1 + X.fmod mh by omega],by omega,fun sun hr hlen hs=>?_⟩
 have hsun:0 < sun.length:=by omega
 have hdir:∀e∈sun,LimT 2 e.2:=fun e he=>(hs.2 e he).1.2
 have r2:-(2 ^ 62)<=(X.fdiv 100).fmod (md + 1)/\(X.fdiv 100).fmod (md + 1) < 2 ^ 62:=⟨Int.le_trans (by decide) f2.1,Int.lt_of_lt_of_le f2.2 (by clear f1 f2 f3 hlen hsun;omega)⟩
 have r3:-(2 ^ 62)<=(X.fdiv 10000).fmod (ms + 1)/\(X.fdiv 10000).fmod (ms + 1) < 2 ^ 62:=⟨Int.le_trans (by decide) f3.1,Int.lt_of_lt_of_le f3.2 (by clear f1 f2 f3 hlen hsun;omega)⟩
 walk_at "tw"
 refine⟨d100,nz2,r2,?_⟩
 rw[hW0]
 refine dials_loop hsun hdir _ 0 [] _ (by decide) (by omega) (by simp;omega) (fun x hx=>absurd hx (by simp)) fun ds s7 el hd=>?_
 walk_at "tw"
 refine⟨d10000,nz3,r3,?_⟩
 rw[hW1]
 refine shuts_loop hsun hdir (fun x hx=>(hd x hx).2.2) _ 0 [] _ (by decide) (by omega) (by simp;omega) (fun p hp=>absurd hp (by simp)) fun ps s7 ep hp=>?_
 obtain⟨C0,hC0⟩:∃C,C=Z1N:=⟨_,rfl⟩
 obtain⟨C1,hC1⟩:∃C,C=Z1O:=⟨_,rfl⟩
 rw[← hC0,← hC1]
 walk_at "tw"
 have e1:(((ps.map plT).length:Nat):Int).toNat=ps.length:=by simp
 have e2:(((ds.map dcT).length:Nat):Int).toNat=ds.length:=by simp
 have b1:ps.length<=6:=by rw[ep];simp;omega
 have b2:ds.length<=7:=by rw[el];simp;omega
 have b3:(ps.length:Int)<=ms:=by rw[ep];simp;omega
 have b4:(ds.length:Int)<=md:=by rw[el];simp;omega
 rw[e1,e2,hC0,hC1]
 refine⟨by rw[List.length_map];omega,by rw[rangeT_length];omega,?_⟩
 refine named_comp (ns:=ns) (ps:=ps) (by omega) ps.length 0 [] _ (by omega) ?_
 refine⟨by rw[List.length_map];omega,by rw[rangeT_length];omega,?_⟩
 refine faces_comp (ns:=ns) (ps:=ds) b2 ds.length 0 [] _ (by omega) ?_
 exact h sun hr ps ds hsun (by omega) hs b3 b4 hp fun x hx=>⟨(hd x hx).1,(hd x hx).2.1⟩
theorem log_lim{h:Int}(l:Lim 100 h):h.natAbs.log2 < 1920:=by
 by_cases z:h.natAbs=0
 ·rw[z];decide
 ·refine Nat.lt_of_not_le fun q=>?_
  have h1:=Nat.log2_self_le z
  have h2:2 ^ 1920<=2 ^ h.natAbs.log2:=Nat.pow_le_pow_right (by decide) q
  have h3:h.natAbs < 10 ^ 100:=l
  have h4:(10:Nat) ^ 100<=2 ^ 1920:=by decide
  omega
def onceF(sun:List (Int×Tr)):List Int->List Int->Option Int×List Int
 | [],ks=>(none,ks)
 | h::r,ks=>match sunAt sun h with
  | none=>(some h,ks)
  | some _=>onceF sun r (putI ks h)
def Z10:SpT:=fun ts Q=>∃(sun:List (Int×Tr)) (hs:List Int),ts=[.lst (sun.map sT),.lst (hs.map T.int)]/\hs.length<=100/\(∀h∈hs,Lim 100 h) ∧
 (match onceF sun hs [] with|(some h,_)=>False|(none,ks)=>Q (.lst (ks.map T.int)))
theorem Z4O:∀ts Q,Z10 ts Q->ts.length=2:=by rintro ts Q ⟨_,_,e,_⟩;subst e;rfl
def Z30:WS :=
 (sOnce 2 3 (iSeq (wVar 1)) (wCall Z02 (aCons (wVar 0) (aCons (wVar 3) aNil))))
theorem putI_len(ks:List Int)(k:Int):(putI ks k).length<=ks.length + 1:=by
 unfold putI
 split
 ·omega
 ·simp
abbrev wDir:WE:=wCall Z02 (aCons (wVar 0) (aCons (wVar 3) aNil))
theorem once_loop{D:DT}{sun:List (Int×Tr)}{s1 s2:Slot}:∀(hs ks:List Int)(s3:Slot),ks.length + hs.length<=500->(∀h∈hs,Lim 100 h) →
  (match onceF sun hs ks with|(some h,_)=>False|(none,ks')=>D.rt (.lst (ks'.map T.int)))->onceT 3 wDir (hs.map T.int) ks D [.val (.lst (sun.map sT)),s1,s2,s3]
 | [],ks,s3,_,_,h=>by
  simp only[List.map,onceT]
  exact h
 | k::r,ks,s3,hl,hi,h=>by
  simp only[List.length_cons]at hl
  have ih:=fun s3=>once_loop (D:=D) (sun:=sun) (s1:=s1) (s2:=s2) r (putI ks k) s3 (by have:=putI_len ks k;omega) (fun h hh=>hi h (List.mem_cons_of_mem _ hh))
  simp only[List.map,onceT]
  refine⟨by omega,?_⟩
  generalize onceT 3 wDir (r.map T.int) (putI ks k) D=F at ih ⊢
  simp only[onceF]at h
  walk_at "go"
  refine⟨sun,k,rfl,log_lim (hi k List.mem_cons_self),?_⟩
  cases e:sunAt sun k with
  | none=>rw[e]at h;exact h
  | some x =>
   rw[e]at h
   exact ih _ h
theorem Z53:∀ts Q,Z10 ts Q->Z30 {nx:=fun _=>Q .non,rt:=Q} (startT 4 ts):=by
 rintro _ Q ⟨sun,hs,rfl,hl,hi,h⟩
 unfold Z30
 refine⟨⟨Nat.le_of_ble_eq_true rfl,Nat.le_of_ble_eq_true rfl⟩,?_⟩
 exact once_loop (D:={nx:=fun _=>Q .non,rt:=Q}) hs [] _ (by simp;omega) hi h
noncomputable def meetW(d:Tr)(t:Th)(tip:Tr):Tr:=meet t.2.1.1 t.2.1.2.1 t.2.1.2.2 tip d 1
noncomputable def hidW(d:Tr)(t:Th)(tip:Tr)(L:List Th):List Str:=srt (hidN (ptOf t.2.1 (meetW d t tip)) ((meetW d t tip).2.2 * (meetW d t tip).2.2) d t.1 L)
noncomputable def fallW(d:Tr)(t:Th)(tip:Tr):Bool:=decide (0 < d.2.2)&&(decide (0 < dotI (crs t.2.1.2.1 t.2.1.2.2) d)&&onF (meetW d t tip))
noncomputable def readW(d:Tr)(t:Th)(tip:Tr)(L:List Th):Bool:=fallW d t tip&&(hidW d t tip L).isEmpty
abbrev sWd(x:String):T:=.str (Str.ofString x)
inductive Told (d:Tr) (t:Th) (tip:Tr) (L:List Th):T->Prop where
 | no (w:Str) (r:List T) (f:fallW d t tip=false) (ho:SOk w) (hr:w≠Str.ofString "read") (hh:w≠Str.ofString "hidden"):Told d t tip L (.tup (.str w::r))
 | read (x:T) (f:fallW d t tip=true) (e:hidW d t tip L=[]):Told d t tip L (.tup [sWd "read", x])
 | hid (us:List Str) (f:fallW d t tip=true) (e:hidW d t tip L=us) (n:us≠[]):Told d t tip L (.tup [sWd "hidden", .lst (us.map T.str)])
theorem told_is(d:Tr)(t:Th)(tip:Tr)(L:List Th):Told d t tip L (toldF d t tip L):=by
 unfold toldF
 by_cases h1:0 < d.2.2
 ·rw [if_pos h1]
  by_cases h2:0 < dotI (crs t.2.1.2.1 t.2.1.2.2) d
  ·rw[if_pos h2]
   by_cases h3:onF (meet t.2.1.1 t.2.1.2.1 t.2.1.2.2 tip d 1)=true
   ·rw[if_pos h3]
    have f:fallW d t tip=true:=by
     unfold fallW meetW
     rw[decide_eq_true h1,decide_eq_true h2,h3];rfl
    cases e:srt (hidN (ptOf t.2.1 (meet t.2.1.1 t.2.1.2.1 t.2.1.2.2 tip d 1)) ((meet t.2.1.1 t.2.1.2.1 t.2.1.2.2 tip d 1).2.2 * (meet t.2.1.1 t.2.1.2.1 t.2.1.2.2 tip d 1).2.2) d t.1 L) with
    | nil=>exact .read _ f e
    | cons u us=>exact .hid _ f e (by simp)
   ·rw[if_neg h3]
    have f:fallW d t tip=false:=by
     unfold fallW meetW
     rw[decide_eq_true h1,decide_eq_true h2,Bool.eq_false_iff.mpr h3];rfl
    exact .no (Str.ofString "off") _ f (by decide +kernel) (by decide +kernel) (by decide +kernel)
  ·rw[if_neg h2]
   have f:fallW d t tip=false:=by
    unfold fallW
    rw[decide_eq_true h1,decide_eq_false h2];rfl
   exact .no (Str.ofString "behind") _ f (by decide +kernel) (by decide +kernel) (by decide +kernel)
 ·rw[if_neg h1]
  have f:fallW d t tip=false:=by
   unfold fallW
   rw[decide_eq_false h1];rfl
  exact .no (Str.ofString "down") _ f (by decide +kernel) (by decide +kernel) (by decide +kernel)
theorem ok_read:SOk (Str.ofString "read"):=by decide +kernel
theorem ok_hidden:SOk (Str.ofString "hidden"):=by decide +kernel
theorem eq_rr:eqT (sWd "read") (sWd "read")=true:=by decide +kernel
theorem eq_hr:eqT (sWd "hidden") (sWd "read")=false:=by decide +kernel
theorem told_read{d:Tr}{t:Th}{tip:Tr}{L:List Th}{x:T}(h:Told d t tip L x){K:Bool->Prop}(hk:K (readW d t tip L)):rIxTT x (.int 0) fun y=>cEqT y (sWd "read") K:=by
 unfold readW at hk
 cases h with
 | no w r f ho hr hh =>
  rw[f]at hk
  show match atI (T.str w::r) 0 with|some t=>cEqT t (sWd "read") K|none=>False
  rw[atI0]
  refine⟨eqOk_str ho ok_read,?_⟩
  rw[eqT_str,decide_eq_false hr]
  exact hk
 | read x f e =>
  rw[f,e]at hk
  exact⟨eqOk_str ok_read ok_read,by rw[eq_rr];exact hk⟩
 | hid us f e n =>
  rw[f,e]at hk
  refine⟨eqOk_str ok_hidden ok_read,?_⟩
  rw[eq_hr]
  cases us with
  | nil=>exact absurd rfl n
  | cons a b=>exact hk
abbrev intsT(l:List Int):T:=.lst (l.map T.int)
abbrev Way:=Int×List (List Int)
abbrev wyT(e:Way):T:=.tup [.int e.1,.lst (e.2.map intsT)]
def opnB(ch:List Int)(e:Way):Bool:=e.2.any fun w=>w.all fun n=>ch.contains n
def firstW(ways:List Way)(ch:List Int):Option Int:=(ways.find? fun e=>!opnB ch e).map (·.1)
abbrev oInt(o:Option Int):T:=match o with|some h=>.int h|none=>.non
def Z0i:SpT:=fun ts Q=>∃(ways:List Way) (ch:List Int),ts=[.lst (ways.map wyT),intsT ch]/\(∀e∈ways,e.2.length<=1000/\∀w∈e.2,w.length<=1000)/\Q (oInt (firstW ways ch))
theorem Z3Y:∀ts Q,Z0i ts Q->ts.length=2:=by rintro ts Q ⟨_,_,e,_⟩;subst e;rfl
def Z05:WE :=
 (wCB rAllT (aCons (wComp (iSeq (wVar 0)) (gN 0) tTrue (wCmp cInT (wVar 0) (wVar 1)) 1 [1]) aNil))
def Z01:WS :=
 (sIf (tNotT (tVal (wCB rAnyT (aCons (wComp (iSeq (w2 rIxTT (wVar 2) (wC (.int 1)))) (gN 0) tTrue Z05 1 [1]) aNil)))) (sRet (w2 rIxTT (wVar 2) (wC (.int 0)))) sNext)
def Z24:WS :=
 (sSeq (sFor (iSeq (wVar 0)) (gN 2) Z01)
  (sRet (wC .non)))
theorem intsOf_map:∀ns:List Int,intsOf (ns.map T.int)=some ns
 | []=>rfl
 | n::r=>by simp only[List.map_cons,intsOf,intsOf_map r,Option.map]
theorem boolsOf_mapG{α:Type}(f:α->Bool):∀cs:List α,boolsOf (cs.map fun c=>T.bl (f c))=some (cs.map f)
 | []=>rfl
 | c::r=>by simp only[List.map,boolsOf,boolsOf_mapG f r,Option.map]
theorem in_comp{Q:List T->Prop}{ch:List Int}:∀(ns:List Int)(acc:List T)(s:Slot),Q (acc++ns.map fun n=>T.bl (ch.contains n))->compT (gN 0) tTrue (wCmp cInT (wVar 0) (wVar 1)) (ns.map T.int) acc [s,.val (intsT ch)] Q
 | [],acc,s,h=>by
  simp only[List.map_nil,List.append_nil]at h
  exact h
 | n::r,acc,s,h=>by
  have ih:=fun (acc:List T) (s:Slot) h=>in_comp (Q:=Q) (ch:=ch) r acc s h
  simp only[List.map,compT]
  generalize compT (gN 0) tTrue (wCmp cInT (wVar 0) (wVar 1)) (r.map T.int)=F at ih ⊢
  walk_at "go"
  rw[intsOf_map]
  refine ih _ _ ?_
  simpa using h
theorem fw_c0{Q:T->Prop}{w ch:List Int}(hw:w.length<=1000)(h:Q (.bl (w.all fun n=>ch.contains n))):Z05 [.val (intsT w),.val (intsT ch)] Q:=by
 have hl:(w.map T.int).length<=1000:=by rw[List.length_map];exact hw
 unfold Z05
 obtain⟨W0,hW0⟩:∃W,W=wCmp cInT (wVar 0) (wVar 1):=⟨_,rfl⟩
 rw[← hW0]
 walk_at "go"
 rw[hW0]
 refine in_comp w [] _ ?_
 rw[List.nil_append]
 walk_at "tw"
 rw[boolsOf_mapG (fun n=>ch.contains n) w]
 dsimp only
 rw[List.all_map]
 exact h
theorem ways_comp{Q:List T->Prop}{ch:List Int}:∀(ws:List (List Int))(acc:List T)(s:Slot),(∀w∈ws,w.length<=1000)->Q (acc++ws.map fun w=>T.bl (w.all fun n=>ch.contains n))->compT (gN 0) tTrue Z05 (ws.map intsT) acc [s,.val (intsT ch)] Q
 | [],acc,s,_,h=>by
  simp only[List.map_nil,List.append_nil]at h
  exact h
 | w::r,acc,s,hw,h=>by
  have ih:=fun (acc:List T) (s:Slot) h=>ways_comp (Q:=Q) (ch:=ch) r acc s (fun w m=>hw w (List.mem_cons_of_mem _ m)) h
  simp only[List.map,compT]
  generalize compT (gN 0) tTrue Z05 (r.map intsT)=F at ih ⊢
  refine⟨fun _=>?_,fun z=>by cases z⟩
  refine fw_c0 (hw w List.mem_cons_self) ?_
  refine ih _ _ ?_
  simpa using h
theorem fw_loop{Q:T->Prop}{N:List Slot->Prop}{ch:List Int}{s0:Slot}:∀(ways:List Way)(s2:Slot),(∀e∈ways,e.2.length<=1000/\∀w∈e.2,w.length<=1000) →
  (match firstW ways ch with|some h=>Q (.int h)|none=>∀s2,N [s0,.val (intsT ch),s2])->forT (gN 2) Z01 (ways.map wyT) {nx:=N,rt:=Q} [s0,.val (intsT ch),s2]
 | [],s2,_,h=>by
  simp only[List.map,forT]
  exact h _
 | e::r,s2,hw,h=>by
  have ih:=fun s2=>fw_loop (Q:=Q) (N:=N) (ch:=ch) (s0:=s0) r s2 (fun w m=>hw w (List.mem_cons_of_mem _ m))
  obtain⟨l1,l2⟩:=hw e List.mem_cons_self
  have hl:(e.2.map intsT).length<=1000:=by rw[List.length_map];exact l1
  simp only[List.map,forT]
  generalize forT (gN 2) Z01 (r.map wyT) {nx:=N,rt:=Q}=F at ih ⊢
  unfold Z01
  obtain⟨C0,hC0⟩:∃W,W=Z05:=⟨_,rfl⟩
  rw[← hC0]
  walk_at "go"
  rw[hC0]
  refine ways_comp e.2 [] _ l2 ?_
  rw[List.nil_append]
  walk_at "tw"
  rw[boolsOf_mapG (fun w:List Int=>w.all fun n=>ch.contains n) e.2]
  dsimp only
  rw[List.any_map]
  unfold firstW at h
  rw[List.find?_cons]at h
  have eo:(e.2.any (id ∘ fun w:List Int=>w.all fun n=>ch.contains n))=opnB ch e:=rfl
  rw[eo]
  cases hb:opnB ch e with
  | false =>
   rw[hb]at h
   refine⟨fun _=>?_,fun z=>by cases z⟩
   exact h
  | true =>
   rw[hb]at h
   refine⟨(fun z=>by cases z),fun _=>?_⟩
   exact ih _ h
theorem Z47:∀ts Q,Z0i ts Q->Z24 {nx:=fun _=>Q .non,rt:=Q} (startT 3 ts):=by
 rintro _ Q ⟨ways,ch,rfl,hw,h⟩
 unfold Z24
 obtain⟨W0,hW0⟩:∃W,W=Z01:=⟨_,rfl⟩
 rw[← hW0]
 walk_at "tw"
 rw[hW0]
 refine fw_loop ways _ hw ?_
 cases e:firstW ways ch with
 | some x=>rw[e]at h;exact h
 | none =>
  rw[e]at h
  intro s2
  walk_at "go"
  exact h
def rngI(lo:Int):Nat->List Int
 | 0=>[]
 | n + 1=>lo::rngI (lo + 1) n
theorem rangeT_rng:∀(n:Nat)(lo:Int),rangeT lo n=(rngI lo n).map T.int
 | 0,_=>rfl
 | n + 1,lo=>by simp only[rangeT,rngI,List.map,rangeT_rng n (lo + 1)]
def least(l:List Int):Int:=match l.getLast? with|some x=>x + 1|none=>0
def longer(m:Int)(l:List Int):List (List Int):=(rngI (least l) (m - least l).toNat).map fun n=>l++[n]
def ris(m:Int):Nat->List (List Int)
 | 0=>[[]]
 | s + 1=>(ris m s).flatMap (longer m)
theorem ris_few:∀m s:Fin 11,(ris (m:Nat) s).length<=300/\((ris (m:Nat) s).all fun l=>decide (l.length=s)&&l.all fun n=>decide (0<=n)&&decide (n < m))=true:=by decide +kernel
def Z0F:SpT:=fun ts Q=>∃(m:Int) (s:Nat),ts=[.int m,.int s]/\(0<=m/\m<=10)/\s<=10/\Q (.lst ((ris m s).map intsT))
theorem Z48:∀ts Q,Z0F ts Q->ts.length=2:=by rintro ts Q ⟨_,_,e,_⟩;subst e;rfl
def Z00:WS :=
 (sSeq (sSet 6 (wIfE (tTruT (wVar 5)) (w2 rAddT (w2 rIxTT (wVar 5) (wNeg (wC (.int 1)))) (wC (.int 1))) (wC (.int 0))))
  (sExt 4 (wComp (iRange2 (aCons (wVar 6) (aCons (wVar 0) aNil))) (gN 0) tTrue (w2 rCatLT (wVar 1) (wLst (aCons (wVar 0) aNil))) 1 [5])))
def Z04:WS :=
 (sSeq (sOwn 4 aNil)
  (sSeq (sFor (iSeq (wVar 2)) (gN 5) Z00)
  (sFrz 4 (sSet 2 (wVar 4)))))
def Z2v:WS :=
 (sSeq (sSet 2 (wLst (aCons (wLst aNil) aNil)))
  (sSeq (sFor (iRange1 (aCons (wVar 1) aNil)) (gN 3) Z04)
  (sRet (wVar 2))))
theorem ris_le{m:Int}{s:Nat}(hm:0<=m/\m<=10)(hs:s<=10):(ris m s).length<=300/\∀l∈ris m s,l.length=s/\∀n∈l,0<=n/\n < m:=by
 have h:=ris_few ⟨m.toNat,by omega⟩ ⟨s,by omega⟩
 have e:((m.toNat:Nat):Int)=m:=by omega
 simp only[e]at h
 refine⟨h.1,fun l ml=>?_⟩
 have:=List.all_eq_true.mp h.2 l ml
 simp only[Bool.and_eq_true,decide_eq_true_eq,List.all_eq_true]at this
 exact⟨this.1,fun n mn=>by have:=this.2 n mn;omega⟩
theorem atI_last{l:List Int}{x:Int}(h:l.getLast?=some x):atI (l.map T.int) (-1)=some (.int x):=by
 have ne:l≠[]:=fun e=>by rw[e]at h;cases h
 have hp:0 < l.length:=List.length_pos_iff.mpr ne
 unfold atI ixN
 rw[List.length_map,if_neg (by omega),if_pos (by omega)]
 simp only[Option.bind]
 rw[List.getElem?_map]
 have e:(-1 + (l.length:Int)).toNat=l.length - 1:=by omega
 rw[e,← List.getLast?_eq_getElem?,h]
 rfl
theorem long_comp{Q:List T->Prop}{l:List Int}(hl:l.length<=100):∀(n:Nat)(lo:Int)(acc:List T)(s:Slot),Q (acc++((rngI lo n).map fun n=>l++[n]).map intsT)->compT (gN 0) tTrue (w2 rCatLT (wVar 1) (wLst (aCons (wVar 0) aNil))) (rangeT lo n) acc [s,.val (intsT l)] Q
 | 0,lo,acc,s,h=>by
  simp only[rngI,List.map_nil,List.append_nil]at h
  exact h
 | n + 1,lo,acc,s,h=>by
  have ih:=fun (acc:List T) (s:Slot) h=>long_comp (Q:=Q) hl n (lo + 1) acc s h
  have hc:(l.map T.int).length + [T.int lo].length<=1000:=by simp;omega
  simp only[rangeT,compT]
  generalize compT (gN 0) tTrue (w2 rCatLT (wVar 1) (wLst (aCons (wVar 0) aNil))) (rangeT (lo + 1) n)=F at ih ⊢
  walk_at "go"
  refine ih _ _ ?_
  have e:intsT (l++[lo])=.lst (l.map T.int++[T.int lo]):=by simp
  simp only[rngI,List.map_cons]at h
  rw[e]at h
  simpa using h
theorem ris_b0{D:DT}{m:Int}{l:List Int}{acc:List (List Int)}{s1 s2 s3 s6:Slot}(hm:0<=m/\m<=10)(hl:l.length<=100)(hx:∀n∈l,0<=n/\n < m)(ha:acc.length + (longer m l).length<=1000)
  (h:∀s6,D.nx [.val (.int m),s1,s2,s3,.own ((acc++longer m l).map intsT),.val (intsT l),s6]) :
  Z00 D [.val (.int m),s1,s2,s3,.own (acc.map intsT),.val (intsT l),s6]:=by
 have hlo:0<=least l/\least l<=m:=by
  unfold least
  cases e:l.getLast? with
  | none=>simp;omega
  | some x =>
   have:=hx x (List.mem_of_getLast? e)
   simp
   omega
 have hrl:(rangeT (least l) (m - least l).toNat).length<=1000:=by rw[rangeT_length];omega
 have el:(longer m l).length=(m - least l).toNat:=by
  unfold longer
  rw[List.length_map]
  have:∀(n:Nat)(lo:Int),(rngI lo n).length=n:=fun n=>by
   induction n with
   | zero=>intro lo;rfl
   | succ n ih=>intro lo;simp[rngI,ih]
  exact this _ _
 have fin:∀s6,compT (gN 0) tTrue (w2 rCatLT (wVar 1) (wLst (aCons (wVar 0) aNil))) (rangeT (least l) (m - least l).toNat) [] [.no,.val (intsT l)] (fun us=>lstQ (fun us=>(acc.map intsT).length + us.length<=1000/\D.nx [.val (.int m),s1,s2,s3,.own (acc.map intsT++us),.val (intsT l),s6]) (.lst us)):=fun s6=>by
  refine long_comp hl _ _ [] _ ?_
  have:=h s6
  rw[List.map_append]at this
  refine⟨?_,this⟩
  rw[List.nil_append,List.length_map,List.length_map]
  exact ha
 unfold Z00
 obtain⟨W0,hW0⟩:∃W,W=w2 rCatLT (wVar 1) (wLst (aCons (wVar 0) aNil)):=⟨_,rfl⟩
 rw[← hW0]at fin ⊢
 have rb:-(2 ^ 62)<=least l/\least l < 2 ^ 62 /\ -(2 ^ 62)<=m/\m < 2 ^ 62:=⟨by omega,by omega,by omega,by omega⟩
 cases e:l.getLast? with
 | none =>
  have e0:l=[]:=List.getLast?_eq_none_iff.mp e
  subst e0
  have el0:least []=0:=rfl
  rw[el0]at fin rb hrl
  walk_at "tw"
  refine⟨(fun z=>by cases z),fun _=>⟨rb,hrl,fin _⟩⟩
 | some x =>
  have ne:l≠[]:=fun z=>by rw[z]at e;cases e
  have el1:least l=x + 1:=by unfold least;rw[e]
  rw[el1]at fin rb hrl
  have em:(!(l.map T.int).isEmpty)=true:=by
   cases l with
   | nil=>exact absurd rfl ne
   | cons a b=>rfl
  walk_at "tw"
  rw[em]
  refine⟨fun _=>?_,fun z=>by cases z⟩
  rw[atI_last e]
  dsimp only
  exact⟨rb,hrl,fin _⟩
theorem ris_in{D:DT}{m:Int}{s1 s2 s3:Slot}(hm:0<=m/\m<=10):∀(ls acc:List (List Int))(s5 s6:Slot),(∀l∈ls,l.length<=100/\∀n∈l,0<=n/\n < m)->acc.length + (ls.flatMap (longer m)).length<=1000 →
  (∀s5 s6,D.nx [.val (.int m),s1,s2,s3,.own ((acc++ls.flatMap (longer m)).map intsT),s5,s6]) →
  forT (gN 5) Z00 (ls.map intsT) D [.val (.int m),s1,s2,s3,.own (acc.map intsT),s5,s6]
 | [],acc,s5,s6,_,_,h=>by
  simp only[List.flatMap_nil,List.append_nil]at h
  simp only[List.map,forT]
  exact h _ _
 | l::r,acc,s5,s6,hl,ha,h=>by
  rw[List.flatMap_cons,List.length_append]at ha
  have ih:=fun s5 s6=>ris_in (D:=D) (s1:=s1) (s2:=s2) (s3:=s3) hm r (acc++longer m l) s5 s6 (fun x hx=>hl x (List.mem_cons_of_mem _ hx)) (by rw[List.length_append];omega) (fun s5 s6=>by
   have:=h s5 s6
   rw[List.flatMap_cons,← List.append_assoc]at this
   exact this)
  simp only[List.map,forT]
  generalize forT (gN 5) Z00 (r.map intsT) D=F at ih ⊢
  exact ris_b0 (D:={D with nx:=F,ct:=F,bk:=D.nx}) hm (hl l List.mem_cons_self).1 (hl l List.mem_cons_self).2 (by omega) fun s6=>ih _ _
theorem ris_out{D:DT}{m:Int}{s1:Slot}(hm:0<=m/\m<=10):∀(n:Nat)(lo:Nat)(s3 s4 s5 s6:Slot),lo + n<=10->(∀s3 s4 s5 s6,D.nx [.val (.int m),s1,.val (.lst ((ris m (lo + n)).map intsT)),s3,s4,s5,s6]) →
  forT (gN 3) Z04 (rangeT lo n) D [.val (.int m),s1,.val (.lst ((ris m lo).map intsT)),s3,s4,s5,s6]
 | 0,lo,s3,s4,s5,s6,_,h=>by
  simp only[rangeT,forT]
  exact h _ _ _ _
 | n + 1,lo,s3,s4,s5,s6,hl,h=>by
  have ih:=fun s3 s4 s5 s6=>ris_out (D:=D) (s1:=s1) hm n (lo + 1) s3 s4 s5 s6 (by omega) (fun s3 s4 s5 s6=>by
   have:=h s3 s4 s5 s6
   rw[show lo + (n + 1)=lo + 1 + n by omega]at this
   exact this)
  simp only[rangeT,forT]
  rw[show ((lo:Int) + 1)=((lo + 1:Nat):Int) by simp]
  generalize forT (gN 3) Z04 (rangeT ((lo + 1:Nat):Int) n) D=F at ih ⊢
  unfold Z04
  obtain⟨W0,hW0⟩:∃W,W=Z00:=⟨_,rfl⟩
  rw[← hW0]
  walk_at "tw"
  rw[hW0]
  have r0:=ris_le hm (show lo<=10 by omega)
  have r1:=ris_le hm (show lo + 1<=10 by omega)
  refine ris_in hm (ris m lo) [] _ _ (fun l ml=>⟨by have:=(r0.2 l ml).1;omega,(r0.2 l ml).2⟩) (by have:=r1.1;rw[ris]at this;rw[List.length_nil];omega) fun s5 s6=>?_
  walk_at "tw"
  exact ih _ _ _ _
theorem Z4u:∀ts Q,Z0F ts Q->Z2v {nx:=fun _=>Q .non,rt:=Q} (startT 7 ts):=by
 rintro _ Q ⟨m,s,rfl,hm,hs,h⟩
 unfold Z2v
 obtain⟨W0,hW0⟩:∃W,W=Z04:=⟨_,rfl⟩
 rw[← hW0]
 walk_at "tw"
 rw[hW0]
 refine⟨⟨by omega,by omega⟩,?_⟩
 rw[Int.toNat_natCast]
 refine ris_out hm s 0 _ _ _ _ (by omega) fun s3 s4 s5 s6=>?_
 rw[Nat.zero_add]
 walk_at "go"
 exact h
abbrev WOk(ways:List Way):Prop:=ways.length<=500/\∀e∈ways,e.2.length<=1000/\∀w∈e.2,w.length<=1000
abbrev triT(ways:List Way)(c:List Int):T:=.tup [intsT c,oInt (firstW ways c)]
def paperF(ways:List Way)(m:Int):Nat->List T
 | 0=>[]
 | s + 1=>(ris m s).map (triT ways)
structure Fst(ways:List Way)(m:Int)(s:Nat)(c:List Int):Prop where
 less:∀s',s' < s->∀c'∈ris m s',firstW ways c'≠none
 first:∃pre post,ris m s=pre++c::post/\∀c'∈pre,firstW ways c'≠none
 here:firstW ways c=none
def nmAt(L:List Th)(n:Int):Str:=((L[n.toNat]?).map (·.1)).getD (Str.ofString "")
abbrev allI(L:List Th):List Int:=rngI 0 L.length
def Z1i:SpT:=fun ts Q=>∃(L:List Th) (ways:List Way) (w w0:Str),ts=[.lst (L.map thT),.lst (ways.map wyT),.str w,.str w0]/\L.length<=10/\WOk ways/\(∀h,firstW ways (allI L)=some h->Q (.tup [.str w0,.int h])) ∧
 (firstW ways (allI L)=none->∀s c,s<=L.length->Fst ways L.length s c->Q (.tup [.str w,.lst ((c.map (nmAt L)).map T.str),.lst (paperF ways L.length s)]))
theorem Z54:∀ts Q,Z1i ts Q->ts.length=4:=by rintro ts Q ⟨_,_,_,_,e,_⟩;subst e;rfl
def Z0x:WE :=
 (wTup (aCons (wVar 0) (aCons (wCall Z0i (aCons (wVar 1) (aCons (wVar 0) aNil))) aNil)))
def Z0J:WS :=
 (sSeq (sSet 7 (wComp (iSeq (wCall Z0F (aCons (wCB rLenT (aCons (wVar 0) aNil)) (aCons (wVar 5) aNil)))) (gN 0) tTrue Z0x 1 [1]))
  (sSeq (sSet 8 (wComp (iSeq (wVar 7)) (gN 0) (tCmpT cIsN (w2 rIxTT (wVar 0) (wC (.int 1))) (wC .non)) (w2 rIxTT (wVar 0) (wC (.int 0))) 1 []))
  (sSeq (sIf (tTruT (wVar 8)) (sRet (wTup (aCons (wVar 2) (aCons (wComp (iSeq (w2 rIxTT (wVar 8) (wC (.int 0)))) (gN 0) tTrue (w2 rIxTT (w2 rIxTT (wVar 1) (wVar 0)) (wC (.int 0))) 1 [0]) (aCons (wVar 6) aNil))))) sNext)
  (sSeq (sSet 6 (wVar 7))
  (sAug 5 (wC (.int 1)))))))
def Z3m:WS :=
 (sSeq (sSet 4 (wCall Z0i (aCons (wVar 1) (aCons (wLRng (aCons (wCB rLenT (aCons (wVar 0) aNil)) aNil)) aNil))))
  (sSeq (sIf (tCmpT cNotN (wVar 4) (wC .non)) (sRet (wTup (aCons (wVar 3) (aCons (wVar 4) aNil)))) sNext)
  (sSeq (sSet 5 (wC (.int 0)))
  (sSeq (sSet 6 (wLst aNil))
  (sWhile (tVal (wC (.bl true))) Z0J)))))
theorem ris_all:∀m:Fin 11,ris (m:Nat) m=[rngI 0 m]:=by decide +kernel
theorem thT_at{L:List Th}{n:Int}(h0:0<=n)(h1:n < L.length):∃r,atI (L.map thT) n=some (.tup (.str (nmAt L n)::r)):=by
 have hk:n.toNat < L.length:=by omega
 have e1:atI (L.map thT) n=some (thT L[n.toNat]):=by
  unfold atI ixN
  rw[List.length_map,if_pos h0,if_pos h1]
  simp only[Option.bind]
  rw[List.getElem?_map,List.getElem?_eq_getElem hk]
  rfl
 have e2:nmAt L n=L[n.toNat].1:=by
  unfold nmAt
  rw[List.getElem?_eq_getElem hk]
  rfl
 rw[e1,e2]
 obtain⟨nm,p,o⟩:=L[n.toNat]
 cases o with
 | none=>exact⟨_,rfl⟩
 | some t=>exact⟨_,rfl⟩
theorem try_comp{Q:List T->Prop}{ways:List Way}(hw:WOk ways):∀(cs:List (List Int))(acc:List T)(s:Slot),Q (acc++cs.map (triT ways))->compT (gN 0) tTrue Z0x (cs.map intsT) acc [s,.val (.lst (ways.map wyT))] Q
 | [],acc,s,h=>by
  simp only[List.map_nil,List.append_nil]at h
  exact h
 | c::r,acc,s,h=>by
  have ih:=fun (acc:List T) (s:Slot) h=>try_comp (Q:=Q) hw r acc s h
  simp only[List.map,compT]
  generalize compT (gN 0) tTrue Z0x (r.map intsT)=F at ih ⊢
  unfold Z0x
  walk_at "go"
  refine⟨ways,c,rfl,hw.2,?_⟩
  walk_at "go"
  refine ih _ _ ?_
  simpa using h
theorem non_oInt(o:Option Int):isNonT (oInt o)=o.isNone:=by cases o<;>rfl
theorem eno_comp{Q:List T->Prop}{ways:List Way}:∀(cs:List (List Int))(acc:List T)(s:Slot),Q (acc++(cs.filter fun c=>(firstW ways c).isNone).map intsT) →
  compT (gN 0) (tCmpT cIsN (w2 rIxTT (wVar 0) (wC (.int 1))) (wC .non)) (w2 rIxTT (wVar 0) (wC (.int 0))) (cs.map (triT ways)) acc [s] Q
 | [],acc,s,h=>by
  simp only[List.filter_nil,List.map_nil,List.append_nil]at h
  exact h
 | c::r,acc,s,h=>by
  have ih:=fun (acc:List T) (s:Slot) h=>eno_comp (Q:=Q) (ways:=ways) r acc s h
  simp only[List.map,compT]
  generalize compT (gN 0) (tCmpT cIsN (w2 rIxTT (wVar 0) (wC (.int 1))) (wC .non)) (w2 rIxTT (wVar 0) (wC (.int 0))) (r.map (triT ways))=F at ih ⊢
  walk_at "tw"
  rw[non_oInt]
  rw[List.filter_cons]at h
  refine⟨fun e=>?_,fun e=>?_⟩
  ·rw[e]at h
   exact ih _ _ (by simpa using h)
  ·rw[e]at h
   exact ih _ _ (by simpa using h)
theorem nam_comp{Q:List T->Prop}{L:List Th}:∀(c:List Int)(acc:List T)(s:Slot),(∀n∈c,0<=n/\n < (L.length:Int))->Q (acc++(c.map (nmAt L)).map T.str)->compT (gN 0) tTrue (w2 rIxTT (w2 rIxTT (wVar 1) (wVar 0)) (wC (.int 0))) (c.map T.int) acc [s,.val (.lst (L.map thT))] Q
 | [],acc,s,_,h=>by
  simp only[List.map_nil,List.append_nil]at h
  exact h
 | n::r,acc,s,hn,h=>by
  have ih:=fun (acc:List T) (s:Slot) h=>nam_comp (Q:=Q) (L:=L) r acc s (fun n m=>hn n (List.mem_cons_of_mem _ m)) h
  obtain⟨rr,e⟩:=thT_at (hn n List.mem_cons_self).1 (hn n List.mem_cons_self).2
  simp only[List.map,compT]
  generalize compT (gN 0) tTrue (w2 rIxTT (w2 rIxTT (wVar 1) (wVar 0)) (wC (.int 0))) (r.map T.int)=F at ih ⊢
  walk_at "go"
  rw[e]
  walk_at "go"
  rw[atI0]
  refine ih _ _ ?_
  simpa using h
theorem few_b0{Q:T->Prop}{N:List Slot->Prop}{L:List Th}{ways:List Way}{w:T}{s:Nat}{s3 s4 s7 s8:Slot}(hL:L.length<=10)(hw:WOk ways)(hs:s<=L.length)(hall:firstW ways (allI L)=none)(hless:∀s',s' < s->∀c'∈ris L.length s',firstW ways c'≠none)
  (h1:∀c,Fst ways L.length s c->Q (.tup [w,.lst ((c.map (nmAt L)).map T.str),.lst (paperF ways L.length s)]))
  (h2:s + 1<=L.length->(∀s',s' < s + 1->∀c'∈ris L.length s',firstW ways c'≠none)->∀s7 s8,N [.val (.lst (L.map thT)),.val (.lst (ways.map wyT)),.val w,s3,s4,.val (.int ((s + 1:Nat):Int)),.val (.lst (paperF ways L.length (s + 1))),s7,s8]) :
  Z0J {nx:=N,rt:=Q,ct:=N,bk:=fun _=>Q .non} [.val (.lst (L.map thT)),.val (.lst (ways.map wyT)),.val w,s3,s4,.val (.int s),.val (.lst (paperF ways L.length s)),s7,s8]:=by
 have r0:=ris_le (m:=L.length) (s:=s) ⟨by omega,by omega⟩ (by omega)
 have lm:(L.map thT).length=L.length:=List.length_map _
 unfold Z0J
 obtain⟨C0,hC0⟩:∃W,W=Z0x:=⟨_,rfl⟩
 obtain⟨T1,hT1⟩:∃W,W=tCmpT cIsN (w2 rIxTT (wVar 0) (wC (.int 1))) (wC .non):=⟨_,rfl⟩
 obtain⟨C2,hC2⟩:∃W,W=w2 rIxTT (w2 rIxTT (wVar 1) (wVar 0)) (wC (.int 0)):=⟨_,rfl⟩
 rw[← hC0,← hT1,← hC2]
 have lr:((ris L.length s).map intsT).length<=1000:=by rw[List.length_map];have:=r0.1;omega
 have lt:((ris L.length s).map (triT ways)).length<=1000:=by rw[List.length_map];have:=r0.1;omega
 walk_at "go"
 refine⟨L.length,s,by rw[lm],⟨by omega,by omega⟩,by omega,?_⟩
 walk_at "go"
 rw[hC0]
 refine try_comp hw _ [] _ ?_
 rw[List.nil_append]
 walk_at "go"
 rw[hT1]
 refine eno_comp _ [] _ ?_
 rw[List.nil_append]
 cases ef:(ris L.length s).filter fun c=>(firstW ways c).isNone with
 | nil =>
  have hne:∀c∈ris L.length s,firstW ways c≠none:=fun c mc e=>by
   have:c∈(ris L.length s).filter fun c=>(firstW ways c).isNone:=List.mem_filter.mpr ⟨mc,by rw[e];rfl⟩
   rw[ef]at this
   cases this
  have hlt:s + 1<=L.length:=by
   rcases Nat.lt_or_ge s L.length with q|q
   ·exact q
   ·have es:s=L.length:=by omega
    have ea:=ris_all ⟨L.length,by omega⟩
    simp only at ea
    rw[es,ea]at hne
    exact absurd hall (hne _ List.mem_cons_self)
  have:=h2 hlt (fun s' hs' c' mc'=>by
   rcases Nat.lt_or_ge s' s with q|q
   ·exact hless s' q c' mc'
   ·have es:s'=s:=by omega
    subst es
    exact hne c' mc')
  walk_at "go"
  exact this _ _
 | cons c cs =>
  obtain⟨pre,post,e1,e2,e3,e4⟩:=List.filter_eq_cons_iff.mp ef
  have mc:c∈ris L.length s:=by rw[e1];simp
  have F:Fst ways L.length s c:=⟨hless,⟨pre,post,e1,fun c' mc' e=>e2 c' mc' (by rw[e];rfl)⟩,Option.isNone_iff_eq_none.mp e3⟩
  have lc:(c.map T.int).length<=1000:=by rw[List.length_map,(r0.2 c mc).1];omega
  walk_at "go"
  rw[show atI (List.map intsT (c::cs)) 0=some (intsT c) from atI0 _ _]
  walk_at "go"
  rw[hC2]
  refine nam_comp c [] _ (r0.2 c mc).2 ?_
  rw[List.nil_append]
  walk_at "go"
  exact h1 c F
theorem Z5D:∀ts Q,Z1i ts Q->Z3m {nx:=fun _=>Q .non,rt:=Q} (startT 9 ts):=by
 rintro _ Q ⟨L,ways,w,w0,rfl,hL,hw,q1,q2⟩
 have lm:(L.map thT).length=L.length:=List.length_map _
 unfold Z3m
 obtain⟨W0,hW0⟩:∃W,W=Z0J:=⟨_,rfl⟩
 rw[← hW0]
 walk_at "tw"
 rw[lm]
 refine⟨by omega,by omega,?_⟩
 rw[Int.toNat_natCast,rangeT_rng]
 refine⟨ways,allI L,rfl,hw.2,?_⟩
 dsimp only
 cases e:firstW ways (allI L) with
 | some h =>
  refine⟨fun _=>q1 h e,fun z=>by cases z⟩
 | none =>
  refine⟨(fun z=>by cases z),fun _=>?_⟩
  refine⟨fun k τ=>∃(s:Nat) (s4 s7 s8:Slot),k=L.length - s/\s<=L.length/\(∀s',s' < s->∀c'∈ris L.length s',firstW ways c'≠none)/\τ=[.val (.lst (L.map thT)),.val (.lst (ways.map wyT)),.val (.str w),.val (.str w0),s4,.val (.int s),.val (.lst (paperF ways L.length s)),s7,s8],⟨L.length,0,_,_,_,rfl,Nat.zero_le _,fun s' h=>absurd h (by omega),rfl⟩,?_⟩
  rintro k τ ⟨s,s4,s7,s8,rfl,hs,hless,rfl⟩
  refine⟨fun _=>?_,fun z=>by cases z⟩
  rw[hW0]
  refine few_b0 hL hw hs e hless (fun c F=>q2 e s c hs F) fun hlt hl2 s7 s8=>?_
  exact⟨L.length - (s + 1),by omega,s + 1,_,_,_,rfl,hlt,hl2,rfl⟩
structure YK(sun:List (Int×Tr))(ws ds:List Th):Prop where
 ok:YOk sun ws ds
 nd:(ds.map (·.1)).Nodup
 apart:∀a∈ws,∀b∈ds,a.1≠b.1
 few1:ws.length<=10
 few2:ds.length<=10
theorem dial_find:∀{ds:List Th}{t:Th},(ds.map (·.1)).Nodup->t∈ds->dialAt ds t.1=some t
 | [],t,_,h=>by cases h
 | x::r,t,nd,h=>by
  rw[List.map_cons,List.nodup_cons]at nd
  unfold dialAt
  rw[List.find?_cons]
  rcases List.mem_cons.mp h with rfl|h
  ·simp
  ·have ne:x.1≠t.1:=fun e=>nd.1 (by rw[e];exact List.mem_map_of_mem h)
   rw[decide_eq_false ne]
   exact dial_find nd.2 h
abbrev dirAt(sun:List (Int×Tr))(h:Int):Tr:=((sunAt sun h).map (·.2)).getD (0,0,0)
noncomputable def rdB(sun:List (Int×Tr))(L:List Th)(h:Int)(t:Th):Bool:=readW (dirAt sun h) t (tipOf t) L
theorem told_cal{sun:List (Int×Tr)}{ws ds:List Th}{h:Int}{t:Th}{Q:T->Prop}(Y:YOk sun ws ds)(nd:(ds.map (·.1)).Nodup)(ht:t∈ds)(lh:Lim 100 h)(hs:(sunAt sun h).isSome=true)(q:∀x,Told (dirAt sun h) t (tipOf t) (ws++ds) x->Q x) :
  Z07 [yardT sun ws ds,.int h,.str t.1] Q:=by
 refine⟨sun,ws,ds,h,t.1,rfl,Y,(Y.things t (List.mem_append_right _ ht)).1,log_lim lh,?_⟩
 cases e:sunAt sun h with
 | none=>rw[e]at hs;cases hs
 | some d =>
  dsimp only
  rw[dial_find nd ht]
  dsimp only
  refine q _ ?_
  have:dirAt sun h=d.2:=by unfold dirAt;rw[e];rfl
  rw[this]
  exact told_is _ _ _ _
theorem thT_0(t:Th):∃r,thT t=.tup (.str t.1::r):=by
 obtain⟨nm,p,o⟩:=t
 cases o<;>exact⟨_,rfl⟩
def rdL(p:Th->Bool):Nat->List Th->List Int
 | _,[]=>[]
 | i,t::r=>if p t then (i:Int)::rdL p (i + 1) r else rdL p (i + 1) r
theorem rdL_len{p:Th->Bool}:∀(ds:List Th)(i:Nat),(rdL p i ds).length<=ds.length
 | [],i=>by simp[rdL]
 | t::r,i=>by
  have:=rdL_len (p:=p) r (i + 1)
  simp only[rdL]
  split<;>simp<;>omega
def Z0w:SpT:=fun ts Q=>∃(sun:List (Int×Tr)) (ws ds:List Th) (h:Int),ts=[yardT sun ws ds,.int h]/\YK sun ws ds/\Lim 100 h/\(sunAt sun h).isSome=true/\Q (.lst (((rdL (rdB sun (ws++ds) h) 0 ds).map fun n=>[n]).map intsT))
theorem Z3Z:∀ts Q,Z0w ts Q->ts.length=2:=by rintro ts Q ⟨_,_,_,_,e,_⟩;subst e;rfl
def Z25:WS :=
 (sSeq (sSet 2 (w2 rIxTT (wVar 0) (wC (.int 2))))
  (sRet (wComp (iEnum (aCons (wVar 2) aNil)) (gT 2 (gsC (gN 0) (gsC (gN 1) gs0))) (tCmpT cEqT (w2 rIxTT (wCall Z07 (aCons (wVar 2) (aCons (wVar 3) (aCons (w2 rIxTT (wVar 1) (wC (.int 0))) aNil)))) (wC (.int 0))) (wC (.str (Str.ofString "read")))) (wLst (aCons (wVar 0) aNil)) 2 [0,1])))
abbrev tTd:WT:=tCmpT cEqT (w2 rIxTT (wCall Z07 (aCons (wVar 2) (aCons (wVar 3) (aCons (w2 rIxTT (wVar 1) (wC (.int 0))) aNil)))) (wC (.int 0))) (wC (.str (Str.ofString "read")))
theorem dr_comp{Q:List T->Prop}{sun:List (Int×Tr)}{ws ds:List Th}{h:Int}(Y:YK sun ws ds)(lh:Lim 100 h)(hs:(sunAt sun h).isSome=true):∀(L:List Th)(i:Nat)(acc:List T)(s s':Slot),(∀t∈L,t∈ds)->Q (acc++((rdL (rdB sun (ws++ds) h) i L).map fun n=>[n]).map intsT) →
  compT (gT 2 (gsC (gN 0) (gsC (gN 1) gs0))) tTd (wLst (aCons (wVar 0) aNil)) (enumT i (L.map thT)) acc [s,s',.val (yardT sun ws ds),.val (.int h)] Q
 | [],i,acc,s,s',_,q=>by
  simp only[rdL,List.map_nil,List.append_nil]at q
  exact q
 | t::r,i,acc,s,s',hL,q=>by
  have ih:=fun (acc:List T) (s s':Slot) h=>dr_comp (Q:=Q) Y lh hs r (i + 1) acc s s' (fun t m=>hL t (List.mem_cons_of_mem _ m)) h
  obtain⟨rr,et⟩:=thT_0 t
  obtain⟨SP,hSP⟩:∃S,S=Z07:=⟨_,rfl⟩
  have sp:∀{Q:T->Prop},(∀x,Told (dirAt sun h) t (tipOf t) (ws++ds) x->Q x)->SP [yardT sun ws ds,.int h,.str t.1] Q:=fun q=>by rw[hSP];exact told_cal Y.ok Y.nd (hL t List.mem_cons_self) lh hs q
  simp only[List.map,enumT,compT]
  generalize compT (gT 2 (gsC (gN 0) (gsC (gN 1) gs0))) tTd (wLst (aCons (wVar 0) aNil)) (enumT (i + 1) (r.map thT))=F at ih ⊢
  unfold tTd
  rw[← hSP]
  clear hSP
  rw[et]
  walk_at "go"
  rw[atI0]
  walk_at "go"
  refine sp fun x hx=>?_
  simp only[wC]
  refine told_read hx ?_
  simp only[rdL]at q
  have eb:rdB sun (ws++ds) h t=readW (dirAt sun h) t (tipOf t) (ws++ds):=rfl
  rw[eb]at q
  cases e:readW (dirAt sun h) t (tipOf t) (ws++ds) with
  | true =>
   rw[e]at q
   walk_at "go"
   have e1:intsT [(i:Int)]=.lst [.int i]:=rfl
   exact ih _ _ _ (by simpa [e1] using q)
  | false =>
   rw[e]at q
   walk_at "go"
   exact ih _ _ _ (by simpa using q)
theorem Z49:∀ts Q,Z0w ts Q->Z25 {nx:=fun _=>Q .non,rt:=Q} (startT 3 ts):=by
 rintro _ Q ⟨sun,ws,ds,h,rfl,Y,lh,hs,q⟩
 have ld:(enumT 0 (ds.map thT)).length<=1000:=by rw[enumT_length,List.length_map];have:=Y.few2;omega
 unfold Z25
 rw[show tCmpT cEqT (w2 rIxTT (wCall Z07 (aCons (wVar 2) (aCons (wVar 3) (aCons (w2 rIxTT (wVar 1) (wC (.int 0))) aNil)))) (wC (.int 0))) (wC (.str (Str.ofString "read")))=tTd from rfl]
 obtain⟨W0,hW0⟩:∃W,W=tTd:=⟨_,rfl⟩
 rw[← hW0]
 walk_at "go"
 rw[hW0]
 refine dr_comp Y lh hs ds 0 [] _ _ (fun t m=>m) ?_
 rw[List.nil_append]
 exact q
theorem putI_mem{ks:List Int}{k x:Int}(h:x∈putI ks k):x∈ks∨x=k:=by
 unfold putI at h
 split at h
 ·exact .inl h
 ·rcases List.mem_append.mp h with h|h
  ·exact .inl h
  ·exact .inr (List.mem_singleton.mp h)
theorem onceF_mem{sun:List (Int×Tr)}:∀{hs ks ks':List Int},onceF sun hs ks=(none,ks')->∀k∈ks',k∈ks∨(k∈hs/\(sunAt sun k).isSome=true)
 | [],ks,ks',h,k,m=>by
  have h':((none:Option Int),ks)=(none,ks'):=h
  cases h'
  exact .inl m
 | x::r,ks,ks',h,k,m=>by
  simp only[onceF]at h
  cases e:sunAt sun x with
  | none=>rw[e]at h;cases h
  | some d =>
   rw[e]at h
   rcases onceF_mem h k m with q|q
   ·rcases putI_mem q with q|rfl
    ·exact .inl q
    ·exact .inr ⟨List.mem_cons_self,by rw[e];rfl⟩
   ·exact .inr ⟨List.mem_cons_of_mem _ q.1,q.2⟩
theorem onceF_len{sun:List (Int×Tr)}:∀{hs ks ks':List Int}{o:Option Int},onceF sun hs ks=(o,ks')->ks'.length<=ks.length + hs.length
 | [],ks,ks',o,h=>by
  have h':((none:Option Int),ks)=(o,ks'):=h
  cases h'
  simp
 | x::r,ks,ks',o,h=>by
  simp only[onceF]at h
  cases e:sunAt sun x with
  | none=>rw[e]at h;cases h;simp
  | some d =>
   rw[e]at h
   have:=onceF_len h
   have:=putI_len ks x
   simp
   omega
theorem onceF_find{sun:List (Int×Tr)}{p:Int->Bool}:∀{hs ks ks':List Int},onceF sun hs ks=(none,ks')->ks'.find? p=(ks++hs).find? p
 | [],ks,ks',h=>by
  have h':((none:Option Int),ks)=(none,ks'):=h
  cases h'
  rw[List.append_nil]
 | x :: r,ks,ks',h=>by
  simp only[onceF]at h
  cases e:sunAt sun x with
  | none=>rw[e]at h;cases h
  | some d =>
   rw[e]at h
   rw[onceF_find h]
   unfold putI
   cases c:ks.contains x with
   | false=>simp
   | true =>
    simp only[if_true]
    rw[List.find?_append,List.find?_append,List.find?_cons]
    cases px:p x with
    | false=>rfl
    | true =>
     have:(ks.find? p).isSome=true:=List.find?_isSome.mpr ⟨x,by simpa using c,px⟩
     cases q:ks.find? p with
     | none=>rw[q]at this;cases this
     | some y=>rfl
structure FewQ(L:List Th)(ways:List Way)(w w0:String)(Q:T->Prop):Prop where
 un:∀h,firstW ways (allI L)=some h->Q (.tup [sWd w0,.int h])
 yes:firstW ways (allI L)=Option.none->∀s c,s<=L.length->Fst ways L.length s c->Q (.tup [sWd w,.lst ((c.map (nmAt L)).map T.str),.lst (paperF ways L.length s)])
noncomputable def wyD(sun:List (Int×Tr))(ws ds:List Th)(k:Int):Way:=(k,(rdL (rdB sun (ws++ds) k) 0 ds).map fun n=>[n])
def Z0e:SpT:=fun ts Q=>∃(sun:List (Int×Tr)) (ws ds:List Th) (hs:List Int),ts=[yardT sun ws ds,intsT hs]/\YK sun ws ds/\hs.length<=100/\(∀h∈hs,Lim 100 h) ∧
 (match onceF sun hs [] with|(some h,_)=>False|(none,ks)=>FewQ ds (ks.map (wyD sun ws ds)) "dials" "unread" Q)
theorem Z4a:∀ts Q,Z0e ts Q->ts.length=2:=by rintro ts Q ⟨_,_,_,_,e,_⟩;subst e;rfl
def Z0c:WE :=
 (wTup (aCons (wVar 0) (aCons (wCall Z0w (aCons (wVar 1) (aCons (wVar 0) aNil))) aNil)))
def Z2w:WS :=
 (sSeq (sSet 2 (wComp (iSeq (wCall Z10 (aCons (w2 rIxTT (wVar 0) (wC (.int 0))) (aCons (wVar 1) aNil)))) (gN 0) tTrue Z0c 1 [0]))
  (sRet (wCall Z1i (aCons (w2 rIxTT (wVar 0) (wC (.int 2))) (aCons (wVar 2) (aCons (wC (.str (Str.ofString "dials"))) (aCons (wC (.str (Str.ofString "unread"))) aNil)))))))
theorem fd_comp{Q:List T->Prop}{sun:List (Int×Tr)}{ws ds:List Th}(Y:YK sun ws ds):∀(ks:List Int)(acc:List T)(s:Slot),(∀k∈ks,Lim 100 k/\(sunAt sun k).isSome=true)->Q (acc++(ks.map (wyD sun ws ds)).map wyT)->compT (gN 0) tTrue Z0c (ks.map T.int) acc [s,.val (yardT sun ws ds)] Q
 | [],acc,s,_,h=>by
  simp only[List.map_nil,List.append_nil]at h
  exact h
 | k::r,acc,s,hk,h=>by
  have ih:=fun (acc:List T) (s:Slot) h=>fd_comp (Q:=Q) Y r acc s (fun k m=>hk k (List.mem_cons_of_mem _ m)) h
  simp only[List.map,compT]
  generalize compT (gN 0) tTrue Z0c (r.map T.int)=F at ih ⊢
  unfold Z0c
  walk_at "go"
  refine⟨sun,ws,ds,k,rfl,Y,(hk k List.mem_cons_self).1,(hk k List.mem_cons_self).2,?_⟩
  walk_at "go"
  refine ih _ _ ?_
  have e:wyT (wyD sun ws ds k)=.tup [.int k,.lst (((rdL (rdB sun (ws++ds) k) 0 ds).map fun n=>[n]).map intsT)]:=rfl
  simpa [e] using h
theorem wok_D{sun:List (Int×Tr)}{ws ds:List Th}{ks:List Int}(Y:YK sun ws ds)(hl:ks.length<=500):WOk (ks.map (wyD sun ws ds)):=by
 refine⟨by rw[List.length_map];exact hl,fun e me=>?_⟩
 obtain⟨k,_,rfl⟩:=List.mem_map.mp me
 refine⟨?_,fun w mw=>?_⟩
 ·show ((rdL (rdB sun (ws++ds) k) 0 ds).map fun n=>[n]).length<=1000
  rw[List.length_map]
  have:=rdL_len (p:=rdB sun (ws++ds) k) ds 0
  have:=Y.few2
  omega
 ·obtain⟨n,_,rfl⟩:=List.mem_map.mp mw
  show 1<=1000
  decide
theorem Z4v:∀ts Q,Z0e ts Q->Z2w {nx:=fun _=>Q .non,rt:=Q} (startT 3 ts):=by
 rintro _ Q ⟨sun,ws,ds,hs,rfl,Y,hl,hi,q⟩
 unfold Z2w
 obtain⟨C0,hC0⟩:∃W,W=Z0c:=⟨_,rfl⟩
 rw[← hC0]
 walk_at "go"
 refine⟨sun,hs,rfl,hl,hi,?_⟩
 cases e:onceF sun hs [] with
 | mk o ks =>
  rw[e]at q
  cases o with
  | some h=>exact q
  | none =>
   have lk:ks.length<=100:=by have:=onceF_len e;simp at this;omega
   have lk':(ks.map T.int).length<=1000:=by rw[List.length_map];omega
   have hk:∀k∈ks,Lim 100 k/\(sunAt sun k).isSome=true:=fun k mk=>by
    rcases onceF_mem e k mk with z|z
    ·cases z
    ·exact⟨hi k z.1,z.2⟩
   walk_at "go"
   rw[hC0]
   refine fd_comp Y ks [] _ hk ?_
   rw[List.nil_append]
   walk_at "go"
   exact⟨ds,_,_,_,rfl,Y.few2,wok_D Y (by omega),q.un,q.yes⟩
structure YF(sun:List (Int×Tr))(ws ds:List Th):Prop where
 k:YK sun ws ds
 s0:0 < sun.length
 s1:sun.length<=30
 hrs:∀e∈sun,0<=e.1/\e.1<=1000
 wn:(ws.map (·.1)).Nodup
 sd:(sun.map (·.1)).Nodup
theorem small19{i:Int}(h0:-1000000 < i)(h1:i < 1000000):Lim 19 i:=Lim.of (by omega) (by omega)
theorem l7{i:Int}(h0:-1000000 < i)(h1:i < 1000000):Lim 12 i:=Lim.of (by omega) (by omega)
theorem l2{i:Int}(h0:-100 < i)(h1:i < 100):Lim 2 i:=Lim.of (by omega) (by omega)
def Z36:SpT:=fun ts Q=>∃(ns:List Int) (md mf mh:Int),ts=[.lst (ns.map T.int),.int md,.int mf,.int mh]/\(0<=md/\md<=7)/\(0<=mf/\mf<=6)/\(1<=mh/\mh<=8)/\∀sun ws ds,YF sun ws ds->ws.length<=6->(ds.length:Int)<=md->Q (yardT sun ws ds)
theorem Z72:∀ts Q,Z36 ts Q->ts.length=4:=by rintro ts Q ⟨_,_,_,_,e,_⟩;subst e;rfl
def Z0R:WS :=
 (sSeq (sAppP 8 (pTup (paCons (pE (w2 rAddT (wC (.int 3)) (w2 rMulT (wC (.int 2)) (wVar 9)))) (paCons (pTup (paCons (pPop 6 (w2 rModT (wVar 7) (wOLen 6))) (paCons (pE (wC (.int 0))) (paCons (pE (wC (.int 1))) paNil)))) paNil))))
  (sSet 7 (w2 rDivT (wVar 7) (wC (.int 12)))))
def Z0S:WS :=
 (sSeq (sSet 7 (wCall Z06 (aCons (wVar 0) (aCons (w2 rAddT (wC (.int 20)) (wVar 9)) aNil))))
  (sSeq (sSet 12 (w2 rModT (wVar 7) (w2 rAddT (wVar 5) (wC (.int 2)))))
  (sSeq (sSet 13 (w2 rModT (w2 rDivT (wVar 7) (wC (.int 12))) (wC (.int 5))))
  (sSeq (sSet 14 (wTup (aCons (wTup (aCons (wC (.int 0)) (aCons (w2 rMulT (wC (.int 100)) (wVar 9)) (aCons (wC (.int 0)) aNil)))) (aCons (wTup (aCons (w2 rAddT (w2 rMulT (wC (.int 4)) (wVar 13)) (wC (.int 1))) (aCons (wC (.int 0)) (aCons (wC (.int 0)) aNil)))) (aCons (wTup (aCons (wC (.int 0)) (aCons (wC (.int 4)) (aCons (wC (.int 0)) aNil)))) aNil)))))
  (sApp 10 (wTup (aCons (wCall Z1e (aCons (wVar 0) (aCons (w2 rAddT (wC (.int 20)) (wVar 9)) aNil))) (aCons (wVar 14) (aCons (wTup (aCons (w2 rMulT (wC (.int 4)) (w2 rAddT (wVar 12) (wVar 13))) (aCons (w2 rAddT (w2 rMulT (wC (.int 100)) (wVar 9)) (wC (.int 2))) (aCons (wC (.int 4)) aNil)))) aNil)))))))))
def Z1o:WS :=
 (sSeq (sSet 13 (w2 rModT (w2 rDivT (wVar 7) (wC (.int 144))) (wC (.int 4))))
  (sSeq (sSet 16 (w2 rAddT (w2 rModT (w2 rDivT (wVar 7) (wC (.int 12))) (w2 rAddT (wVar 5) (wC (.int 2)))) (wVar 13)))
  (sSeq (sSet 14 (wTup (aCons (wTup (aCons (w2 rSubT (w2 rSubT (w2 rIxTT (wVar 15) (wC (.int 0))) (w2 rMulT (wC (.int 3)) (wVar 16))) (wC (.int 1))) (aCons (w2 rSubT (w2 rIxTT (wVar 15) (wC (.int 1))) (wC (.int 1))) (aCons (wC (.int 1)) aNil)))) (aCons (wTup (aCons (w2 rAddT (w2 rMulT (wC (.int 3)) (wVar 13)) (wC (.int 2))) (aCons (wC (.int 0)) (aCons (wC (.int 0)) aNil)))) (aCons (wTup (aCons (wC (.int 0)) (aCons (wC (.int 2)) (aCons (wC (.int 0)) aNil)))) aNil)))))
  (sApp 11 (wTup (aCons (wCall Z1e (aCons (wVar 0) (aCons (wVar 9) aNil))) (aCons (wVar 14) aNil)))))))
def Z0T:WS :=
 (sSeq (sSet 7 (wCall Z06 (aCons (wVar 0) (aCons (w2 rAddT (wC (.int 40)) (wVar 9)) aNil))))
  (sSeq (sSet 15 (wTup (aCons (wC (.int 50)) (aCons (wNeg (wC (.int 50))) (aCons (wC (.int 1)) aNil)))))
  (sSeq (sIf (tCmpT cNeT (wVar 10) (wLst aNil)) (sSet 15 (w2 rIxTT (w2 rIxTT (wVar 10) (w2 rModT (wVar 7) (wCB rLenT (aCons (wVar 10) aNil)))) (wC (.int 2)))) sNext)
  Z1o)))
def Z61:WS :=
 (sSeq (sSet 4 (w2 rDivT (wCall Z06 (aCons (wVar 0) (aCons (wC (.int 0)) aNil))) (wC (.int 2))))
  (sSeq (sSet 5 (w2 rAddT (wC (.int 1)) (w2 rModT (wVar 4) (wVar 3))))
  (sSeq (sOwnW 6 (wLRng (aCons (w2 rAddT (wVar 5) (wC (.int 2))) aNil)))
  (sSeq (sSet 7 (wCall Z06 (aCons (wVar 0) (aCons (wC (.int 1)) aNil))))
  (sSeq (sOwn 8 aNil)
  (sSeq (sFor (iRange1 (aCons (wVar 5) aNil)) (gN 9) Z0R)
  (sSeq (sOwn 10 aNil)
  (sSeq (sFor (iRange1 (aCons (w2 rModT (w2 rDivT (wVar 4) (wC (.int 100))) (w2 rAddT (wVar 1) (wC (.int 1)))) aNil)) (gN 9) Z0S)
  (sSeq (sOwn 11 aNil)
  (sFrz 10 (sSeq (sFor (iRange1 (aCons (w2 rModT (w2 rDivT (wVar 4) (wC (.int 10000))) (w2 rAddT (wVar 2) (wC (.int 1)))) aNil)) (gN 9) Z0T)
  (sFrz 11 (sFrz 8 (sRet (wTup (aCons (wVar 8) (aCons (wVar 11) (aCons (wVar 10) aNil))))))))))))))))))
theorem erase_map:∀(l:List Int)(i:Nat),(l.map T.int).eraseIdx i=(l.eraseIdx i).map T.int
 | [],i=>by simp
 | x::r,0=>by simp
 | x::r,i + 1=>by simp[erase_map r i]
def SunF(sun:List (Int×Tr)):Prop:=∀e∈sun,(0<=e.1/\e.1<=100)/\LimT 2 e.2
def SunI(k:Nat)(sun:List (Int×Tr)):Prop:=sun.Pairwise (fun a b=>a.1 < b.1)/\∀e∈sun,e.1 < 3 + 2 * (k:Int)
theorem flat_b0{D:DT}{sun:List (Int×Tr)}{lf:List Int}{k:Nat}{n:Int}{s0 s1 s2 s3 s4 s5 s10 s11 s12 s13 s14 s15 s16:Slot}(hl:0 < lf.length)(hl2:lf.length<=100)(hx:∀x∈lf,0<=x/\x<=20)(hk:k<=20)(hs:sun.length < 500)(hS:SunF sun)(hI:SunI k sun)
  (h:∀(lf':List Int)(e:Int×Tr)(n':Int),lf'.length + 1=lf.length->(∀x∈lf',0<=x/\x<=20)->SunF (sun++[e])->SunI (k + 1) (sun++[e])->D.nx [s0,s1,s2,s3,s4,s5,.own (lf'.map T.int),.val (.int n'),.own ((sun++[e]).map sT),.val (.int k),s10,s11,s12,s13,s14,s15,s16]) :
  Z0R D [s0,s1,s2,s3,s4,s5,.own (lf.map T.int),.val (.int n),.own (sun.map sT),.val (.int k),s10,s11,s12,s13,s14,s15,s16]:=by
 have m1:MulOk 2 (k:Int):=mulOkL (small19 (by omega) (by omega))
 have d12:DivOk 12:=dv (by decide)
 have lm:(lf.map T.int).length=lf.length:=List.length_map _
 have f:=fmod_pos n (b:=((lf.map T.int).length:Int)) (by omega)
 have lz:((lf.map T.int).length:Int)≠0:=by omega
 have hi:(n.fmod ((lf.map T.int).length:Int)).toNat < lf.length:=by omega
 have hsl:(sun.map sT).length < 1000:=by rw[List.length_map];omega
 have hu:=hx _ (List.getElem_mem hi)
 unfold Z0R
 walk_at "tw"
 refine⟨m1,lz,(n.fmod ((lf.map T.int).length:Int)).toNat,.int lf[(n.fmod ((lf.map T.int).length:Int)).toNat],by omega,by omega,?_,?_⟩
 ·rw[List.getElem?_map,List.getElem?_eq_getElem hi]
  rfl
 ·generalize (n.fmod ((lf.map T.int).length:Int)).toNat=i at hi hu ⊢
  generalize lf[i]=u at hu ⊢
  try walk_at "tw"
  refine⟨hsl,d12,?_⟩
  have e1:(lf.map T.int).eraseIdx i=(lf.eraseIdx i).map T.int:=erase_map lf i
  rw[e1]
  have:=h (lf.eraseIdx i) (3 + 2 * (k:Int),(u,0,1)) (n.fdiv 12) (by rw[List.length_eraseIdx,if_pos hi];omega) (fun x hx'=>hx x (List.mem_of_mem_eraseIdx hx')) (fun e me=>by
   rcases List.mem_append.mp me with me|me
   ·exact hS e me
   ·rw[List.mem_singleton.mp me]
    refine⟨?_,?_⟩
    ·show 0<=3 + 2 * (k:Int)/\3 + 2 * (k:Int)<=100
     omega
    ·have lu:Lim 2 u:=l2 (by omega) (by omega)
     have z0:Lim 2 (0:Int):=l2 (by decide) (by decide)
     have z1:Lim 2 (1:Int):=l2 (by decide) (by decide)
     exact⟨lu,z0,z1⟩) ⟨List.pairwise_append.mpr ⟨hI.1,List.pairwise_singleton _ _,fun a ma b mb=>by
    rw[List.mem_singleton.mp mb]
    exact hI.2 a ma⟩,fun e me=>by
    rcases List.mem_append.mp me with me|me
    ·have:=hI.2 e me
     omega
    ·rw[List.mem_singleton.mp me]
     show 3 + 2 * (k:Int) < _
     omega⟩
  rw[List.map_append]at this
  exact this
theorem flat_l0{D:DT}{s0 s1 s2 s3 s4 s5 s10 s11 s12 s13 s14 s15 s16:Slot}:∀(m k:Nat)(sun:List (Int×Tr))(lf:List Int)(n:Int)(s9:Slot),k + m<=20->lf.length<=100->m < lf.length->(∀x∈lf,0<=x/\x<=20)->sun.length + m < 500->SunF sun->SunI k sun →
  (∀(sun':List (Int×Tr)) s6 s7 s9,sun'.length=sun.length + m->SunF sun'->SunI (k + m) sun'->D.nx [s0,s1,s2,s3,s4,s5,s6,s7,.own (sun'.map sT),s9,s10,s11,s12,s13,s14,s15,s16]) →
  forT (gN 9) Z0R (rangeT k m) D [s0,s1,s2,s3,s4,s5,.own (lf.map T.int),.val (.int n),.own (sun.map sT),s9,s10,s11,s12,s13,s14,s15,s16]
 | 0,k,sun,lf,n,s9,_,_,_,_,_,hS,hI,h=>by
  simp only[rangeT,forT]
  exact h sun _ _ _ (by simp) hS hI
 | m + 1,k,sun,lf,n,s9,hk,hl,hm,hx,hs,hS,hI,h=>by
  have ih:=fun (lf':List Int) (e:Int×Tr) (n':Int) (h1:lf'.length + 1=lf.length) (h2:∀x∈lf',0<=x/\x<=20) (h3:SunF (sun++[e])) (h5:SunI (k + 1) (sun++[e])) (s9:Slot)=>flat_l0 (D:=D) (s0:=s0) (s1:=s1) (s2:=s2) (s3:=s3) (s4:=s4) (s5:=s5) (s10:=s10) (s11:=s11) (s12:=s12) (s13:=s13) (s14:=s14) (s15:=s15) (s16:=s16) m (k + 1) (sun++[e]) lf' n' s9 (by omega) (by omega) (by omega) h2 (by simp;omega) h3 h5 (fun sun' s6 s7 s9 e1 h4 h6=>h sun' s6 s7 s9 (by rw[e1];simp;omega) h4 (by rw[show k + (m + 1)=k + 1 + m by omega];exact h6))
  simp only[rangeT,forT]
  rw[show ((k:Int) + 1)=((k + 1:Nat):Int) by simp]
  generalize forT (gN 9) Z0R (rangeT ((k + 1:Nat):Int) m) D=F at ih ⊢
  exact flat_b0 (D:={D with nx:=F,ct:=F,bk:=D.nx}) (by omega) hl hx (by omega) (by omega) hS hI fun lf' e n' h1 h2 h3 h5=>ih lf' e n' h1 h2 h3 h5 _
theorem wTh_snoc{pad:Int}:∀(ps:List Pl)(k:Int)(p:Pl),wTh pad k (ps++[p])=wTh pad k ps++[(nameF pad (k + ps.length),p,none)]
 | [],k,p=>by simp[wTh]
 | x::r,k,p=>by
  simp only[List.cons_append,wTh,wTh_snoc r (k + 1) p,List.length_cons]
  rw[show k + 1 + (r.length:Int)=k + ((r.length + 1:Nat):Int) by omega]
theorem dTh_snoc{pad:Int}:∀(ps:List (Pl×Tr×Tr))(k:Int)(p:Pl×Tr×Tr),dTh pad k (ps++[p])=dTh pad k ps++[(nameF pad (k + ps.length),p.1,some p.2.1)]
 | [],k,p=>by simp[dTh]
 | x::r,k,p=>by
  simp only[List.cons_append,dTh,dTh_snoc r (k + 1) p,List.length_cons]
  rw[show k + 1 + (r.length:Int)=k + ((r.length + 1:Nat):Int) by omega]
theorem wTh_mem{pad:Int}:∀{ps:List Pl}{k:Int}{t:Th},t∈wTh pad k ps->∃(j:Int) (p:Pl),k<=j/\j < k + ps.length/\p∈ps/\t=(nameF pad j,p,none)
 | [],k,t,h=>by cases h
 | x::r,k,t,h=>by
  simp only[wTh]at h
  rcases List.mem_cons.mp h with rfl|h
  ·exact⟨k,x,by omega,by simp;omega,List.mem_cons_self,rfl⟩
  ·obtain⟨j,p,h1,h2,h3,h4⟩:=wTh_mem h
   exact⟨j,p,by omega,by simp;omega,List.mem_cons_of_mem _ h3,h4⟩
theorem dTh_mem{pad:Int}:∀{ps:List (Pl×Tr×Tr)}{k:Int}{t:Th},t∈dTh pad k ps->∃(j:Int) (p:Pl×Tr×Tr),k<=j/\j < k + ps.length/\p∈ps/\t=(nameF pad j,p.1,some p.2.1)
 | [],k,t,h=>by cases h
 | x::r,k,t,h=>by
  simp only[dTh]at h
  rcases List.mem_cons.mp h with rfl|h
  ·exact⟨k,x,by omega,by simp;omega,List.mem_cons_self,rfl⟩
  ·obtain⟨j,p,h1,h2,h3,h4⟩:=dTh_mem h
   exact⟨j,p,by omega,by simp;omega,List.mem_cons_of_mem _ h3,h4⟩
theorem dTh_nodup{pad:Int}:∀{ps:List (Pl×Tr×Tr)}{k:Int},0<=k->k + ps.length<=100->((dTh pad k ps).map (·.1)).Nodup
 | [],k,_,_=>by simp[dTh]
 | x::r,k,h0,h1=>by
  simp only[List.length_cons]at h1
  simp only[dTh,List.map_cons,List.nodup_cons]
  refine⟨fun m=>?_,dTh_nodup (by omega) (by omega)⟩
  obtain⟨t,mt,e⟩:=List.mem_map.mp m
  obtain⟨j,p,a1,a2,_,rfl⟩:=dTh_mem mt
  have:=nameF_inj (pad:=pad) (by omega) (by omega) h0 (by omega) e
  omega
theorem wTh_nodup{pad:Int}:∀{ps:List Pl}{k:Int},0<=k->k + ps.length<=100->((wTh pad k ps).map (·.1)).Nodup
 | [],k,_,_=>by simp[wTh]
 | x::r,k,h0,h1=>by
  simp only[List.length_cons]at h1
  simp only[wTh,List.map_cons,List.nodup_cons]
  refine⟨fun m=>?_,wTh_nodup (by omega) (by omega)⟩
  obtain⟨t,mt,e⟩:=List.mem_map.mp m
  obtain⟨j,p,a1,a2,_,rfl⟩:=wTh_mem mt
  have:=nameF_inj (pad:=pad) (by omega) (by omega) h0 (by omega) e
  omega
theorem wTh_len{pad:Int}:∀(ps:List Pl)(k:Int),(wTh pad k ps).length=ps.length
 | [],k=>rfl
 | p::r,k=>by simp[wTh,wTh_len r]
theorem dTh_len{pad:Int}:∀(ps:List (Pl×Tr×Tr))(k:Int),(dTh pad k ps).length=ps.length
 | [],k=>rfl
 | p::r,k=>by simp[dTh,dTh_len r]
theorem yk_of{sun:List (Int×Tr)}{pad:Int}{ps:List Pl}{xs:List (Pl×Tr×Tr)}(hs:∀e∈sun,LimT 2 e.2)(lp:ps.length<=8)(lx:xs.length<=10)(hp:∀p∈ps,PlLim 12 p)(hx:∀x∈xs,PlLim 12 x.1/\LimT 12 x.2.1) :
  YK sun (wTh pad 0 ps) (dTh pad 20 xs):=by
 refine⟨⟨hs,fun t ht=>?_,fun t ht=>?_,?_⟩,dTh_nodup (by decide) (by omega),fun a ha b hb e=>?_,by rw[wTh_len];omega,by rw[dTh_len];omega⟩
 ·rcases List.mem_append.mp ht with h|h
  ·obtain⟨j,p,j1,j2,mp,rfl⟩:=wTh_mem h
   exact⟨nameF_ok (by omega),hp p mp⟩
  ·obtain⟨j,p,j1,j2,mp,rfl⟩:=dTh_mem h
   exact⟨nameF_ok (by omega),(hx p mp).1⟩
 ·obtain⟨j,p,_,_,mp,rfl⟩:=dTh_mem ht
  exact⟨p.2.1,rfl,(hx p mp).2⟩
 ·rw[List.length_append,wTh_len,dTh_len];omega
 ·obtain⟨j,p,a1,a2,_,rfl⟩:=wTh_mem ha
  obtain⟨i,q,b1,b2,_,rfl⟩:=dTh_mem hb
  have:=nameF_inj (pad:=pad) (by omega) (by omega) (by omega) (by omega) e
  omega
def DxF(xs:List (Pl×Tr×Tr)):Prop:=∀x∈xs,PlLim 12 x.1/\LimT 12 x.2.1/\(-100000 < x.2.1.1/\x.2.1.1 < 100000)/\(-100000 < x.2.1.2.1/\x.2.1.2.1 < 100000)
theorem flat_b1{D:DT}{ns:List Int}{m:Int}{xs:List (Pl×Tr×Tr)}{s1 s2 s3 s4 s6 s7 s8 s11 s12 s13 s14 s15 s16:Slot}(hm:1<=m/\m<=10)(hx:xs.length < 7)(hd:DxF xs)
  (h:∀(x:Pl×Tr×Tr) s7 s12 s13 s14,DxF (xs++[x])->D.nx [.val (.lst (ns.map T.int)),s1,s2,s3,s4,.val (.int m),s6,s7,s8,.val (.int xs.length),.own ((dTh (wideF ns 60) 20 (xs++[x])).map thT),s11,s12,s13,s14,s15,s16]) :
  Z0S D [.val (.lst (ns.map T.int)),s1,s2,s3,s4,.val (.int m),s6,s7,s8,.val (.int xs.length),.own ((dTh (wideF ns 60) 20 xs).map thT),s11,s12,s13,s14,s15,s16]:=by
 have d12:DivOk 12:=dv (by decide)
 have nz:m + 2≠0:=by omega
 have m1:MulOk 100 (xs.length:Int):=mulOkL (small19 (by decide) (by decide))
 have hl:((dTh (wideF ns 60) 20 xs).map thT).length < 1000:=by rw[List.length_map,dTh_len];omega
 unfold Z0S
 walk_at "go"
 refine⟨ns,20 + xs.length,rfl,by omega,by omega,?_⟩
 generalize wideF ns (20 + xs.length)=N
 have f1:=fmod_pos N (b:=m + 2) (by omega)
 have f2:=fmod_pos (N.fdiv 12) (b:=5) (by decide)
 have m2:MulOk 4 ((N.fdiv 12).fmod 5):=mulOkL (small19 (by decide) (by decide))
 have m3:MulOk 4 (N.fmod (m + 2) + (N.fdiv 12).fmod 5):=mulOkL (small19 (by decide) (by decide))
 walk_at "go"
 refine⟨ns,20 + xs.length,rfl,by omega,by omega,?_⟩
 walk_at "go"
 generalize hu:(N.fdiv 12).fmod 5=u at f2 ⊢
 generalize hv:N.fmod (m + 2)=v at f1 ⊢
 have h2:=h (((0,100 * (xs.length:Int),0),(4 * u + 1,0,0),(0,4,0)),(4 * (v + u),100 * (xs.length:Int) + 2,4),(0,0,0)) (.val (.int N)) (.val (.int v)) (.val (.int u)) (.val (plT ((0,100 * (xs.length:Int),0),(4 * u + 1,0,0),(0,4,0)))) (fun x mx=>by
  rcases List.mem_append.mp mx with mx|mx
  ·exact hd x mx
  ·rw[List.mem_singleton.mp mx]
   have a1:Lim 12 (100 * (xs.length:Int)):=l7 (by omega) (by omega)
   have a2:Lim 12 (4 * u + 1):=l7 (by omega) (by omega)
   have a3:Lim 12 (4 * (v + u)):=l7 (by omega) (by omega)
   have a4:Lim 12 (100 * (xs.length:Int) + 2):=l7 (by omega) (by omega)
   have z0:Lim 12 (0:Int):=l7 (by decide) (by decide)
   have z4:Lim 12 (4:Int):=l7 (by decide) (by decide)
   refine⟨⟨⟨z0,a1,z0⟩,⟨a2,z0,z0⟩,⟨z0,z4,z0⟩⟩,⟨a3,a4,z4⟩,?_,?_⟩
   ·show -100000 < 4 * (v + u)/\4 * (v + u) < 100000
    omega
   ·show -100000 < 100 * (xs.length:Int) + 2/\100 * (xs.length:Int) + 2 < 100000
    omega)
 rw[dTh_snoc,List.map_append]at h2
 exact h2
theorem flat_l1{D:DT}{ns:List Int}{m:Int}{s1 s2 s3 s4 s6 s8 s11 s15 s16:Slot}(hm:1<=m/\m<=10):∀(n:Nat)(xs:List (Pl×Tr×Tr))(s7 s9 s12 s13 s14:Slot),xs.length + n<=7->DxF xs →
  (∀(xs':List (Pl×Tr×Tr)) s7 s9 s12 s13 s14,xs'.length=xs.length + n->DxF xs'->D.nx [.val (.lst (ns.map T.int)),s1,s2,s3,s4,.val (.int m),s6,s7,s8,s9,.own ((dTh (wideF ns 60) 20 xs').map thT),s11,s12,s13,s14,s15,s16]) →
  forT (gN 9) Z0S (rangeT xs.length n) D [.val (.lst (ns.map T.int)),s1,s2,s3,s4,.val (.int m),s6,s7,s8,s9,.own ((dTh (wideF ns 60) 20 xs).map thT),s11,s12,s13,s14,s15,s16]
 | 0,xs,s7,s9,s12,s13,s14,hl,hd,h=>by
  simp only[rangeT,forT]
  exact h xs _ _ _ _ _ rfl hd
 | n + 1,xs,s7,s9,s12,s13,s14,hl,hd,h=>by
  have ih:=fun (x:Pl×Tr×Tr) (hx:DxF (xs++[x])) s7 s9 s12 s13 s14=>flat_l1 (D:=D) (ns:=ns) (s1:=s1) (s2:=s2) (s3:=s3) (s4:=s4) (s6:=s6) (s8:=s8) (s11:=s11) (s15:=s15) (s16:=s16) hm n (xs++[x]) s7 s9 s12 s13 s14 (by simp;omega) hx fun xs' s7 s9 s12 s13 s14 e hd'=>h xs' s7 s9 s12 s13 s14 (by rw[e];simp;omega) hd'
  simp only[rangeT,forT]
  rw[show ((xs.length:Int) + 1)=((xs.length + 1:Nat):Int) by simp]
  have el:∀x:Pl×Tr×Tr,(xs++[x]).length=xs.length + 1:=fun x=>by simp
  simp only[el]at ih
  generalize forT (gN 9) Z0S (rangeT ((xs.length + 1:Nat):Int) n) D=F at ih ⊢
  exact flat_b1 (D:={D with nx:=F,ct:=F,bk:=D.nx}) hm (by omega) hd fun x s7 s12 s13 s14 hx=>ih x hx _ _ _ _ _
theorem flat_k0{D:DT}{ns:List Int}{m N a b c:Int}{ps:List Pl}{s1 s2 s3 s4 s6 s8 s10 s12 s13 s14 s16:Slot}(hm:1<=m/\m<=10)(hp:ps.length < 6)(hP:∀p∈ps,PlLim 12 p)(ha:-100000 < a/\a < 100000)(hb:-100000 < b/\b < 100000)
  (h:∀(p:Pl) s7 s13 s14 s15 s16,(∀q∈ps++[p],PlLim 12 q)->D.nx [.val (.lst (ns.map T.int)),s1,s2,s3,s4,.val (.int m),s6,s7,s8,.val (.int ps.length),s10,.own ((wTh (wideF ns 60) 0 (ps++[p])).map thT),s12,s13,s14,s15,s16]) :
  Z1o D [.val (.lst (ns.map T.int)),s1,s2,s3,s4,.val (.int m),s6,.val (.int N),s8,.val (.int ps.length),s10,.own ((wTh (wideF ns 60) 0 ps).map thT),s12,s13,s14,.val (tri a b c),s16]:=by
 have d12:DivOk 12:=dv (by decide)
 have d144:DivOk 144:=dv (by decide)
 have nz:m + 2≠0:=by omega
 have f1:=fmod_pos (N.fdiv 12) (b:=m + 2) (by omega)
 have f2:=fmod_pos (N.fdiv 144) (b:=4) (by decide)
 have m1:MulOk 3 ((N.fdiv 12).fmod (m + 2) + (N.fdiv 144).fmod 4):=mulOkL (small19 (by decide) (by decide))
 have m2:MulOk 3 ((N.fdiv 144).fmod 4):=mulOkL (small19 (by decide) (by decide))
 have hl:((wTh (wideF ns 60) 0 ps).map thT).length < 1000:=by rw[List.length_map,wTh_len];omega
 unfold Z1o
 walk_at "go"
 refine⟨ns,ps.length,rfl,by omega,by omega,?_⟩
 walk_at "go"
 generalize (N.fdiv 144).fmod 4=u at f2 ⊢
 generalize (N.fdiv 12).fmod (m + 2)=v at f1 ⊢
 have a1:Lim 12 (a - 3 * (v + u) - 1):=l7 (by omega) (by omega)
 have a2:Lim 12 (b - 1):=l7 (by omega) (by omega)
 have a3:Lim 12 (3 * u + 2):=l7 (by omega) (by omega)
 have z0:Lim 12 (0:Int):=l7 (by decide) (by decide)
 have z1:Lim 12 (1:Int):=l7 (by decide) (by decide)
 have z2:Lim 12 (2:Int):=l7 (by decide) (by decide)
 have h2:=h ((a - 3 * (v + u) - 1,b - 1,1),(3 * u + 2,0,0),(0,2,0)) (.val (.int N)) (.val (.int u)) (.val (plT ((a - 3 * (v + u) - 1,b - 1,1),(3 * u + 2,0,0),(0,2,0)))) (.val (tri a b c)) (.val (.int (v + u))) (fun q mq=>by
  rcases List.mem_append.mp mq with mq|mq
  ·exact hP q mq
  ·rw[List.mem_singleton.mp mq]
   exact⟨⟨a1,a2,z1⟩,⟨a3,z0,z0⟩,⟨z0,z2,z0⟩⟩)
 rw[wTh_snoc,List.map_append,Int.zero_add]at h2
 exact h2
theorem flat_b2{D:DT}{ns:List Int}{m:Int}{ps:List Pl}{xs:List (Pl×Tr×Tr)}{s1 s2 s3 s4 s6 s7 s8 s12 s13 s14 s15 s16:Slot}(hm:1<=m/\m<=10)(hp:ps.length < 6)(hP:∀p∈ps,PlLim 12 p)(hx:xs.length<=7)(hd:DxF xs)
  (h:∀(p:Pl) s7 s13 s14 s15 s16,(∀q∈ps++[p],PlLim 12 q)->D.nx [.val (.lst (ns.map T.int)),s1,s2,s3,s4,.val (.int m),s6,s7,s8,.val (.int ps.length),.val (.lst ((dTh (wideF ns 60) 20 xs).map thT)),.own ((wTh (wideF ns 60) 0 (ps++[p])).map thT),s12,s13,s14,s15,s16]) :
  Z0T D [.val (.lst (ns.map T.int)),s1,s2,s3,s4,.val (.int m),s6,s7,s8,.val (.int ps.length),.val (.lst ((dTh (wideF ns 60) 20 xs).map thT)),.own ((wTh (wideF ns 60) 0 ps).map thT),s12,s13,s14,s15,s16]:=by
 unfold Z0T
 obtain⟨W0,hW0⟩:∃W,W=Z1o:=⟨_,rfl⟩
 rw[← hW0]
 have fin:∀{N a b c:Int}{s12 s13 s14 s16:Slot},(-100000 < a/\a < 100000)->(-100000 < b/\b < 100000)->(∀(p:Pl) s7 s13 s14 s15 s16,(∀q∈ps++[p],PlLim 12 q)->D.nx [.val (.lst (ns.map T.int)),s1,s2,s3,s4,.val (.int m),s6,s7,s8,.val (.int ps.length),.val (.lst ((dTh (wideF ns 60) 20 xs).map thT)),.own ((wTh (wideF ns 60) 0 (ps++[p])).map thT),s12,s13,s14,s15,s16])->W0 D [.val (.lst (ns.map T.int)),s1,s2,s3,s4,.val (.int m),s6,.val (.int N),s8,.val (.int ps.length),.val (.lst ((dTh (wideF ns 60) 20 xs).map thT)),.own ((wTh (wideF ns 60) 0 ps).map thT),s12,s13,s14,.val (tri a b c),s16]:=fun h1 h2 h3=>by rw[hW0];exact flat_k0 hm hp hP h1 h2 h3
 clear hW0
 have lm:((dTh (wideF ns 60) 20 xs).map thT).length=xs.length:=by rw[List.length_map,dTh_len]
 have eo:EqOk (.lst ((dTh (wideF ns 60) 20 xs).map thT)) (.lst []):=by
  refine(Pn.lst (n:=3) fun x hx=>?_).ok (Pn.lst (n:=0) fun x hx=>absurd hx (by simp)) (by decide)
  obtain⟨t,mt,rfl⟩:=List.mem_map.mp hx
  obtain⟨j,p,j1,j2,_,rfl⟩:=dTh_mem mt
  refine Pn.tup fun x hx=>?_
  simp only[List.mem_cons,List.not_mem_nil,or_false]at hx
  rcases hx with rfl|rfl|rfl
  ·exact(show Pn 0 (.str (nameF (wideF ns 60) j)) from ⟨nameF_ok (by omega),Nat.le_refl 0⟩).up (by decide)
  ·exact pn_pl _
  ·exact(pn_tr _).up (by decide)
 walk_at "go"
 refine⟨ns,40 + ps.length,rfl,by omega,by omega,?_⟩
 generalize wideF ns (40 + ps.length)=N
 walk_at "go"
 rw[eqT_nilG]
 refine⟨fun c=>?_,fun _=>?_⟩
 ·have ne:dTh (wideF ns 60) 20 xs≠[]:=by simpa using c
  have hp0:0 < xs.length:=by rw[← dTh_len (pad:=wideF ns 60) xs 20];exact List.length_pos_iff.mpr ne
  have lz:(((dTh (wideF ns 60) 20 xs).map thT).length:Int)≠0:=by omega
  have fl:=fmod_pos N (b:=(((dTh (wideF ns 60) 20 xs).map thT).length:Int)) (by omega)
  obtain⟨t,mt,et⟩:=atI_mapG (f:=thT) (l:=dTh (wideF ns 60) 20 xs) fl.1 (by have:=fl.2;rw[dTh_len];omega)
  obtain⟨j,x,_,_,mx,rfl⟩:=dTh_mem mt
  have hdx:=hd x mx
  walk_at "go"
  rw[et]
  walk_at "go"
  exact fin hdx.2.2.1 hdx.2.2.2 h
 ·walk_at "go"
  exact fin (by decide) (by decide) h
theorem flat_l2{D:DT}{ns:List Int}{m:Int}{xs:List (Pl×Tr×Tr)}{s1 s2 s3 s4 s6 s8 s12:Slot}(hm:1<=m/\m<=10)(hx:xs.length<=7)(hd:DxF xs):∀(n:Nat)(ps:List Pl)(s7 s9 s13 s14 s15 s16:Slot),ps.length + n<=6->(∀p∈ps,PlLim 12 p) →
  (∀(ps':List Pl) s7 s9 s13 s14 s15 s16,ps'.length<=6->(∀p∈ps',PlLim 12 p)->D.nx [.val (.lst (ns.map T.int)),s1,s2,s3,s4,.val (.int m),s6,s7,s8,s9,.val (.lst ((dTh (wideF ns 60) 20 xs).map thT)),.own ((wTh (wideF ns 60) 0 ps').map thT),s12,s13,s14,s15,s16]) →
  forT (gN 9) Z0T (rangeT ps.length n) D [.val (.lst (ns.map T.int)),s1,s2,s3,s4,.val (.int m),s6,s7,s8,s9,.val (.lst ((dTh (wideF ns 60) 20 xs).map thT)),.own ((wTh (wideF ns 60) 0 ps).map thT),s12,s13,s14,s15,s16]
 | 0,ps,s7,s9,s13,s14,s15,s16,hl,hP,h=>by
  simp only[rangeT,forT]
  exact h ps _ _ _ _ _ _ (by omega) hP
 | n + 1,ps,s7,s9,s13,s14,s15,s16,hl,hP,h=>by
  have ih:=fun (p:Pl) (hq:∀q∈ps++[p],PlLim 12 q) s7 s9 s13 s14 s15 s16=>flat_l2 (D:=D) (ns:=ns) (s1:=s1) (s2:=s2) (s3:=s3) (s4:=s4) (s6:=s6) (s8:=s8) (s12:=s12) hm hx hd n (ps++[p]) s7 s9 s13 s14 s15 s16 (by simp;omega) hq h
  simp only[rangeT,forT]
  rw[show ((ps.length:Int) + 1)=((ps.length + 1:Nat):Int) by simp]
  have el:∀x:Pl,(ps++[x]).length=ps.length + 1:=fun x=>by simp
  simp only[el]at ih
  generalize forT (gN 9) Z0T (rangeT ((ps.length + 1:Nat):Int) n) D=F at ih ⊢
  exact flat_b2 (D:={D with nx:=F,ct:=F,bk:=D.nx}) hm (by omega) hP hx hd fun p s7 s13 s14 s15 s16 hq=>ih p hq _ _ _ _ _ _
theorem Z7s:∀ts Q,Z36 ts Q->Z61 {nx:=fun _=>Q .non,rt:=Q} (startT 17 ts):=by
 rintro _ Q ⟨ns,md,mf,mh,rfl,hmd,hmf,hmh,h⟩
 have d2:DivOk 2:=dv (by decide)
 have d100:DivOk 100:=dv (by decide)
 have d10000:DivOk 10000:=dv (by decide)
 have nz1:mh≠0:=by omega
 have nz2:md + 1≠0:=by omega
 have nz3:mf + 1≠0:=by omega
 unfold Z61
 obtain⟨W0,hW0⟩:∃W,W=Z0R:=⟨_,rfl⟩
 obtain⟨W1,hW1⟩:∃W,W=Z0S:=⟨_,rfl⟩
 obtain⟨W2,hW2⟩:∃W,W=Z0T:=⟨_,rfl⟩
 rw[← hW0,← hW1,← hW2]
 walk_at "go"
 refine⟨ns,0,rfl,by decide,by decide,?_⟩
 walk_at "tw"
 generalize hX:(wideF ns 0).fdiv 2=X
 have f1:=fmod_pos X (b:=mh) (by omega)
 have f2:=fmod_pos (X.fdiv 100) (b:=md + 1) (by omega)
 have f3:=fmod_pos (X.fdiv 10000) (b:=mf + 1) (by omega)
 generalize hM:X.fmod mh=M at f1 ⊢
 refine⟨d2,nz1,by omega,by omega,ns,1,rfl,by decide,by decide,⟨by omega,by omega⟩,?_⟩
 rw[hW0,show rangeT 0 (1 + M + 2).toNat=(rngI 0 (1 + M + 2).toNat).map T.int from rangeT_rng _ _]
 have rl:∀(n:Nat)(lo:Int),(rngI lo n).length=n:=fun n=>by
  induction n with
  | zero=>intro lo;rfl
  | succ n ih=>intro lo;simp[rngI,ih]
 have rm:∀(n:Nat)(lo x:Int),x∈rngI lo n->lo<=x/\x < lo + n:=fun n=>by
  induction n with
  | zero=>intro lo x h;cases h
  | succ n ih =>
   intro lo x h
   simp only[rngI]at h
   rcases List.mem_cons.mp h with rfl|h
   ·omega
   ·have:=ih _ _ h
    omega
 refine flat_l0 (1 + M).toNat 0 [] (rngI 0 (1 + M + 2).toNat) _ _ (by omega) (by rw[rl];omega) (by rw[rl];omega) (fun x hx=>by have:=rm _ _ _ hx;omega) (by simp;omega) (fun e he=>by cases he) ⟨List.Pairwise.nil,fun e he=>by cases he⟩ fun sun s6 s7 s9 es hS hI=>?_
 have r2:-(2 ^ 62)<=(X.fdiv 100).fmod (md + 1)/\(X.fdiv 100).fmod (md + 1) < 2 ^ 62:=⟨Int.le_trans (by decide) f2.1,Int.lt_of_lt_of_le f2.2 (by clear f1 f2 f3;omega)⟩
 have r3:-(2 ^ 62)<=(X.fdiv 10000).fmod (mf + 1)/\(X.fdiv 10000).fmod (mf + 1) < 2 ^ 62:=⟨Int.le_trans (by decide) f3.1,Int.lt_of_lt_of_le f3.2 (by clear f1 f2 f3;omega)⟩
 walk_at "tw"
 refine⟨d100,nz2,r2,?_⟩
 rw[hW1]
 refine flat_l1 (ns:=ns) (m:=1 + M) (by omega) _ [] _ _ _ _ _ (by simp;omega) (fun x hx=>by cases hx) fun xs s7 s9 s12 s13 s14 lx0 hd=>?_
 have lx:(xs.length:Int)<=md:=by simp at lx0;omega
 walk_at "tw"
 refine⟨d10000,nz3,r3,?_⟩
 rw[hW2]
 refine flat_l2 (ns:=ns) (m:=1 + M) (by omega) (by omega) hd _ [] _ _ _ _ _ _ (by simp;omega) (fun x hx=>by cases hx) fun ps s7 s9 s13 s14 s15 s16 lp hP=>?_
 walk_at "tw"
 refine h _ _ _ ⟨yk_of (fun e he=>(hS e he).2) (by omega) (by omega) hP fun x hx=>⟨(hd x hx).1,(hd x hx).2.1⟩,by rw[es];simp;omega,by rw[es];simp;omega,fun e he=>by have:=(hS e he).1;omega,wTh_nodup (by decide) (by omega),List.pairwise_map.mpr (hI.1.imp fun {a b} lt e=>by omega)⟩ (by rw[wTh_len];omega) (by rw[dTh_len];omega)
def Z26:SpT:=fun ts Q=>∃(ns:List Int) (md mf mh:Int),ts=[.lst (ns.map T.int),.int md,.int mf,.int mh]/\(0<=md/\md<=7)/\(0<=mf/\mf<=6)/\(1<=mh/\mh<=8)/\∀sun ws ds,YF sun ws ds->ws.length<=6->(ds.length:Int)<=md->Q (yardT sun ws ds)
theorem Z6h:∀ts Q,Z26 ts Q->ts.length=4:=by rintro ts Q ⟨_,_,_,_,e,_⟩;subst e;rfl
def Z3N:WS :=
 (sSeq (sIf (tCmpT cEqT (w2 rModT (w2 rDivT (wCall Z2n (aCons (wVar 0) (aCons (wC (.int 0)) aNil))) (wC (.int 2))) (wC (.int 2))) (wC (.int 1))) (sRet (wCall Z36 (aCons (wVar 0) (aCons (wVar 1) (aCons (wVar 2) (aCons (wVar 3) aNil)))))) sNext)
  (sRet (wCall Z35 (aCons (wVar 0) (aCons (wVar 1) (aCons (wVar 2) (aCons (wVar 3) aNil)))))))
theorem Z6y:∀ts Q,Z26 ts Q->Z3N {nx:=fun _=>Q .non,rt:=Q} (startT 4 ts):=by
 rintro _ Q ⟨ns,md,mf,mh,rfl,hmd,hmf,hmh,h⟩
 have d2:DivOk 2:=dv (by decide)
 unfold Z3N
 walk_at "go"
 refine⟨ns,0,rfl,by decide,by decide,?_⟩
 walk_at "go"
 refine⟨fun _=>?_,fun _=>?_⟩
 ·walk_at "go"
  exact⟨ns,md,mf,mh,rfl,hmd,hmf,hmh,h⟩
 ·walk_at "go"
  refine⟨ns,md,mf,mh,rfl,hmd,hmf,⟨hmh.1,by omega⟩,fun sun hr ps xs s0 s30 hs lp lx hp hx=>?_⟩
  refine h _ _ _ ⟨yk_of (fun e he=>(hs.2 e he).1.2) (by omega) (by omega) hp fun x mx=>⟨(hx x mx).1.mono (by decide),(hx x mx).2.mono (by decide)⟩,s0,s30,fun e he=>?_,wTh_nodup (by decide) (by omega),List.pairwise_map.mpr (hs.1.imp fun {a b} lt e=>by omega)⟩ (by rw[wTh_len];omega) (by rw[dTh_len];omega)
  have:=hs.2 e he
  omega
theorem find_mapped{α β:Type}(f:α->β)(p:β->Bool)(l:List α):(l.map f).find? p=(l.find? fun a=>p (f a)).map f:=by
 induction l with
 | nil=>rfl
 | cons a r ih =>
  rw[List.map_cons,List.find?_cons,List.find?_cons,ih]
  cases p (f a)<;>rfl
theorem firstW_map{f:Int->Way}(hf:∀k,(f k).1=k)(ks ch:List Int):firstW (ks.map f) ch=ks.find? fun k=>!opnB ch (f k):=by
 unfold firstW
 rw[find_mapped]
 cases ks.find? fun k=>!opnB ch (f k) with
 | none=>rfl
 | some x=>exact congrArg some (hf x)
theorem onceF_none{sun:List (Int×Tr)}:∀(hs ks:List Int),(onceF sun hs ks).1=hs.find? fun h=>(sunAt sun h).isNone
 | [],ks=>rfl
 | h::r,ks=>by
  simp only[onceF]
  rw[List.find?_cons]
  cases e:sunAt sun h with
  | none=>rfl
  | some d=>exact onceF_none r _
theorem hrs_comp{Q:List T->Prop}:∀(sun:List (Int×Tr))(acc:List T)(s:Slot),Q (acc++(sun.map (·.1)).map T.int)->compT (gN 0) tTrue (w2 rIxTT (wVar 0) (wC (.int 0))) (sun.map sT) acc [s] Q
 | [],acc,s,h=>by
  simp only[List.map_nil,List.append_nil]at h
  exact h
 | e::r,acc,s,h=>by
  have ih:=fun (acc:List T) (s:Slot) h=>hrs_comp (Q:=Q) r acc s h
  simp only[List.map,compT]
  generalize compT (gN 0) tTrue (w2 rIxTT (wVar 0) (wC (.int 0))) (r.map sT)=F at ih ⊢
  walk_at "go"
  refine ih _ _ ?_
  simpa using h
theorem known_is{sun:List (Int×Tr)}{h:Int}:(!(sun.map (·.1)).contains h)=(sunAt sun h).isNone:=by
 unfold sunAt
 induction sun with
 | nil=>rfl
 | cons e r ih =>
  rw[List.map_cons,List.contains_cons,List.find?_cons]
  by_cases q:e.1=h
  ·rw[decide_eq_true q]
   subst q
   simp
  ·rw[decide_eq_false q,beq_eq_false_iff_ne.mpr (Ne.symm q),Bool.false_or,ih]
theorem so_w{a b:String}(ha:SOk (Str.ofString a))(hb:SOk (Str.ofString b)):EqOk (sWd a) (sWd b):=eqOk_str ha hb
theorem pair_pn{w:String}{h:Int}(hw:SOk (Str.ofString w)):Pn 1 (.tup [sWd w,.int h]):=Pn.tup fun x hx=>by
 simp only[List.mem_cons,List.not_mem_nil,or_false]at hx
 rcases hx with rfl|rfl
 ·exact⟨hw,Nat.le_refl 0⟩
 ·exact Pn.int _
theorem eq_self_w(w:String):eqT (sWd w) (sWd w)=true:=by rw[eqT_str];exact decide_eq_true rfl
theorem sun_is{sun:List (Int×Tr)}{k:Int}(h:k∈sun.map (·.1)):(sunAt sun k).isSome=true:=by
 have:=known_is (sun:=sun) (h:=k)
 cases e:sunAt sun k with
 | some d=>rfl
 | none =>
  have c:(sun.map (·.1)).contains k=true:=by rw[List.contains_iff_mem];exact h
  rw[e,c]at this
  cases this
theorem lim_hr{i:Int}(h:0<=i/\i<=1000):Lim 100 i:=(show Lim 4 i from Lim.of (by omega) (by omega)).mono (by decide)
noncomputable abbrev rdF(sun:List (Int×Tr))(ws ds:List Th)(k:Int):List Int:=rdL (rdB sun (ws++ds) k) 0 ds
noncomputable abbrev anyD(sun:List (Int×Tr))(ws ds:List Th)(c:List Int)(k:Int):Bool:=(rdF sun ws ds k).any fun n=>c.contains n
theorem opn_Dc{sun:List (Int×Tr)}{ws ds:List Th}{k:Int}{c:List Int}:opnB c (wyD sun ws ds k)=anyD sun ws ds c k:=by
 show ((rdL (rdB sun (ws++ds) k) 0 ds).map fun n=>[n]).any (fun w=>w.all fun n=>c.contains n)=_
 rw[List.any_map]
 have:((fun w:List Int=>w.all fun n=>c.contains n) ∘ fun n=>[n])=fun n=>c.contains n:=by
  funext n
  simp
 rw[this]
theorem first_Dc{sun:List (Int×Tr)}{ws ds:List Th}{ks c:List Int}:firstW (ks.map (wyD sun ws ds)) c=ks.find? fun k=>!anyD sun ws ds c k:=by
 rw[firstW_map (fun k=>rfl)]
 simp only[opn_Dc]
noncomputable abbrev rdsP(sun:List (Int×Tr))(ws ds:List Th):List (Int×List Int):=sun.map fun e=>(e.1,rdF sun ws ds e.1)
def Z37:SpT:=fun ts Q=>∃(ns:List Int) (sun:List (Int×Tr)) (ws ds:List Th) (good:List Int),ts=[.lst (ns.map T.int),yardT sun ws ds,intsT good]/\YF sun ws ds/\good.length<=100/\(∀g∈good,g∈sun.map (·.1))/\∀hs:List Int,hs.length<=10->(∀h∈hs,h∈sun.map (·.1))->Q (intsT hs)
theorem Z6z:∀ts Q,Z37 ts Q->ts.length=3:=by rintro ts Q ⟨_,_,_,_,_,e,_⟩;subst e;rfl
def Z0M:WS :=
 (sApp 5 (w2 rIxTT (wVar 3) (w2 rModT (w2 rDivT (wVar 4) (w2 rMulT (wC (.int 36)) (w2 rAddT (w2 rAddT (w2 rMulT (wVar 6) (wVar 6)) (w2 rMulT (wC (.int 3)) (wVar 6))) (wC (.int 1))))) (wCB rLenT (aCons (wVar 3) aNil)))))
def Z1p:WS :=
 (sSeq (sOwn 5 aNil)
  (sSeq (sFor (iRange1 (aCons (w2 rModT (w2 rDivT (wVar 4) (wC (.int 4))) (wC (.int 9))) aNil)) (gN 6) Z0M)
  (sFrz 5 (sRet (wVar 5)))))
def Z55:WS :=
 (sSeq (sSet 3 (wComp (iSeq (w2 rIxTT (wVar 1) (wC (.int 0)))) (gN 0) tTrue (w2 rIxTT (wVar 0) (wC (.int 0))) 1 []))
  (sSeq (sSet 4 (w2 rDivT (wCall Z06 (aCons (wVar 0) (aCons (wC (.int 1)) aNil))) (wC (.int 24))))
  (sSeq (sIf (tAndT (tCmpT cGtT (w2 rModT (wVar 4) (wC (.int 4))) (wC (.int 0))) (tCmpT cNeT (wVar 2) (wLst aNil))) (sSet 3 (wVar 2)) sNext)
  Z1p)))
theorem hours_loop{D:DT}{som:List Int}{v:Int}{s0 s1 s2:Slot}(v0:0<=v)(l0:0 < som.length):∀(n:Nat)(lo:Int)(hs:List Int)(s6:Slot),0<=lo->lo + n<=9->hs.length<=lo->(∀h∈hs,h∈som) →
  (∀(hs:List Int) s6,hs.length<=10->(∀h∈hs,h∈som)->D.nx [s0,s1,s2,.val (intsT som),.val (.int v),.own (hs.map T.int),s6])->forT (gN 6) Z0M (rangeT lo n) D [s0,s1,s2,.val (intsT som),.val (.int v),.own (hs.map T.int),s6]
 | 0,lo,hs,s6,_,_,hl,hh,h=>by
  simp only[rangeT,forT]
  exact h hs s6 (by omega) hh
 | n + 1,lo,hs,s6,h0,h1,hl,hh,h=>by
  have ih:=fun (hs:List Int) s6=>hours_loop (D:=D) (som:=som) (s0:=s0) (s1:=s1) (s2:=s2) v0 l0 n (lo + 1) hs s6 (by omega) (by omega)
  simp only[rangeT,forT]
  generalize forT (gN 6) Z0M (rangeT (lo + 1) n) D=F at ih ⊢
  unfold Z0M
  have sm:∀{a b:Int},-1000000 < a->a < 1000000->MulOk a b:=fun x y=>.inr (.inl (small19 x y))
  have sq:lo * lo<=100:=by
   have a:lo * lo<=10 * lo:=Int.mul_le_mul_of_nonneg_right (by omega) h0
   omega
  have sq0:0<=lo * lo:=Int.mul_nonneg h0 h0
  have m1:MulOk lo lo:=sm (by omega) (by omega)
  have m2:MulOk 3 lo:=sm (by decide) (by decide)
  have m3:MulOk 36 (lo * lo + 3 * lo + 1):=sm (by decide) (by decide)
  have dv:DivOk (36 * (lo * lo + 3 * lo + 1)):=divOk (n:=10) (by omega) (Lim.of (by omega) (by omega)) (by decide)
  walk_at "go"
  have ls:(((som.map T.int).length:Nat):Int)=som.length:=by rw[List.length_map]
  generalize v.fdiv (36 * (lo * lo + 3 * lo + 1))=o
  have p0:=Int.fmod_nonneg_of_pos o (b:=((som.map T.int).length:Int)) (by omega)
  have p1:=Int.fmod_lt_of_pos o (b:=((som.map T.int).length:Int)) (by omega)
  obtain⟨x,mx,ex⟩:=atI_mapG (f:=T.int) (l:=som) (k:=o.fmod ((som.map T.int).length:Int)) p0 (by omega)
  refine⟨by omega,?_⟩
  walk_at "go"
  rw[ex]
  refine⟨by rw[List.length_map];omega,?_⟩
  walk_at "tw"
  have:=ih (hs++[x]) (.val (.int lo)) (by simp;omega) (fun a ma=>(List.mem_append.mp ma).elim (hh a) fun m=>by rw[List.mem_singleton.mp m];exact mx) h
  simpa using this
theorem Z73:∀ts Q,Z37 ts Q->Z55 {nx:=fun _=>Q .non,rt:=Q} (startT 7 ts):=by
 rintro _ Q ⟨ns,sun,ws,ds,good,rfl,Y,lg,hg,h⟩
 unfold Z55
 obtain⟨K0,hK0⟩:∃W,W=Z1p:=⟨_,rfl⟩
 rw[← hK0]
 obtain⟨v0,lv⟩:=wideF_ok (ns:=ns) (k:=1) (by decide) (by decide)
 have d24:DivOk 24:=divOk (n:=4) (by decide) (Lim.of (by decide) (by decide)) (by decide)
 have fin:∀{som:List Int}{v:Int},0<=v->0 < som.length->(∀g∈som,g∈sun.map (·.1))->K0 {nx:=fun _=>Q .non,rt:=Q} [.val (.lst (ns.map T.int)),.val (yardT sun ws ds),.val (intsT good),.val (intsT som),.val (.int v),.no,.no]:=fun {som v} v0 l0 hm=>by
  rw[hK0]
  unfold Z1p
  obtain⟨W0,hW0⟩:∃W,W=Z0M:=⟨_,rfl⟩
  rw[← hW0]
  have d4:DivOk 4:=divOk (n:=4) (by decide) (Lim.of (by decide) (by decide)) (by decide)
  have p0:=Int.fmod_nonneg_of_pos (v.fdiv 4) (b:=9) (by decide)
  have p1:=Int.fmod_lt_of_pos (v.fdiv 4) (b:=9) (by decide)
  walk_at "tw"
  rw[hW0]
  refine⟨d4,by decide,⟨by omega,by omega⟩,?_⟩
  refine hours_loop v0 l0 _ 0 [] _ (by decide) (by omega) (by simp) (fun h m=>by cases m) fun hs s6 l1 l2=>?_
  walk_at "go"
  exact h hs l1 fun a ma=>hm a (l2 a ma)
 clear hK0
 have l0:=Y.s0
 have l1:=Y.s1
 walk_at "go"
 refine⟨by rw[List.length_map];omega,hrs_comp sun [] _ ?_⟩
 rw[List.nil_append]
 walk_at "go"
 refine⟨ns,1,rfl,by decide,by decide,?_⟩
 have w0:0<=(wideF ns 1).fdiv 24:=Int.fdiv_nonneg v0 (by decide)
 walk_at "go"
 generalize (wideF ns 1).fdiv 24=v at w0 ⊢
 have k1:=fin w0 (som:=sun.map (·.1)) (by rw[List.length_map];exact l0) fun g m=>m
 refine⟨fun _=>?_,fun _=>?_⟩
 ·walk_at "go"
  refine⟨eqOk_nil good,?_⟩
  rw[eqT_nil good]
  cases good with
  | nil =>
   refine⟨(fun z=>by cases z),fun _=>?_⟩
   walk_at "tw"
   exact k1
  | cons a r =>
   refine⟨fun _=>?_,fun z=>by cases z⟩
   walk_at "tw"
   exact fin w0 (by simp) hg
 ·walk_at "tw"
  exact⟨(fun z=>by cases z),fun _=>k1⟩
theorem keys_rds(sun:List (Int×Tr))(ws ds:List Th):(rdsP sun ws ds).map (·.1)=sun.map (·.1):=by rw[List.map_map];rfl
theorem rIx_dic{sun:List (Int×Tr)}{ws ds:List Th}{k:Int}{Q:T->Prop}(nd:(sun.map (·.1)).Nodup)(hk:k∈sun.map (·.1))(q:Q (intsT (rdF sun ws ds k))):rIxDT (dicT (rdsP sun ws ds)) (.int k) Q:=by
 obtain⟨e,me,ee⟩:=List.mem_map.mp hk
 obtain⟨j,hj,ej⟩:=List.getElem_of_mem me
 refine⟨by rw[keys_rds];exact nd,j,intsT (rdF sun ws ds k),?_,?_,q⟩
 ·rw[keys_rds,List.getElem?_map,List.getElem?_eq_getElem hj,ej]
  exact congrArg some ee
 ·rw[List.map_map,List.getElem?_map,List.getElem?_eq_getElem hj,ej,← ee]
  rfl
def Z1T:SpT:=fun ts Q=>∃(sun:List (Int×Tr)) (ws ds:List Th),ts=[yardT sun ws ds]/\YF sun ws ds/\Q (dicT (rdsP sun ws ds))
theorem Z6A:∀ts Q,Z1T ts Q->ts.length=1:=by rintro ts Q ⟨_,_,_,e,_⟩;subst e;rfl
def Z56:WS :=
 (sReads 1 2 3 4 (iSeq (w2 rIxTT (wVar 0) (wC (.int 0)))) (iRange1 (aCons (wCB rLenT (aCons (w2 rIxTT (wVar 0) (wC (.int 2))) aNil)) aNil)) (tCmpT cEqT (w2 rIxTT (wCall Z07 (aCons (wVar 0) (aCons (wVar 2) (aCons (w2 rIxTT (w2 rIxTT (w2 rIxTT (wVar 0) (wC (.int 2))) (wVar 4)) (wC (.int 0))) aNil)))) (wC (.int 0))) (wC (.str (Str.ofString "read")))))
abbrev utR:WT:=tCmpT cEqT (w2 rIxTT (wCall Z07 (aCons (wVar 0) (aCons (wVar 2) (aCons (w2 rIxTT (w2 rIxTT (w2 rIxTT (wVar 0) (wC (.int 2))) (wVar 4)) (wC (.int 0))) aNil)))) (wC (.int 0))) (wC (.str (Str.ofString "read")))
abbrev wiR:WI:=iRange1 (aCons (wCB rLenT (aCons (w2 rIxTT (wVar 0) (wC (.int 2))) aNil)) aNil)
theorem inn_loop{sun:List (Int×Tr)}{ws ds:List Th}{h:Int}{NQ:List Int->List Slot->Prop}{s1 s3:Slot}(Y:YK sun ws ds)(lh:Lim 100 h)(hs:(sunAt sun h).isSome=true):∀(n lo:Nat)(us:List Int)(s4:Slot),lo + n=ds.length->us.length<=lo->(∀s4,NQ (us++rdL (rdB sun (ws++ds) h) lo (ds.drop lo)) [.val (yardT sun ws ds),s1,.val (.int h),s3,s4])->innT 4 utR (rangeT lo n) us NQ [.val (yardT sun ws ds),s1,.val (.int h),s3,s4]
 | 0,lo,us,s4,hn,_,q=>by
  rw[List.drop_eq_nil_of_le (by omega)]at q
  simp only[rdL,List.append_nil]at q
  simp only[rangeT,innT]
  exact q _
 | n + 1,lo,us,s4,hn,hu,q=>by
  have l10:=Y.few2
  have hl:lo < ds.length:=by omega
  have ih:=fun (us:List Int) s4=>inn_loop (NQ:=NQ) (s1:=s1) (s3:=s3) Y lh hs n (lo + 1) us s4 (by omega)
  have e2:((lo + 1:Nat):Int)=(lo:Int) + 1:=by omega
  rw[e2]at ih
  obtain⟨rr,et⟩:=thT_0 ds[lo]
  have e1:atI (ds.map thT) (lo:Int)=some (thT ds[lo]):=by
   unfold atI ixN
   rw[List.length_map,if_pos (by omega),if_pos (by omega)]
   simp only[Option.bind,Int.toNat_natCast]
   rw[List.getElem?_map,List.getElem?_eq_getElem hl]
   rfl
  obtain⟨SP,hSP⟩:∃S,S=Z07:=⟨_,rfl⟩
  have sp:∀{Q:T->Prop},(∀x,Told (dirAt sun h) ds[lo] (tipOf ds[lo]) (ws++ds) x->Q x)->SP [yardT sun ws ds,.int h,.str ds[lo].1] Q:=fun q=>by rw[hSP];exact told_cal Y.ok Y.nd (List.getElem_mem hl) lh hs q
  rw[List.drop_eq_getElem_cons hl]at q
  simp only[rdL]at q
  have eb:rdB sun (ws++ds) h ds[lo]=readW (dirAt sun h) ds[lo] (tipOf ds[lo]) (ws++ds):=rfl
  rw[eb]at q
  simp only[rangeT,innT]
  refine⟨by omega,?_⟩
  generalize innT 4 utR (rangeT ((lo:Int) + 1) n)=F at ih ⊢
  unfold utR
  rw[← hSP]
  clear hSP
  walk_at "go"
  rw[e1,et]
  walk_at "go"
  rw[atI0]
  walk_at "go"
  refine sp fun x hx=>?_
  simp only[wC]
  refine told_read hx ?_
  cases e:readW (dirAt sun h) ds[lo] (tipOf ds[lo]) (ws++ds) with
  | true =>
   rw[e]at q
   refine ih _ _ (by simp;omega) fun s4=>?_
   have:=q s4
   simpa using this
  | false =>
   rw[e]at q
   refine ih _ _ (by simp;omega) fun s4=>?_
   have:=q s4
   simpa using this
theorem reads_loop{sun:List (Int×Tr)}{ws ds:List Th}{Q:List (Int×List Int)->Prop}{s1:Slot}(Y:YF sun ws ds):∀(L pre:List (Int×Tr))(s2 s3 s4:Slot),sun=pre++L->Q (rdsP sun ws ds)->readsT 2 3 4 wiR utR (L.map sT) (pre.map fun e=>(e.1,rdF sun ws ds e.1)) Q [.val (yardT sun ws ds),s1,s2,s3,s4]
 | [],pre,s2,s3,s4,e,q=>by
  rw[List.append_nil]at e
  simp only[List.map,readsT]
  rw[← e]
  exact q
 | x::r,pre,s2,s3,s4,e,q=>by
  have ih:=fun s2 s3 s4=>reads_loop (s1:=s1) Y r (pre++[x]) s2 s3 s4 (by rw[e];simp) q
  have l30:=Y.s1
  have l10:=Y.k.few2
  have lp:pre.length<=30:=by rw[e]at l30;simp at l30;omega
  have mx:x∈sun:=by rw[e];simp
  have nin:x.1∉pre.map (·.1):=fun m=>by
   have:=Y.sd
   rw[e,List.map_append,List.map_cons]at this
   exact(List.nodup_append.mp this).2.2 x.1 m x.1 List.mem_cons_self rfl
  simp only[List.map,readsT]
  rw[List.map_append]at ih
  generalize readsT 2 3 4 wiR utR (r.map sT)=F at ih ⊢
  refine⟨⟨by rw[List.map_map];exact nin,by rw[List.length_map];omega⟩,?_⟩
  unfold wiR
  walk_at "tw"
  rw[List.length_map]
  refine⟨⟨by omega,by omega⟩,?_⟩
  rw[Int.toNat_natCast]
  refine inn_loop Y.k (lim_hr (Y.hrs x mx)) (sun_is (List.mem_map_of_mem mx)) ds.length 0 [] _ (by omega) (by simp) fun s4=>?_
  exact ih _ _ _
theorem Z74:∀ts Q,Z1T ts Q->Z56 {nx:=fun _=>Q .non,rt:=Q} (startT 5 ts):=by
 rintro _ Q ⟨sun,ws,ds,rfl,Y,q⟩
 unfold Z56
 refine⟨⟨Nat.le_of_ble_eq_true rfl,Nat.le_of_ble_eq_true rfl,Nat.le_of_ble_eq_true rfl,fun j=>?_⟩,?_⟩
 ·match j with
  | 0|1|2|3|4=>rfl
  | j + 5=>exact congrArg lone1 (sget_big (show 5<=j + 5 by omega))
 ·exact reads_loop Y sun [] _ _ _ rfl q
abbrev nmsOf(ws:List Th):List Str:=ws.map (·.1)
theorem fst_comp{Q:List T->Prop}:∀(L:List Th)(acc:List T)(s:Slot),Q (acc++(nmsOf L).map T.str)->compT (gN 0) tTrue (w2 rIxTT (wVar 0) (wC (.int 0))) (L.map thT) acc [s] Q
 | [],acc,s,h=>by
  simp only[nmsOf,List.map_nil,List.append_nil]at h
  exact h
 | t::r,acc,s,h=>by
  have ih:=fun (acc:List T) (s:Slot) h=>fst_comp (Q:=Q) r acc s h
  obtain⟨rr,et⟩:=thT_0 t
  simp only[List.map,compT]
  generalize compT (gN 0) tTrue (w2 rIxTT (wVar 0) (wC (.int 0))) (r.map thT)=F at ih ⊢
  rw[et]
  walk_at "go"
  rw[atI0]
  refine ih _ _ ?_
  simpa using h
theorem idx_comp{Q:List T->Prop}{Z:List Str}(hz:Z.length<=1000):∀(us:List Str)(acc:List T)(s:Slot),(∀u∈us,u∈Z)->Q (acc++(us.map fun u=>((Z.idxOf u:Nat):Int)).map T.int)->compT (gN 0) tTrue (wIdx (wVar 1) (aCons (wVar 0) aNil)) (us.map T.str) acc [s,.val (.lst (Z.map T.str))] Q
 | [],acc,s,_,h=>by
  simp only[List.map_nil,List.append_nil]at h
  exact h
 | u::r,acc,s,hu,h=>by
  have ih:=fun (acc:List T) (s:Slot) h=>idx_comp (Q:=Q) hz r acc s (fun u m=>hu u (List.mem_cons_of_mem _ m)) h
  simp only[List.map,compT]
  generalize compT (gN 0) tTrue (wIdx (wVar 1) (aCons (wVar 0) aNil)) (r.map T.str)=F at ih ⊢
  walk_at "tw"
  rw[strsOf_map]
  dsimp only
  refine⟨fun _=>⟨hu u List.mem_cons_self,hz,?_⟩,fun z=>by cases z⟩
  refine ih _ _ ?_
  simpa using h
theorem inF_comp{Q:List T->Prop}{c:List Int}:∀(l:List Int)(acc:List T)(s:Slot),Q (acc++(l.filter fun n=>c.contains n).map T.int)->compT (gN 0) (tCmpT cInT (wVar 0) (wVar 1)) (wVar 0) (l.map T.int) acc [s,.val (intsT c)] Q
 | [],acc,s,h=>by
  simp only[List.filter_nil,List.map_nil,List.append_nil]at h
  exact h
 | n::r,acc,s,h=>by
  have ih:=fun (acc:List T) (s:Slot) h=>inF_comp (Q:=Q) (c:=c) r acc s h
  simp only[List.map,compT]
  generalize compT (gN 0) (tCmpT cInT (wVar 0) (wVar 1)) (wVar 0) (r.map T.int)=F at ih ⊢
  walk_at "tw"
  rw[intsOf_map]
  dsimp only
  rw[List.filter_cons]at h
  refine⟨fun e=>?_,fun e=>?_⟩
  ·rw[e]at h
   exact ih _ _ (by simpa using h)
  ·rw[e]at h
   exact ih _ _ (by simpa using h)
theorem any_is{α:Type}(p:α->Bool)(l:List α):(!(l.filter p).isEmpty)=l.any p:=by
 induction l with
 | nil=>rfl
 | cons a r ih =>
  rw[List.filter_cons,List.any_cons]
  cases e:p a with
  | true=>rfl
  | false=>simpa using ih
theorem isE_map{α β:Type}(f:α->β)(l:List α):(l.map f).isEmpty=l.isEmpty:=by cases l<;>rfl
def Z1z:SpT:=fun ts Q=>∃(sun:List (Int×Tr)) (ws ds:List Th) (k:Int) (c:List Int),ts=[dicT (rdsP sun ws ds),.int k,intsT c]/\(sun.map (·.1)).Nodup/\ds.length<=10/\k∈sun.map (·.1)/\Q (.bl (anyD sun ws ds c k))
theorem Z7t:∀ts Q,Z1z ts Q->ts.length=3:=by rintro ts Q ⟨_,_,_,_,_,e,_⟩;subst e;rfl
def Z6B:WS :=
 (sRet (wCmp cNeE (wComp (iSeq (w2 rIxDT (wVar 0) (wVar 1))) (gN 0) (tCmpT cInT (wVar 0) (wVar 1)) (wVar 0) 1 [2]) (wLst aNil)))
theorem Z7F:∀ts Q,Z1z ts Q->Z6B {nx:=fun _=>Q .non,rt:=Q} (startT 3 ts):=by
 rintro _ Q ⟨sun,ws,ds,k,c,rfl,nd,l10,hk,q⟩
 have lr:(rdF sun ws ds k).length<=1000:=Nat.le_trans (rdL_len (p:=rdB sun (ws++ds) k) ds 0) (by omega)
 unfold Z6B
 obtain⟨T0,hT0⟩:∃W,W=tCmpT cInT (wVar 0) (wVar 1):=⟨_,rfl⟩
 obtain⟨RD,hRD⟩:∃W,W=rIxDT:=⟨_,rfl⟩
 rw[← hT0,← hRD]
 have rx:∀{Q:T->Prop},Q (intsT (rdF sun ws ds k))->RD (dicT (rdsP sun ws ds)) (.int k) Q:=fun q=>by rw[hRD];exact rIx_dic nd hk q
 clear hRD
 walk_at "go"
 refine rx ?_
 refine⟨by rw[List.length_map];exact lr,?_⟩
 rw[hT0]
 refine inF_comp _ [] _ ?_
 rw[List.nil_append]
 walk_at "tw"
 rw[isE_map,any_is]
 exact q
theorem before_find{p:Int->Bool}:∀{l:List Int}{h:Int},l.find? p=some h->∀x∈l.take (l.idxOf h),p x=false
 | [],h,e,x,m=>by cases e
 | a::r,h,e,x,m=>by
  rw[List.find?_cons]at e
  rw[List.idxOf_cons]at m
  cases pa:p a with
  | true =>
   rw[pa]at e
   cases e
   simp at m
  | false =>
   rw[pa]at e
   by_cases q:a=h
   ·subst q
    simp at m
   ·rw[beq_eq_false_iff_ne.mpr q]at m
    simp only[cond_false,List.take_succ_cons]at m
    rcases List.mem_cons.mp m with rfl|m
    ·exact pa
    ·exact before_find e x m
def Z1j:SpT:=fun ts Q=>∃(sun:List (Int×Tr)) (ws ds:List Th) (hs c:List Int) (h:Int),ts=[dicT (rdsP sun ws ds),intsT hs,intsT c,.int h]/\(sun.map (·.1)).Nodup/\ds.length<=10/\hs.length<=100/\(∀k∈hs,k∈sun.map (·.1))/\(hs.find? fun k=>!anyD sun ws ds c k)=some h/\Q (.bl true)
theorem Z6C:∀ts Q,Z1j ts Q->ts.length=4:=by rintro ts Q ⟨_,_,_,_,_,_,e,_⟩;subst e;rfl
def Z57:WS :=
 (sSeq (sIf (tOrT (tCmpT cNotInT (wVar 3) (wVar 1)) (tVal (wCall Z1z (aCons (wVar 0) (aCons (wVar 3) (aCons (wVar 2) aNil)))))) (sRet (wC (.bl false))) sNext)
  (sRet (wCmp cEqT (wComp (iSeq (wSl (wVar 1) wo0 (wo (wIdx (wVar 1) (aCons (wVar 3) aNil))))) (gN 0) (tNotT (tVal (wCall Z1z (aCons (wVar 1) (aCons (wVar 0) (aCons (wVar 2) aNil)))))) (wVar 0) 1 [0,2]) (wLst aNil))))
abbrev tNa:WT:=tNotT (tVal (wCall Z1z (aCons (wVar 1) (aCons (wVar 0) (aCons (wVar 2) aNil)))))
theorem na_comp{Q:List T->Prop}{sun:List (Int×Tr)}{ws ds:List Th}{c:List Int}(nd:(sun.map (·.1)).Nodup)(l10:ds.length<=10):∀(L:List Int)(acc:List T)(s:Slot),(∀k∈L,k∈sun.map (·.1))->Q (acc++(L.filter fun k=>!anyD sun ws ds c k).map T.int) →
  compT (gN 0) tNa (wVar 0) (L.map T.int) acc [s,.val (dicT (rdsP sun ws ds)),.val (intsT c)] Q
 | [],acc,s,_,q=>by
  simp only[List.filter_nil,List.map_nil,List.append_nil]at q
  exact q
 | k::r,acc,s,hL,q=>by
  have ih:=fun (acc:List T) (s:Slot) h=>na_comp (Q:=Q) (ws:=ws) (c:=c) nd l10 r acc s (fun t m=>hL t (List.mem_cons_of_mem _ m)) h
  simp only[List.map,compT]
  generalize compT (gN 0) tNa (wVar 0) (r.map T.int)=F at ih ⊢
  rw[List.filter_cons]at q
  unfold tNa
  walk_at "go"
  refine⟨sun,ws,ds,k,c,rfl,nd,l10,hL k List.mem_cons_self,?_⟩
  walk_at "tw"
  cases e:anyD sun ws ds c k with
  | true =>
   rw[e]at q
   exact⟨(fun z=>by cases z),fun _=>ih _ _ (by simpa using q)⟩
  | false =>
   rw[e]at q
   exact⟨fun _=>ih _ _ (by simpa using q),fun z=>by cases z⟩
theorem cut_take(l:List Int)(k:Nat):cutT (l.map T.int) none (some (k:Int))=(l.take k).map T.int:=by
 unfold cutT
 rw[HT.sIx_nat,show HT.sIx (l.map T.int).length 0 none=0 from rfl,List.drop_zero,Nat.sub_zero,List.length_map,← List.map_take]
 rw[Nat.min_def]
 split
 ·rfl
 ·rw[List.take_of_length_le (Nat.le_refl _),List.take_of_length_le (by omega)]
theorem Z75:∀ts Q,Z1j ts Q->Z57 {nx:=fun _=>Q .non,rt:=Q} (startT 4 ts):=by
 rintro _ Q ⟨sun,ws,ds,hs,c,h,rfl,nd,l10,hl,hk,hf,q⟩
 have mh:h∈hs:=List.mem_of_find?_eq_some hf
 have nh:anyD sun ws ds c h=false:=by have:=List.find?_some hf;simpa using this
 have bf:=before_find hf
 unfold Z57
 rw[show tNotT (tVal (wCall Z1z (aCons (wVar 1) (aCons (wVar 0) (aCons (wVar 2) aNil)))))=tNa from rfl]
 obtain⟨T0,hT0⟩:∃W,W=tNa:=⟨_,rfl⟩
 obtain⟨SA,hSA⟩:∃S,S=Z1z:=⟨_,rfl⟩
 rw[← hT0,← hSA]
 have sa:∀{Q:T->Prop},Q (.bl false)->SA [dicT (rdsP sun ws ds),.int h,intsT c] Q:=fun q=>by rw[hSA];exact⟨sun,ws,ds,h,c,rfl,nd,l10,hk h mh,by rw[nh];exact q⟩
 walk_at "go"
 rw[intsOf_map]
 dsimp only
 rw[show (!hs.contains h)=false by simpa using mh]
 refine⟨(fun z=>by cases z),fun _=>sa ?_⟩
 walk_at "tw"
 refine⟨(fun z=>by cases z),fun _=>?_⟩
 try walk_at "tw"
 rw[intsOf_map]
 dsimp only
 refine⟨mh,by omega,?_⟩
 rw[cut_take,hT0]
 refine⟨by rw[List.length_map,List.length_take];omega,?_⟩
 refine na_comp nd l10 _ [] _ (fun k mk=>hk k (List.mem_of_mem_take mk)) ?_
 rw[List.filter_eq_nil_iff.mpr fun k mk=>by rw[bf k mk];decide]
 refine⟨eqOk_nil [],?_⟩
 rw[show (T.lst ([]++List.map T.int []))=T.lst (([]:List Int).map T.int) from rfl,eqT_nil []]
 exact q
def rsB(m:Int):Int->List Int->Bool
 | _,[]=>true
 | l,n::r=>decide (l < n)&&decide (n < m)&&rsB m n r
theorem ris_rs:∀m s:Fin 11,((ris (m:Nat) s).all fun l=>rsB (m:Nat) (-1) l)=true:=by decide +kernel
def Z0U:SpT:=fun ts Q=>∃(c:List Int) (m:Int),ts=[intsT c,.int m]/\rsB m (-1) c=true/\Q (.bl true)
theorem Z6i:∀ts Q,Z0U ts Q->ts.length=2:=by rintro ts Q ⟨_,_,e,_⟩;subst e;rfl
def Z19:WS :=
 (sSeq (sIf (tOrT (tCmpT cLeT (wVar 3) (wVar 2)) (tCmpT cGeT (wVar 3) (wVar 1))) (sRet (wC (.bl false))) sNext)
  (sSet 2 (wVar 3)))
def Z3O:WS :=
 (sSeq (sSet 2 (wNeg (wC (.int 1))))
  (sSeq (sFor (iSeq (wVar 0)) (gN 3) Z19)
  (sRet (wC (.bl true)))))
theorem rs_loop{Q:T->Prop}{N:List Slot->Prop}{m:Int}{s0:Slot}(hN:∀s2 s3,N [s0,.val (.int m),s2,s3]):∀(c:List Int)(l:Int)(s3:Slot),rsB m l c=true->forT (gN 3) Z19 (c.map T.int) {nx:=N,rt:=Q} [s0,.val (.int m),.val (.int l),s3]
 | [],l,s3,_=>by
  simp only[List.map,forT]
  exact hN _ _
 | n::r,l,s3,h=>by
  simp only[rsB,Bool.and_eq_true,decide_eq_true_eq]at h
  have ih:=fun s3=>rs_loop (Q:=Q) hN r n s3 h.2
  simp only[List.map,forT]
  generalize forT (gN 3) Z19 (r.map T.int) {nx:=N,rt:=Q}=F at ih ⊢
  unfold Z19
  walk_at "tw"
  have e1:decide (n<=l)=false:=decide_eq_false (by omega)
  have e2:decide (n ≥ m)=false:=decide_eq_false (by omega)
  rw[e1,e2]
  exact⟨(fun z=>by cases z),fun _=>⟨(fun z=>by cases z),fun _=>ih _⟩⟩
theorem Z6D:∀ts Q,Z0U ts Q->Z3O {nx:=fun _=>Q .non,rt:=Q} (startT 4 ts):=by
 rintro _ Q ⟨c,m,rfl,hc,h⟩
 unfold Z3O
 obtain⟨W0,hW0⟩:∃W,W=Z19:=⟨_,rfl⟩
 rw[← hW0]
 walk_at "tw"
 rw[hW0]
 refine rs_loop (fun s2 s3=>?_) c (-1) _ hc
 walk_at "go"
 exact h
def cntF(m:Nat):Nat->Int
 | 0=>1
 | s + 1=>(cntF m s * ((m:Int) - s)).fdiv ((s:Int) + 1)
theorem cnt_is:∀m s:Fin 11,cntF m s=((ris (m:Nat) s).length:Int):=by decide +kernel
def Z27:SpT:=fun ts Q=>∃m s:Nat,ts=[.int m,.int s]/\m<=10/\s<=10/\Q (.int ((ris m s).length:Nat))
theorem Z6E:∀ts Q,Z27 ts Q->ts.length=2:=by rintro ts Q ⟨_,_,e,_⟩;subst e;rfl
def Z1q:WS :=
 (sSet 2 (w2 rDivT (w2 rMulT (wVar 2) (w2 rSubT (wVar 0) (wVar 3))) (w2 rAddT (wVar 3) (wC (.int 1)))))
def Z4b:WS :=
 (sSeq (sSet 2 (wC (.int 1)))
  (sSeq (sFor (iRange1 (aCons (wVar 1) aNil)) (gN 3) Z1q)
  (sRet (wVar 2))))
theorem cnt_loop{D:DT}{m:Nat}{s1:Slot}(hm:m<=10):∀(n s:Nat)(s3:Slot),s + n<=10->(∀s3,D.nx [.val (.int m),s1,.val (.int (cntF m (s + n))),s3])->forT (gN 3) Z1q (rangeT s n) D [.val (.int m),s1,.val (.int (cntF m s)),s3]
 | 0,s,s3,_,h=>by
  simp only[rangeT,forT]
  exact h _
 | n + 1,s,s3,hs,h=>by
  have ih:=fun s3=>cnt_loop (D:=D) (s1:=s1) hm n (s + 1) s3 (by omega) (by rw[show s + 1 + n=s + (n + 1) by omega];exact h)
  have e2:((s + 1:Nat):Int)=(s:Int) + 1:=by omega
  rw[e2]at ih
  simp only[rangeT,forT]
  generalize forT (gN 3) Z1q (rangeT ((s:Int) + 1) n) D=F at ih ⊢
  unfold Z1q
  have m1:MulOk (cntF m s) ((m:Int) - s):=mulOkR (small19 (by omega) (by omega))
  have d1:DivOk ((s:Int) + 1):=divOk (n:=4) (by omega) (Lim.of (by omega) (by omega)) (by decide)
  walk_at "tw"
  exact⟨m1,d1,ih _⟩
theorem Z76:∀ts Q,Z27 ts Q->Z4b {nx:=fun _=>Q .non,rt:=Q} (startT 4 ts):=by
 rintro _ Q ⟨m,s,rfl,hm,hs,h⟩
 unfold Z4b
 obtain⟨W0,hW0⟩:∃W,W=Z1q:=⟨_,rfl⟩
 rw[← hW0]
 walk_at "tw"
 rw[hW0]
 refine⟨⟨by omega,by omega⟩,?_⟩
 rw[Int.toNat_natCast]
 refine cnt_loop hm s 0 _ (by omega) fun s3=>?_
 walk_at "go"
 have:=cnt_is ⟨m,by omega⟩ ⟨s,by omega⟩
 simp only at this
 rw[Nat.zero_add,this]
 exact h
def adjB:List (List Int)->Bool
 | a::b::r=>ltI a b&&adjB (b::r)
 | _=>true
theorem ris_adj:∀m s:Fin 11,adjB (ris (m:Nat) s)=true:=by decide +kernel
theorem adj_asc:∀{l:List (List Int)},adjB l=true->l.Pairwise (fun a b=>ltI a b=true)
 | [],_=>List.Pairwise.nil
 | [a],_=>List.pairwise_singleton _ _
 | a::b::r,h=>by
  simp only[adjB,Bool.and_eq_true]at h
  have ih:=adj_asc h.2
  refine List.Pairwise.cons (fun x mx=>?_) ih
  rcases List.mem_cons.mp mx with rfl|mx
  ·exact h.1
  ·exact ltI_trans _ _ _ h.1 ((List.pairwise_cons.mp ih).1 x mx)
theorem ris_asc(m s:Fin 11):(ris (m:Nat) s).Pairwise (fun a b=>ltI a b=true):=adj_asc (ris_adj m s)
theorem asc_nodup{l:List (List Int)}(h:l.Pairwise (fun a b=>ltI a b=true)):l.Nodup:=h.imp fun {a b} q e=>by subst e;rw[ltI_irr]at q;cases q
theorem asc_same:∀{us vs:List (List Int)},us.Perm vs->us.Pairwise (fun a b=>ltI a b=true)->vs.Pairwise (fun a b=>ltI a b=true)->us=vs
 | [],vs,h,_,_=>(List.Perm.nil_eq h)
 | a::r,[],h,_,_=>by have:=h.length_eq;simp at this
 | a :: r,b::t,h,hu,hv=>by
  have e:a=b:=by
   have ma:a∈b::t:=h.mem_iff.mp List.mem_cons_self
   have mb:b∈a::r:=h.mem_iff.mpr List.mem_cons_self
   rcases List.mem_cons.mp ma with q|q
   ·exact q
   ·rcases List.mem_cons.mp mb with p|p
    ·exact p.symm
    ·have x:=(List.pairwise_cons.mp hv).1 a q
     have y:=(List.pairwise_cons.mp hu).1 b p
     rw[ltI_asym x]at y
     cases y
  subst e
  rw[asc_same ((List.perm_cons a).mp h) (List.pairwise_cons.mp hu).2 (List.pairwise_cons.mp hv).2]
abbrev tDn:WT:=tCmpT cNeT (w2 rIxDT (wVar 1) (wVar 0)) (wLst aNil)
theorem dn_comp{Q:List T->Prop}{sun:List (Int×Tr)}{ws ds:List Th}(Y:YF sun ws ds):∀(L:List Int)(acc:List T)(s:Slot),(∀k∈L,k∈sun.map (·.1))->Q (acc++(L.filter fun k=>decide (rdF sun ws ds k≠[])).map T.int)->compT (gN 0) tDn (wVar 0) (L.map T.int) acc [s,.val (dicT (rdsP sun ws ds))] Q
 | [],acc,s,_,h=>by
  simp only[List.filter_nil,List.map_nil,List.append_nil]at h
  exact h
 | k::r,acc,s,hk,h=>by
  have ih:=fun (acc:List T) (s:Slot) h=>dn_comp (Q:=Q) Y r acc s (fun k m=>hk k (List.mem_cons_of_mem _ m)) h
  simp only[List.map,compT]
  generalize compT (gN 0) tDn (wVar 0) (r.map T.int)=F at ih ⊢
  unfold tDn
  obtain⟨RD,hRD⟩:∃W,W=rIxDT:=⟨_,rfl⟩
  rw[← hRD]
  have rx:∀{Q:T->Prop},Q (intsT (rdF sun ws ds k))->RD (dicT (rdsP sun ws ds)) (.int k) Q:=fun q=>by rw[hRD];exact rIx_dic Y.sd (hk k List.mem_cons_self) q
  clear hRD
  rw[List.filter_cons]at h
  walk_at "go"
  refine rx ?_
  walk_at "go"
  refine⟨eqOk_nil _,?_⟩
  rw[eqT_nil]
  by_cases e:rdF sun ws ds k=[]
  ·rw[decide_eq_false (fun z=>z e)]at h
   rw[decide_eq_true e]
   exact⟨(fun z=>by cases z),fun _=>ih _ _ (by simpa using h)⟩
  ·rw[decide_eq_true e]at h
   rw[decide_eq_false e]
   exact⟨fun _=>ih _ _ (by simpa using h),fun z=>by cases z⟩
def Z2H:SpT:=fun ts Q=>∃ns:List Int,ts=[.lst (ns.map T.int)]/\∀sun ws ds (hs:List Int),YF sun ws ds->hs.length<=10->(∀h∈hs,h∈sun.map (·.1))->Q (.tup [yardT sun ws ds,intsT hs])
theorem Z6F:∀ts Q,Z2H ts Q->ts.length=1:=by rintro ts Q ⟨_,e,_⟩;subst e;rfl
def Z1r:WE :=
 (wTup (aCons (w2 rAddT (w2 rMulT (wC (.int 2)) (wVar 0)) (wC (.int 1))) (aCons (wTup (aCons (wVar 0) (aCons (wC (.int 0)) (aCons (wC (.int 1)) aNil)))) aNil)))
def Z0B:WS :=
 (sSeq (sSetP 10 (pPop 3 (w2 rModT (wVar 1) (wOLen 3))))
  (sSeq (sSet 1 (w2 rDivT (wVar 1) (wC (.int 10))))
  (sSeq (sSet 11 (wTup (aCons (wTup (aCons (wNeg (wC (.int 1))) (aCons (w2 rMulT (wC (.int 100)) (wVar 5)) (aCons (wC (.int 0)) aNil)))) (aCons (wTup (aCons (wC (.int 2)) (aCons (wC (.int 0)) (aCons (wC (.int 0)) aNil)))) (aCons (wTup (aCons (wC (.int 0)) (aCons (wC (.int 4)) (aCons (wC (.int 0)) aNil)))) aNil)))))
  (sApp 4 (wTup (aCons (wCall Z1e (aCons (wVar 0) (aCons (w2 rAddT (wC (.int 20)) (wVar 5)) aNil))) (aCons (wVar 11) (aCons (wTup (aCons (w2 rMulT (wC (.int 4)) (wVar 10)) (aCons (w2 rAddT (w2 rMulT (wC (.int 100)) (wVar 5)) (wC (.int 2))) (aCons (wC (.int 4)) aNil)))) aNil))))))))
def Z0N:WS :=
 (sSeq (sAppP 9 (pPop 7 (w2 rModT (wVar 1) (wOLen 7))))
  (sSet 1 (w2 rDivT (wVar 1) (wC (.int 10)))))
def Z58:WS :=
 (sSeq (sSet 1 (w2 rDivT (wCall Z06 (aCons (wVar 0) (aCons (wC (.int 58)) aNil))) (wC (.int 8))))
  (sSeq (sSet 2 (w2 rAddT (wC (.int 8)) (w2 rModT (wVar 1) (wC (.int 3)))))
  (sSeq (sSet 1 (w2 rDivT (wVar 1) (wC (.int 3))))
  (sSeq (sOwnW 3 (wLRng (aCons (wVar 2) aNil)))
  (sSeq (sOwn 4 aNil)
  (sSeq (sFor (iRange1 (aCons (wVar 2) aNil)) (gN 5) Z0B)
  (sSeq (sSet 6 (wComp (iRange1 (aCons (wVar 2) aNil)) (gN 0) tTrue Z1r 1 []))
  (sSeq (sOwnC 7 (wComp (iSeq (wVar 6)) (gN 0) tTrue (w2 rIxTT (wVar 0) (wC (.int 0))) 1 []))
  (sSeq (sSet 8 (w2 rSubT (wVar 2) (w2 rModT (wVar 1) (w2 rSubT (wVar 2) (wC (.int 7))))))
  (sSeq (sSet 1 (w2 rDivT (wVar 1) (wC (.int 3))))
  (sSeq (sOwn 9 aNil)
  (sSeq (sFor (iRange1 (aCons (wVar 8) aNil)) (gN 5) Z0N)
  (sFrz 4 (sFrz 9 (sRet (wTup (aCons (wTup (aCons (wVar 6) (aCons (wLst aNil) (aCons (wVar 4) aNil)))) (aCons (wVar 9) aNil))))))))))))))))))
theorem rw_b0{D:DT}{ns lf:List Int}{n:Int}{xs:List (Pl×Tr×Tr)}{s2 s6 s7 s8 s9 s10 s11:Slot}(hl:0 < lf.length)(hl2:lf.length<=100)(hx:∀x∈lf,0<=x/\x<=20)(hk:xs.length < 10)(hd:DxF xs)
  (h:∀(lf':List Int)(n':Int)(x:Pl×Tr×Tr) s10 s11,lf'.length + 1=lf.length->(∀x∈lf',0<=x/\x<=20)->DxF (xs++[x])->D.nx [.val (.lst (ns.map T.int)),.val (.int n'),s2,.own (lf'.map T.int),.own ((dTh (wideF ns 60) 20 (xs++[x])).map thT),.val (.int xs.length),s6,s7,s8,s9,s10,s11]) :
  Z0B D [.val (.lst (ns.map T.int)),.val (.int n),s2,.own (lf.map T.int),.own ((dTh (wideF ns 60) 20 xs).map thT),.val (.int xs.length),s6,s7,s8,s9,s10,s11]:=by
 have d10:DivOk 10:=dv (by decide)
 have lm:(lf.map T.int).length=lf.length:=List.length_map _
 have f:=fmod_pos n (b:=((lf.map T.int).length:Int)) (by omega)
 have lz:((lf.map T.int).length:Int)≠0:=by omega
 have hi:(n.fmod ((lf.map T.int).length:Int)).toNat < lf.length:=by omega
 have hu:=hx _ (List.getElem_mem hi)
 have m1:MulOk 100 (xs.length:Int):=mulOkL (small19 (by decide) (by decide))
 have hL:((dTh (wideF ns 60) 20 xs).map thT).length < 1000:=by rw[List.length_map,dTh_len];omega
 unfold Z0B
 walk_at "tw"
 refine⟨lz,(n.fmod ((lf.map T.int).length:Int)).toNat,.int lf[(n.fmod ((lf.map T.int).length:Int)).toNat],by omega,by omega,?_,?_⟩
 ·rw[List.getElem?_map,List.getElem?_eq_getElem hi]
  rfl
 ·generalize (n.fmod ((lf.map T.int).length:Int)).toNat=i at hi hu ⊢
  generalize lf[i]=u at hu ⊢
  have m2:MulOk 4 u:=mulOkL (small19 (by decide) (by decide))
  try walk_at "tw"
  refine⟨d10,m1,ns,20 + xs.length,rfl,by omega,by omega,m2,m1,hL,?_⟩
  rw[show (lf.map T.int).eraseIdx i=(lf.eraseIdx i).map T.int from erase_map lf i]
  have h2:=h (lf.eraseIdx i) (n.fdiv 10) (((-1,100 * (xs.length:Int),0),(2,0,0),(0,4,0)),(4 * u,100 * (xs.length:Int) + 2,4),(0,0,0)) (.val (.int u)) (.val (plT ((-1,100 * (xs.length:Int),0),(2,0,0),(0,4,0)))) (by rw[List.length_eraseIdx,if_pos hi];omega) (fun x hx'=>hx x (List.mem_of_mem_eraseIdx hx')) (fun x mx=>by
   rcases List.mem_append.mp mx with mx|mx
   ·exact hd x mx
   ·rw[List.mem_singleton.mp mx]
    have a0:Lim 12 (-1:Int):=l7 (by decide) (by decide)
    have a1:Lim 12 (100 * (xs.length:Int)):=l7 (by omega) (by omega)
    have a3:Lim 12 (4 * u):=l7 (by omega) (by omega)
    have a4:Lim 12 (100 * (xs.length:Int) + 2):=l7 (by omega) (by omega)
    have z0:Lim 12 (0:Int):=l7 (by decide) (by decide)
    have z2:Lim 12 (2:Int):=l7 (by decide) (by decide)
    have z4:Lim 12 (4:Int):=l7 (by decide) (by decide)
    refine⟨⟨⟨a0,a1,z0⟩,⟨z2,z0,z0⟩,⟨z0,z4,z0⟩⟩,⟨a3,a4,z4⟩,?_,?_⟩
    ·show -100000 < 4 * u/\4 * u < 100000
     omega
    ·show -100000 < 100 * (xs.length:Int) + 2/\100 * (xs.length:Int) + 2 < 100000
     omega)
  rw[dTh_snoc,List.map_append]at h2
  exact h2
theorem rw_l0{D:DT}{ns:List Int}{s2 s6 s7 s8 s9:Slot}:∀(m:Nat)(xs:List (Pl×Tr×Tr))(lf:List Int)(n:Int)(s5 s10 s11:Slot),xs.length + m<=10->lf.length<=100->m<=lf.length->(∀x∈lf,0<=x/\x<=20)->DxF xs →
  (∀(xs':List (Pl×Tr×Tr)) n' s3 s5 s10 s11,xs'.length<=10->DxF xs'->D.nx [.val (.lst (ns.map T.int)),.val (.int n'),s2,s3,.own ((dTh (wideF ns 60) 20 xs').map thT),s5,s6,s7,s8,s9,s10,s11]) →
  forT (gN 5) Z0B (rangeT xs.length m) D [.val (.lst (ns.map T.int)),.val (.int n),s2,.own (lf.map T.int),.own ((dTh (wideF ns 60) 20 xs).map thT),s5,s6,s7,s8,s9,s10,s11]
 | 0,xs,lf,n,s5,s10,s11,hx,_,_,_,hd,h=>by
  simp only[rangeT,forT]
  exact h xs _ _ _ _ _ (by omega) hd
 | m + 1,xs,lf,n,s5,s10,s11,hx,hl,hm,hf,hd,h=>by
  have ih:=fun (lf':List Int) (n':Int) (x:Pl×Tr×Tr) (h1:lf'.length + 1=lf.length) (h2:∀x∈lf',0<=x/\x<=20) (h3:DxF (xs++[x])) (s5 s10 s11:Slot)=>rw_l0 (D:=D) (ns:=ns) (s2:=s2) (s6:=s6) (s7:=s7) (s8:=s8) (s9:=s9) m (xs++[x]) lf' n' s5 s10 s11 (by simp;omega) (by omega) (by omega) h2 h3 h
  simp only[rangeT,forT]
  rw[show ((xs.length:Int) + 1)=((xs.length + 1:Nat):Int) by simp]
  have el:∀x:Pl×Tr×Tr,(xs++[x]).length=xs.length + 1:=fun x=>by simp
  simp only[el]at ih
  generalize forT (gN 5) Z0B (rangeT ((xs.length + 1:Nat):Int) m) D=F at ih ⊢
  exact rw_b0 (D:={D with nx:=F,ct:=F,bk:=D.nx}) (by omega) hl hf (by omega) hd fun lf' n' x s10 s11 h1 h2 h3=>ih lf' n' x h1 h2 h3 _ _ _
theorem rw_l1{D:DT}{H:List Int}{s0 s2 s3 s4 s6 s8 s10 s11:Slot}:∀(m:Nat)(k:Int)(sm hs:List Int)(n:Int)(s5:Slot),sm.length<=100->m<=sm.length->hs.length + m<=10->(∀x∈sm,x∈H)->(∀x∈hs,x∈H) →
  (∀(hs':List Int) n' s5 s7,hs'.length<=10->(∀x∈hs',x∈H)->D.nx [s0,.val (.int n'),s2,s3,s4,s5,s6,s7,s8,.own (hs'.map T.int),s10,s11]) →
  forT (gN 5) Z0N (rangeT k m) D [s0,.val (.int n),s2,s3,s4,s5,s6,.own (sm.map T.int),s8,.own (hs.map T.int),s10,s11]
 | 0,k,sm,hs,n,s5,_,_,hl,_,hh,h=>by
  simp only[rangeT,forT]
  exact h hs _ _ _ (by omega) hh
 | m + 1,k,sm,hs,n,s5,hl,hm,hb,hf,hh,h=>by
  have ih:=fun (sm' hs':List Int) (n':Int) (s5:Slot) (h1:sm'.length + 1=sm.length) (h2:∀x∈sm',x∈H) (h3:hs'.length=hs.length + 1) (h4:∀x∈hs',x∈H)=>rw_l1 (D:=D) (H:=H) (s0:=s0) (s2:=s2) (s3:=s3) (s4:=s4) (s6:=s6) (s8:=s8) (s10:=s10) (s11:=s11) m (k + 1) sm' hs' n' s5 (by omega) (by omega) (by omega) h2 h4 h
  simp only[rangeT,forT]
  generalize forT (gN 5) Z0N (rangeT (k + 1) m) D=F at ih ⊢
  have d10:DivOk 10:=dv (by decide)
  have lm:(sm.map T.int).length=sm.length:=List.length_map _
  have f:=fmod_pos n (b:=((sm.map T.int).length:Int)) (by omega)
  have lz:((sm.map T.int).length:Int)≠0:=by omega
  have hi:(n.fmod ((sm.map T.int).length:Int)).toNat < sm.length:=by omega
  have hu:=hf _ (List.getElem_mem hi)
  have hL:(hs.map T.int).length < 1000:=by rw[List.length_map];omega
  unfold Z0N
  walk_at "tw"
  refine⟨lz,(n.fmod ((sm.map T.int).length:Int)).toNat,.int sm[(n.fmod ((sm.map T.int).length:Int)).toNat],by omega,by omega,?_,?_⟩
  ·rw[List.getElem?_map,List.getElem?_eq_getElem hi]
   rfl
  ·generalize (n.fmod ((sm.map T.int).length:Int)).toNat=i at hi hu ⊢
   generalize sm[i]=u at hu ⊢
   try walk_at "tw"
   refine⟨hL,d10,?_⟩
   rw[show (sm.map T.int).eraseIdx i=(sm.eraseIdx i).map T.int from erase_map sm i]
   have:=ih (sm.eraseIdx i) (hs++[u]) (n.fdiv 10) (.val (.int k)) (by rw[List.length_eraseIdx,if_pos hi];omega) (fun x hx=>hf x (List.mem_of_mem_eraseIdx hx)) (by simp) (fun x hx=>by
    rcases List.mem_append.mp hx with hx|hx
    ·exact hh x hx
    ·rw[List.mem_singleton.mp hx]
     exact hu)
   rw[List.map_append]at this
   exact this
def sunR(lo:Int):Nat->List (Int×Tr)
 | 0=>[]
 | n + 1=>(2 * lo + 1,(lo,0,1))::sunR (lo + 1) n
theorem sunR_len:∀(n:Nat)(lo:Int),(sunR lo n).length=n
 | 0,_=>rfl
 | n + 1,lo=>by simp[sunR,sunR_len n]
theorem sunR_mem:∀{n:Nat}{lo:Int}{e:Int×Tr},e∈sunR lo n->∃j,lo<=j/\j < lo + n/\e=(2 * j + 1,(j,0,1))
 | 0,lo,e,h=>by cases h
 | n + 1,lo,e,h=>by
  simp only[sunR]at h
  rcases List.mem_cons.mp h with rfl|h
  ·exact⟨lo,by omega,by omega,rfl⟩
  ·obtain⟨j,h1,h2,h3⟩:=sunR_mem h
   exact⟨j,by omega,by omega,h3⟩
theorem sunR_nd:∀(n:Nat)(lo:Int),((sunR lo n).map (·.1)).Nodup
 | 0,lo=>by simp[sunR]
 | n + 1,lo=>by
  simp only[sunR,List.map_cons,List.nodup_cons]
  refine⟨fun m=>?_,sunR_nd n (lo + 1)⟩
  obtain⟨e,me,ee⟩:=List.mem_map.mp m
  obtain⟨j,h1,h2,rfl⟩:=sunR_mem me
  have:2 * j + 1=2 * lo + 1:=ee
  omega
theorem sun_comp{Q:List T->Prop}:∀(n:Nat)(lo:Int)(acc:List T)(s:Slot),0<=lo->lo + n<=100->Q (acc++(sunR lo n).map sT)->compT (gN 0) tTrue Z1r (rangeT lo n) acc [s] Q
 | 0,lo,acc,s,_,_,h=>by
  simp only[sunR,List.map_nil,List.append_nil]at h
  exact h
 | n + 1,lo,acc,s,h0,h1,h=>by
  have ih:=fun (acc:List T) (s:Slot) h=>sun_comp (Q:=Q) n (lo + 1) acc s (by omega) (by omega) h
  have m1:MulOk 2 lo:=mulOkL (small19 (by decide) (by decide))
  simp only[rangeT,compT]
  generalize compT (gN 0) tTrue Z1r (rangeT (lo + 1) n)=F at ih ⊢
  unfold Z1r
  walk_at "go"
  refine ih _ _ ?_
  simpa [sunR] using h
theorem Z77:∀ts Q,Z2H ts Q->Z58 {nx:=fun _=>Q .non,rt:=Q} (startT 12 ts):=by
 rintro _ Q ⟨ns,rfl,h⟩
 unfold Z58
 obtain⟨W0,hW0⟩:∃W,W=Z0B:=⟨_,rfl⟩
 obtain⟨W1,hW1⟩:∃W,W=Z0N:=⟨_,rfl⟩
 obtain⟨C0,hC0⟩:∃W,W=Z1r:=⟨_,rfl⟩
 obtain⟨C1,hC1⟩:∃W,W=w2 rIxTT (wVar 0) (wC (.int 0)):=⟨_,rfl⟩
 rw[← hW0,← hW1,← hC0,← hC1]
 have d8:DivOk 8:=dv (by decide)
 have d3:DivOk 3:=dv (by decide)
 walk_at "go"
 refine⟨ns,58,rfl,by decide,by decide,?_⟩
 walk_at "tw"
 generalize (wideF ns 58).fdiv 8=N
 have f1:=fmod_pos N (b:=3) (by decide)
 generalize N.fmod 3=mn at f1 ⊢
 refine⟨d8,by decide,d3,by omega,by omega,⟨by omega,by omega⟩,?_⟩
 have rl:∀(n:Nat)(lo:Int),(rngI lo n).length=n:=fun n=>by
  induction n with
  | zero=>intro lo;rfl
  | succ n ih=>intro lo;simp[rngI,ih]
 have rm:∀(n:Nat)(lo x:Int),x∈rngI lo n->lo<=x/\x < lo + n:=fun n=>by
  induction n with
  | zero=>intro lo x h;cases h
  | succ n ih =>
   intro lo x h
   simp only[rngI]at h
   rcases List.mem_cons.mp h with rfl|h
   ·omega
   ·have:=ih _ _ h
    omega
 rw[hW0,show Slot.own (rangeT 0 (8 + mn).toNat)=Slot.own ((rngI 0 (8 + mn).toNat).map T.int) by rw[rangeT_rng]]
 refine rw_l0 (ns:=ns) (8 + mn).toNat [] (rngI 0 (8 + mn).toNat) _ _ _ _ (by simp;omega) (by rw[rl];omega) (by rw[rl];omega) (fun x hx=>by have:=rm _ _ _ hx;omega) (fun x hx=>by cases hx) fun xs n' s3 s5 s10 s11 lx hd=>?_
 walk_at "tw"
 rw[hC0]
 refine⟨⟨by omega,by omega⟩,by rw[rangeT_length];omega,?_⟩
 refine sun_comp _ 0 [] _ (by decide) (by omega) ?_
 rw[List.nil_append]
 have ls:(sunR 0 (8 + mn).toNat).length=(8 + mn).toNat:=sunR_len _ _
 try walk_at "tw"
 rw[hC1]
 refine⟨by rw[List.length_map];omega,hrs_comp _ [] _ ?_⟩
 rw[List.nil_append]
 have f2:=fmod_pos n' (b:=8 + mn - 7) (by omega)
 try walk_at "tw"
 refine⟨by omega,d3,⟨by omega,by omega⟩,?_⟩
 rw[hW1]
 refine rw_l1 (H:=(sunR 0 (8 + mn).toNat).map (·.1)) (8 + mn - n'.fmod (8 + mn - 7)).toNat 0 ((sunR 0 (8 + mn).toNat).map (·.1)) [] _ _ (by rw[List.length_map];omega) (by rw[List.length_map];omega) (by simp;omega) (fun x hx=>hx) (fun x hx=>by cases hx) fun hs n2 s5 s7 lh hh=>?_
 walk_at "tw"
 refine h (sunR 0 (8 + mn).toNat) (wTh (wideF ns 60) 0 []) (dTh (wideF ns 60) 20 xs) hs ⟨yk_of (fun e he=>?_) (by simp) lx (fun p hp=>by cases hp) fun x hx=>⟨(hd x hx).1,(hd x hx).2.1⟩,by rw[ls];omega,by rw[ls];omega,fun e he=>?_,by simp[wTh],sunR_nd _ _⟩ lh hh
 ·obtain⟨j,j0,j1,rfl⟩:=sunR_mem he
  have a1:Lim 2 j:=l2 (by omega) (by omega)
  have z0:Lim 2 (0:Int):=l2 (by decide) (by decide)
  have z1:Lim 2 (1:Int):=l2 (by decide) (by decide)
  exact⟨a1,z0,z1⟩
 ·obtain⟨j,j0,j1,rfl⟩:=sunR_mem he
  show 0<=2 * j + 1/\2 * j + 1<=1000
  omega
def Z2I:SpT:=fun ts Q=>∃ns:List Int,ts=[.lst (ns.map T.int)]/\∀sun ws ds (hs:List Int),YF sun ws ds->hs.length<=10->(∀h∈hs,h∈sun.map (·.1))->Q (.tup [yardT sun ws ds,intsT hs])
theorem Z6G:∀ts Q,Z2I ts Q->ts.length=1:=by rintro ts Q ⟨_,e,_⟩;subst e;rfl
def Z59:WS :=
 (sSeq (sIf (tCmpT cEqT (w2 rModT (wCall Z06 (aCons (wVar 0) (aCons (wC (.int 58)) aNil))) (wC (.int 8))) (wC (.int 5))) (sRet (wCall Z2H (aCons (wVar 0) aNil))) sNext)
  (sSeq (sSet 1 (wCall Z26 (aCons (wVar 0) (aCons (wC (.int 7)) (aCons (wC (.int 2)) (aCons (wC (.int 8)) aNil))))))
  (sSeq (sSet 2 (wCall Z1T (aCons (wVar 1) aNil)))
  (sRet (wTup (aCons (wVar 1) (aCons (wCall Z37 (aCons (wVar 0) (aCons (wVar 1) (aCons (wComp (iDic (wVar 2)) (gN 0) (tCmpT cNeT (w2 rIxDT (wVar 1) (wVar 0)) (wLst aNil)) (wVar 0) 1 [2]) aNil)))) aNil)))))))
theorem Z78:∀ts Q,Z2I ts Q->Z59 {nx:=fun _=>Q .non,rt:=Q} (startT 3 ts):=by
 rintro _ Q ⟨ns,rfl,h⟩
 unfold Z59
 obtain⟨T0,hT0⟩:∃W,W=tDn:=⟨_,rfl⟩
 rw[show tCmpT cNeT (w2 rIxDT (wVar 1) (wVar 0)) (wLst aNil)=tDn from rfl,← hT0]
 walk_at "go"
 refine⟨ns,58,rfl,by decide,by decide,?_⟩
 walk_at "go"
 refine⟨fun _=>?_,fun _=>?_⟩
 ·walk_at "go"
  exact⟨ns,rfl,h⟩
 ·walk_at "go"
  refine⟨ns,7,2,8,rfl,by decide,by decide,by decide,fun sun ws ds Y _ _=>?_⟩
  have l2:=Y.s1
  walk_at "go"
  refine⟨sun,ws,ds,rfl,Y,?_⟩
  walk_at "tw"
  rw[hT0,keys_rds]
  refine⟨by rw[List.length_map,List.length_map];omega,dn_comp Y (sun.map (·.1)) [] _ (fun k m=>m) ?_⟩
  rw[List.nil_append]
  refine⟨ns,sun,ws,ds,(sun.map (·.1)).filter fun k=>decide (rdF sun ws ds k≠[]),rfl,Y,?_,fun g mg=>(List.mem_filter.mp mg).1,fun hs l1 l2=>?_⟩
  ·have:=List.length_filter_le (fun k=>decide (rdF sun ws ds k≠[])) (sun.map (·.1))
   rw[List.length_map]at this
   omega
  ·walk_at "tw"
   exact h sun ws ds hs Y l1 l2
def Z28:SpT:=fun ts Q=>∃(sun:List (Int×Tr)) (ws ds:List Th) (hs:List Int) (ways:List Way) (s:Nat),ts=[dicT (rdsP sun ws ds),intsT hs,.lst ((ris ds.length s).map (triT ways)),.int s,.int ds.length]/\YF sun ws ds/\s<=10/\hs.length<=100/\(∀k∈hs,k∈sun.map (·.1)) ∧
 (∀c∈ris ds.length s,∃h,firstW ways c=some h/\(hs.find? fun k=>!anyD sun ws ds c k)=some h)/\Q (.bl true)
theorem Z6H:∀ts Q,Z28 ts Q->ts.length=5:=by rintro ts Q ⟨_,_,_,_,_,_,e,_⟩;subst e;rfl
def Z0C:WS :=
 (sSeq (sAsg (gT 2 (gsC (gN 7) (gsC (gN 8) gs0))) (w2 rIxTT (wVar 2) (wVar 6)))
  (sSeq (sIf (tOrT (tCmpT cNeT (wCB rLenT (aCons (wVar 7) aNil)) (wVar 3)) (tOrT (tNotT (tVal (wCall Z0U (aCons (wVar 7) (aCons (wVar 4) aNil))))) (tAndT (tCmpT cGtT (wVar 6) (wC (.int 0))) (tCmpT cEqT (wVar 7) (w2 rIxTT (w2 rIxTT (wVar 2) (w2 rSubT (wVar 6) (wC (.int 1)))) (wC (.int 0))))))) (sRet (wC (.bl false))) sNext)
  (sIf (tNotT (tVal (wCall Z1j (aCons (wVar 0) (aCons (wVar 1) (aCons (wVar 7) (aCons (wVar 8) aNil))))))) (sRet (wC (.bl false))) sNext)))
def Z5a:WS :=
 (sSeq (sSet 5 (wComp (iSeq (wVar 2)) (gN 0) tTrue (w2 rIxTT (wVar 0) (wC (.int 0))) 1 []))
  (sSeq (sIf (tOrT (tCmpT cNeT (wCB rLenT (aCons (wVar 5) aNil)) (wCall Z27 (aCons (wVar 4) (aCons (wVar 3) aNil)))) (tCmpT cNeT (wVar 5) (wCB rSortLT (aCons (wVar 5) aNil)))) (sRet (wC (.bl false))) sNext)
  (sSeq (sFor (iRange1 (aCons (wCB rLenT (aCons (wVar 2) aNil)) aNil)) (gN 6) Z0C)
  (sRet (wC (.bl true))))))
theorem eqTs_ints:∀a b:List Int,eqTs (a.map T.int) (b.map T.int)=decide (a=b)
 | [],[]=>rfl
 | [],_::_=>rfl
 | _::_,[]=>rfl
 | x::r,y::t=>by
  show (eqT (.int x) (.int y)&&eqTs (r.map T.int) (t.map T.int))=_
  rw[eqTs_ints r t,eqTe]
  by_cases h1:x=y
  ·by_cases h2:r=t
   ·simp[h1,h2]
   ·simp[h1,h2]
  ·simp[h1]
theorem eqT_ints(a b:List Int):eqT (intsT a) (intsT b)=decide (a=b):=eqTs_ints a b
theorem row_comp{Q:List T->Prop}{ways:List Way}:∀(cs:List (List Int))(acc:List T)(s:Slot),Q (acc++cs.map intsT)->compT (gN 0) tTrue (w2 rIxTT (wVar 0) (wC (.int 0))) (cs.map (triT ways)) acc [s] Q
 | [],acc,s,h=>by
  simp only[List.map_nil,List.append_nil]at h
  exact h
 | c::r,acc,s,h=>by
  have ih:=fun (acc:List T) (s:Slot) h=>row_comp (Q:=Q) (ways:=ways) r acc s h
  simp only[List.map,compT]
  generalize compT (gN 0) tTrue (w2 rIxTT (wVar 0) (wC (.int 0))) (r.map (triT ways))=F at ih ⊢
  walk_at "go"
  refine ih _ _ ?_
  simpa using h
theorem at_map{α:Type}{f:α->T}{l:List α}{k:Nat}(h:k < l.length):atI (l.map f) (k:Int)=some (f l[k]):=by
 unfold atI ixN
 rw[List.length_map,if_pos (by omega),if_pos (by omega)]
 simp only[Option.bind,Int.toNat_natCast]
 rw[List.getElem?_map,List.getElem?_eq_getElem h]
 rfl
theorem paper_b0{D:DT}{sun:List (Int×Tr)}{ws ds:List Th}{hs:List Int}{ways:List Way}{s k:Nat}{s5 s7 s8:Slot}(Y:YF sun ws ds)(hs10:s<=10)(hl:hs.length<=100)(hk:∀k∈hs,k∈sun.map (·.1))
  (hf:∀c∈ris ds.length s,∃h,firstW ways c=some h/\(hs.find? fun k=>!anyD sun ws ds c k)=some h) (kl:k < (ris ds.length s).length)
  (h:∀s7 s8,D.nx [.val (dicT (rdsP sun ws ds)),.val (intsT hs),.val (.lst ((ris ds.length s).map (triT ways))),.val (.int s),.val (.int ds.length),s5,.val (.int k),s7,s8]) :
  Z0C D [.val (dicT (rdsP sun ws ds)),.val (intsT hs),.val (.lst ((ris ds.length s).map (triT ways))),.val (.int s),.val (.int ds.length),s5,.val (.int k),s7,s8]:=by
 have l10:=Y.k.few2
 have r0:=ris_le (m:=ds.length) (s:=s) ⟨by omega,by omega⟩ hs10
 have mc:(ris ds.length s)[k]∈ris ds.length s:=List.getElem_mem kl
 have rs:rsB ds.length (-1) (ris ds.length s)[k]=true:=by
  have:=ris_rs ⟨ds.length,by omega⟩ ⟨s,by omega⟩
  simp only at this
  exact List.all_eq_true.mp this _ mc
 have asc:(ris ds.length s).Pairwise (fun a b=>ltI a b=true):=ris_asc ⟨ds.length,by omega⟩ ⟨s,by omega⟩
 have e1:=at_map (f:=triT ways) kl
 have ln:=(r0.2 _ mc).1
 obtain⟨x,x1,x2⟩:=hf _ mc
 generalize ec:(ris ds.length s)[k]=c at e1 ln mc rs x1 x2
 have et:triT ways c=.tup [intsT c,.int x]:=by unfold triT;rw[x1]
 rw[et]at e1
 obtain⟨SR,hSR⟩:∃S,S=Z0U:=⟨_,rfl⟩
 obtain⟨SF,hSF⟩:∃S,S=Z1j:=⟨_,rfl⟩
 have sr:∀{Q:T->Prop},Q (.bl true)->SR [intsT c,.int ds.length] Q:=fun q=>by rw[hSR];exact⟨c,ds.length,rfl,rs,q⟩
 have sf:∀{Q:T->Prop},Q (.bl true)->SF [dicT (rdsP sun ws ds),intsT hs,intsT c,.int x] Q:=fun q=>by rw[hSF];exact⟨sun,ws,ds,hs,c,x,rfl,Y.sd,l10,hl,hk,x2,q⟩
 unfold Z0C
 rw[← hSR,← hSF]
 clear hSR hSF
 have e2:decide (((c.map T.int).length:Int)=(s:Int))=true:=decide_eq_true (by rw[List.length_map,ln])
 have sfin:SF [dicT (rdsP sun ws ds),intsT hs,intsT c,.int x] fun x=>match x with
   | T.bl k_2=>((!k_2)=true->D.rt (T.bl false))/\((!k_2)=false->D.nx [.val (dicT (rdsP sun ws ds)),.val (intsT hs),.val (.lst ((ris ds.length s).map (triT ways))),.val (.int s),.val (.int ds.length),s5,.val (.int k),.val (intsT c),.val (.int ‹Int›)])
   | x=>False:=sf ⟨(fun z=>by cases z),fun _=>h _ _⟩
 walk_at "tw"
 rw[e1]
 dsimp only
 refine⟨rfl,?_⟩
 rw[e2]
 refine⟨(fun z=>by cases z),fun _=>sr ?_⟩
 dsimp only
 refine⟨(fun z=>by cases z),fun _=>⟨fun z=>?_,fun z=>⟨(fun z=>by cases z),fun _=>sfin⟩⟩⟩
 have k0:0 < k:=by have:=of_decide_eq_true z;omega
 obtain⟨j,rfl⟩:∃j,k=j + 1:=⟨k - 1,by omega⟩
 have e3:=at_map (f:=triT ways) (l:=ris ds.length s) (k:=j) (by omega)
 rw[show ((j + 1:Nat):Int) - 1=(j:Int) by omega,e3]
 dsimp only
 have ne:c≠(ris ds.length s)[j]:=fun e=>by
  have:=List.pairwise_iff_getElem.mp asc j (j + 1) (by omega) kl (by omega)
  rw[ec,← e,ltI_irr]at this
  cases this
 rw[atI0]
 dsimp only
 refine⟨eqOk_lst _ _,?_⟩
 rw[eqT_ints,decide_eq_false ne]
 exact⟨(fun z=>by cases z),fun _=>sfin⟩
theorem paper_loop{D:DT}{sun:List (Int×Tr)}{ws ds:List Th}{hs:List Int}{ways:List Way}{s:Nat}{s5:Slot}(Y:YF sun ws ds)(hs10:s<=10)(hl:hs.length<=100)(hk:∀k∈hs,k∈sun.map (·.1))
  (hf:∀c∈ris ds.length s,∃h,firstW ways c=some h/\(hs.find? fun k=>!anyD sun ws ds c k)=some h)
  (h:∀s6 s7 s8,D.nx [.val (dicT (rdsP sun ws ds)),.val (intsT hs),.val (.lst ((ris ds.length s).map (triT ways))),.val (.int s),.val (.int ds.length),s5,s6,s7,s8]):∀(n k:Nat)(s6 s7 s8:Slot),k + n=(ris ds.length s).length →
  forT (gN 6) Z0C (rangeT k n) D [.val (dicT (rdsP sun ws ds)),.val (intsT hs),.val (.lst ((ris ds.length s).map (triT ways))),.val (.int s),.val (.int ds.length),s5,s6,s7,s8]
 | 0,k,s6,s7,s8,_=>by
  simp only[rangeT,forT]
  exact h _ _ _
 | n + 1,k,s6,s7,s8,e=>by
  have ih:=fun s6 s7 s8=>paper_loop (D:=D) (s5:=s5) Y hs10 hl hk hf h n (k + 1) s6 s7 s8 (by omega)
  have e2:((k + 1:Nat):Int)=(k:Int) + 1:=by omega
  rw[e2]at ih
  simp only[rangeT,forT]
  generalize forT (gN 6) Z0C (rangeT ((k:Int) + 1) n) D=F at ih ⊢
  exact paper_b0 (D:={D with nx:=F,ct:=F,bk:=D.nx}) Y hs10 hl hk hf (by omega) fun s7 s8=>ih _ _ _
theorem Z79:∀ts Q,Z28 ts Q->Z5a {nx:=fun _=>Q .non,rt:=Q} (startT 9 ts):=by
 rintro _ Q ⟨sun,ws,ds,hs,ways,s,rfl,Y,hs10,hl,hk,hf,q⟩
 have l10:=Y.k.few2
 have r0:=ris_le (m:=ds.length) (s:=s) ⟨by omega,by omega⟩ hs10
 have asc:(ris ds.length s).Pairwise (fun a b=>ltI a b=true):=ris_asc ⟨ds.length,by omega⟩ ⟨s,by omega⟩
 have lm:((ris ds.length s).map (triT ways)).length=(ris ds.length s).length:=List.length_map _
 unfold Z5a
 obtain⟨W0,hW0⟩:∃W,W=Z0C:=⟨_,rfl⟩
 obtain⟨C0,hC0⟩:∃W,W=wComp (iSeq (wVar 2)) (gN 0) tTrue (w2 rIxTT (wVar 0) (wC (.int 0))) 1 []:=⟨_,rfl⟩
 obtain⟨SC,hSC⟩:∃S,S=Z27:=⟨_,rfl⟩
 rw[← hW0,← hC0,← hSC]
 have sc:∀{Q:T->Prop},Q (.int ((ris ds.length s).length:Nat))->SC [.int ds.length,.int s] Q:=fun q=>by rw[hSC];exact⟨ds.length,s,rfl,l10,hs10,q⟩
 have cc:∀{τ:List Slot}{Q:T->Prop},sget τ 2=.val (.lst ((ris ds.length s).map (triT ways)))->Q (.lst ((ris ds.length s).map intsT))->C0 τ Q:=fun {τ Q} e q=>by
  rw[hC0]
  unfold wComp
  show wVar 2 τ _
  unfold wVar
  rw[e]
  refine⟨by have:=r0.1;omega,?_⟩
  exact row_comp _ [] _ q
 clear hC0 hSC
 walk_at "go"
 refine cc rfl ?_
 walk_at "go"
 refine sc ?_
 walk_at "tw"
 rw[List.length_map,decide_eq_true (rfl:(((ris ds.length s).length:Nat):Int)=_)]
 refine⟨(fun z=>by cases z),fun _=>?_⟩
 refine⟨ris ds.length s,rfl,asc_nodup asc,.inr ⟨by have:=r0.1;omega,asc⟩,fun us hp ha=>?_⟩
 rw[asc_same hp ha asc]
 have pn:Pn 2 (.lst ((ris ds.length s).map iT)):=Pn.lst fun t mt=>by
  obtain⟨c,_,rfl⟩:=List.mem_map.mp mt
  refine Pn.lst fun u mu=>?_
  obtain⟨i,_,rfl⟩:=List.mem_map.mp mu
  exact Pn.int i
 dsimp only
 refine⟨pn.ok pn (by decide),?_⟩
 rw[show eqT (.lst ((ris ds.length s).map intsT)) (.lst ((ris ds.length s).map iT))=true from pn.self]
 refine⟨(fun z=>by cases z),fun _=>?_⟩
 rw[lm,hW0]
 refine⟨⟨by omega,by omega⟩,?_⟩
 rw[Int.toNat_natCast]
 refine paper_loop Y hs10 hl hk hf (fun s6 s7 s8=>?_) _ 0 _ _ _ (by omega)
 walk_at "go"
 exact q
theorem idx_nm{ws:List Th}(nd:(nmsOf ws).Nodup){n:Int}(h0:0<=n)(h1:n < ws.length):nmAt ws n∈nmsOf ws/\(((nmsOf ws).idxOf (nmAt ws n):Nat):Int)=n:=by
 have hk:n.toNat < ws.length:=by omega
 have e:nmAt ws n=(nmsOf ws)[n.toNat]'(by rw[List.length_map];exact hk):=by
  unfold nmAt
  rw[List.getElem?_eq_getElem hk]
  simp[nmsOf]
 rw[e]
 refine⟨List.getElem_mem _,?_⟩
 rw[List.Nodup.idxOf_getElem nd]
 omega
theorem idx_all{ws:List Th}(nd:(nmsOf ws).Nodup){c:List Int}(h:∀n∈c,0<=n/\n < (ws.length:Int)):(c.map (nmAt ws)).map (fun u=>(((nmsOf ws).idxOf u:Nat):Int))=c:=by
 rw[List.map_map]
 conv=>rhs;rw[← List.map_id c]
 refine List.map_congr_left fun n mn=>?_
 exact(idx_nm nd (h n mn).1 (h n mn).2).2
theorem ninS_comp{Q:List T->Prop}{Z:List Str}:∀(us:List Str)(acc:List T)(s:Slot),Q (acc++(us.filter fun n=>!Z.contains n).map T.str)->compT (gN 0) (tCmpT cNotInT (wVar 0) (wVar 1)) (wVar 0) (us.map T.str) acc [s,.val (.lst (Z.map T.str))] Q
 | [],acc,s,h=>by
  simp only[List.filter_nil,List.map_nil,List.append_nil]at h
  exact h
 | n::r,acc,s,h=>by
  have ih:=fun (acc:List T) (s:Slot) h=>ninS_comp (Q:=Q) (Z:=Z) r acc s h
  simp only[List.map,compT]
  generalize compT (gN 0) (tCmpT cNotInT (wVar 0) (wVar 1)) (wVar 0) (r.map T.str)=F at ih ⊢
  walk_at "tw"
  rw[strsOf_map]
  dsimp only
  rw[List.filter_cons]at h
  refine⟨fun e=>?_,fun e=>?_⟩
  ·rw[e]at h
   exact ih _ _ (by simpa using h)
  ·rw[e]at h
   exact ih _ _ (by simpa using h)
theorem ris_ch{m s:Nat}{c:List Int}(hm:m<=10)(hs:s<=10)(h:c∈ris m s):c.length=s/\(∀n∈c,0<=n/\n < (m:Int))/\rsB m (-1) c=true:=by
 have r0:=ris_le (m:=m) (s:=s) ⟨by omega,by omega⟩ hs
 refine⟨(r0.2 c h).1,(r0.2 c h).2,?_⟩
 have:=ris_rs ⟨m,by omega⟩ ⟨s,by omega⟩
 simp only at this
 exact List.all_eq_true.mp this _ h
theorem all_off{α:Type}{p:α->Bool}{l:List α}(h:l.find? p=none):l.filter p=[]:=List.filter_eq_nil_iff.mpr fun a ma=>by have:=List.find?_eq_none.mp h a ma;exact this
theorem Fst.uniq{ways:List Way}{m:Int}{s s':Nat}{c c':List Int}(a:Fst ways m s c)(b:Fst ways m s' c'):s=s'/\c=c':=by
 have mem:∀{s:Nat}{c:List Int},Fst ways m s c->c∈ris m s:=fun F=>by obtain⟨pre,post,e,_⟩:=F.first;rw[e];simp
 have es:s=s':=by
  rcases Nat.lt_trichotomy s s' with q|q|q
  ·exact absurd a.here (b.less s q c (mem a))
  ·exact q
  ·exact absurd b.here (a.less s' q c' (mem b))
 subst es
 have fd:∀{c:List Int},Fst ways m s c->(ris m s).find? (fun c=>(firstW ways c).isNone)=some c:=fun {c} F=>by
  obtain⟨pre,post,e,n⟩:=F.first
  rw[e,List.find?_append,List.find?_eq_none.mpr fun x mx z=>n x mx (Option.isNone_iff_eq_none.mp z),List.find?_cons,F.here]
  rfl
 have:=fd a
 rw[fd b]at this
 exact⟨rfl,(Option.some.inj this).symm⟩
theorem pn_tri(ways:List Way)(c:List Int):Pn 2 (triT ways c):=Pn.tup fun x hx=>by
 simp only[List.mem_cons,List.not_mem_nil,or_false]at hx
 rcases hx with rfl|rfl
 ·refine Pn.lst fun u mu=>?_
  obtain⟨i,_,rfl⟩:=List.mem_map.mp mu
  exact Pn.int i
 ·cases firstW ways c
  ·exact Pn.non.up (by decide)
  ·exact(Pn.int _).up (by decide)
theorem pn_found{ways:List Way}{m:Int}{L:List Th}{w:String}{s:Nat}{c:List Int}(hw:SOk (Str.ofString w))(hL:∀n∈c,SOk (nmAt L n)):Pn 4 (.tup [sWd w,.lst ((c.map (nmAt L)).map T.str),.lst (paperF ways m s)]):=Pn.tup fun x hx=>by
 simp only[List.mem_cons,List.not_mem_nil,or_false]at hx
 rcases hx with rfl|rfl|rfl
 ·exact(show Pn 0 (sWd w) from ⟨hw,Nat.le_refl 0⟩).up (by decide)
 ·refine(Pn.lst (n:=0) fun u mu=>?_).up (by decide)
  obtain⟨z,mz,rfl⟩:=List.mem_map.mp mu
  obtain⟨n,mn,rfl⟩:=List.mem_map.mp mz
  exact⟨hL n mn,Nat.le_refl 0⟩
 ·refine Pn.lst (n:=2) fun u mu=>?_
  cases s with
  | zero=>cases mu
  | succ s =>
   obtain⟨z,_,rfl⟩:=List.mem_map.mp mu
   exact pn_tri ways z
theorem so_dials:SOk (Str.ofString "dials"):=by decide +kernel
theorem so_unread:SOk (Str.ofString "unread"):=by decide +kernel
theorem ne_du:eqT (sWd "dials") (sWd "unread")=false:=by decide +kernel
inductive Ans (L:List Th) (ways:List Way) (w w0:String):T->Prop where
 | un (h:Int) (e:firstW ways (allI L)=some h):Ans L ways w w0 (.tup [sWd w0,.int h])
 | yes (s:Nat) (c:List Int) (e:firstW ways (allI L)=Option.none) (hs:s<=L.length) (F:Fst ways L.length s c):Ans L ways w w0 (.tup [sWd w,.lst ((c.map (nmAt L)).map T.str),.lst (paperF ways L.length s)])
theorem few_of{L:List Th}{ways:List Way}{w w0:String}{Q:T->Prop}(h:∀t,Ans L ways w w0 t->Q t):FewQ L ways w w0 Q:=⟨fun x e=>h _ (.un x e),fun e s c hs F=>h _ (.yes s c e hs F)⟩
theorem Ans.uniq{L:List Th}{ways:List Way}{w w0:String}{t t':T}(a:Ans L ways w w0 t)(b:Ans L ways w w0 t'):t=t':=by
 cases a with
 | un h e =>
  cases b with
  | un h' e'=>rw[e]at e';cases e';rfl
  | yes s c e'=>rw[e]at e';cases e'
 | yes s c e hs F =>
  cases b with
  | un h' e'=>rw[e]at e';cases e'
  | yes s' c' e' hs' F' =>
   obtain⟨rfl,rfl⟩:=F.uniq F'
   rfl
theorem Ans.few{L:List Th}{ways:List Way}{w w0:String}{t:T}{Q:T->Prop}(a:Ans L ways w w0 t)(h:Q t):FewQ L ways w w0 Q:=few_of fun t' b=>by rw[← a.uniq b];exact h
theorem Ans.congr{L:List Th}{ways ways':List Way}{w w0:String}{t:T}(e:∀c,firstW ways c=firstW ways' c)(a:Ans L ways w w0 t):Ans L ways' w w0 t:=by
 cases a with
 | un h eh=>exact .un h (by rw[← e];exact eh)
 | yes s c en hs F =>
  have ep:paperF ways L.length s=paperF ways' L.length s:=by
   cases s with
   | zero=>rfl
   | succ s =>
    refine List.map_congr_left fun c _=>?_
    unfold triT
    rw[e c]
  rw[ep]
  refine .yes s c (by rw[← e];exact en) hs ⟨fun s' hs' c' mc' z=>F.less s' hs' c' mc' (by rw[e];exact z),?_,by rw[← e];exact F.here⟩
  obtain⟨pre,post,e1,e2⟩:=F.first
  exact⟨pre,post,e1,fun c' mc' z=>e2 c' mc' (by rw[e];exact z)⟩
def Z6I:WS :=
 (sSeq (sAsg (gT 2 (gsC (gN 7) (gsC (gN 8) gs0))) (wCall Z2I (aCons (wVar 0) aNil)))
  (sSeq (sSet 1 (wCall Z1T (aCons (wVar 7) aNil)))
  (sSeq (sSet 2 (wCall Z0e (aCons (wVar 7) (aCons (wVar 8) aNil))))
  (sSeq (sIf (tCmpT cNeT (wCall Z0e (aCons (wVar 7) (aCons (w2 rCatLT (wVar 8) (wVar 8)) aNil))) (wVar 2)) (sRet (wC (.bl false))) sNext)
  (sSeq (sSet 3 (wCB rLenT (aCons (w2 rIxTT (wVar 7) (wC (.int 2))) aNil)))
  (sSeq (sIf (tCmpT cEqT (w2 rIxTT (wVar 2) (wC (.int 0))) (wC (.str (Str.ofString "unread")))) (sRet (wCall Z1j (aCons (wVar 1) (aCons (wVar 8) (aCons (wLRng (aCons (wVar 3) aNil)) (aCons (w2 rIxTT (wVar 2) (wC (.int 1))) aNil)))))) sNext)
  (sSeq (sSet 4 (wComp (iSeq (w2 rIxTT (wVar 7) (wC (.int 2)))) (gN 0) tTrue (w2 rIxTT (wVar 0) (wC (.int 0))) 1 []))
  (sSeq (sIf (tOrT (tCmpT cNeT (w2 rIxTT (wVar 2) (wC (.int 0))) (wC (.str (Str.ofString "dials")))) (tCmpT cNeE (wComp (iSeq (w2 rIxTT (wVar 2) (wC (.int 1)))) (gN 0) (tCmpT cNotInT (wVar 0) (wVar 1)) (wVar 0) 1 [4]) (wLst aNil))) (sRet (wC (.bl false))) sNext)
  (sSeq (sSet 5 (wComp (iSeq (w2 rIxTT (wVar 2) (wC (.int 1)))) (gN 0) tTrue (wIdx (wVar 1) (aCons (wVar 0) aNil)) 1 [4]))
  (sSeq (sSet 6 (wComp (iSeq (wVar 8)) (gN 0) (tNotT (tVal (wCall Z1z (aCons (wVar 1) (aCons (wVar 0) (aCons (wVar 2) aNil)))))) (wVar 0) 1 [1,5]))
  (sSeq (sIf (tOrT (tNotT (tVal (wCall Z0U (aCons (wVar 5) (aCons (wVar 3) aNil))))) (tCmpT cNeT (wVar 6) (wLst aNil))) (sRet (wC (.bl false))) sNext)
  (sSeq (sIf (tCmpT cEqT (wVar 5) (wLst aNil)) (sRet (wCmp cEqT (w2 rIxTT (wVar 2) (wC (.int 2))) (wLst aNil))) sNext)
  (sRet (wCall Z28 (aCons (wVar 1) (aCons (wVar 8) (aCons (w2 rIxTT (wVar 2) (wC (.int 2))) (aCons (w2 rSubT (wCB rLenT (aCons (wVar 5) aNil)) (wC (.int 1))) (aCons (wVar 3) aNil)))))))))))))))))))
theorem Z7G:∀ts Q,lawSp ts Q->Z6I {nx:=fun _=>Q .non,rt:=Q} (startT 9 ts):=by
 rintro _ Q ⟨ns,rfl,_,h⟩
 unfold Z6I
 obtain⟨CN,hCN⟩:∃W,W=wComp (iSeq (w2 rIxTT (wVar 7) (wC (.int 2)))) (gN 0) tTrue (w2 rIxTT (wVar 0) (wC (.int 0))) 1 []:=⟨_,rfl⟩
 obtain⟨CM,hCM⟩:∃W,W=wComp (iSeq (w2 rIxTT (wVar 2) (wC (.int 1)))) (gN 0) (tCmpT cNotInT (wVar 0) (wVar 1)) (wVar 0) 1 [4]:=⟨_,rfl⟩
 obtain⟨CI,hCI⟩:∃W,W=wComp (iSeq (w2 rIxTT (wVar 2) (wC (.int 1)))) (gN 0) tTrue (wIdx (wVar 1) (aCons (wVar 0) aNil)) 1 [4]:=⟨_,rfl⟩
 obtain⟨CD,hCD⟩:∃W,W=wComp (iSeq (wVar 8)) (gN 0) (tNotT (tVal (wCall Z1z (aCons (wVar 1) (aCons (wVar 0) (aCons (wVar 2) aNil)))))) (wVar 0) 1 [1,5]:=⟨_,rfl⟩
 obtain⟨SG,hSG⟩:∃S,S=Z0e:=⟨_,rfl⟩
 obtain⟨SF,hSF⟩:∃S,S=Z1j:=⟨_,rfl⟩
 obtain⟨SR,hSR⟩:∃S,S=Z0U:=⟨_,rfl⟩
 obtain⟨SP,hSP⟩:∃S,S=Z28:=⟨_,rfl⟩
 rw[← hCN,← hCM,← hCI,← hCD,← hSG,← hSF,← hSR,← hSP]
 walk_at "go"
 refine⟨ns,rfl,fun sun ws ds hs Y hl hh=>?_⟩
 have l10:=Y.k.few2
 have hk:∀k∈hs,Lim 100 k/\(sunAt sun k).isSome=true:=fun k mk=>by
  obtain⟨e,me,ee⟩:=List.mem_map.mp (hh k mk)
  exact⟨lim_hr (by have:=Y.hrs e me;rw[← ee];exact this),sun_is (hh k mk)⟩
 have once:∀l:List Int,(∀k∈l,k∈hs)->∃ks,onceF sun l []=(none,ks):=fun l hl'=>by
  have on:=onceF_none (sun:=sun) l []
  cases e:onceF sun l [] with
  | mk o ks =>
   rw[e]at on
   cases o with
   | none=>exact⟨ks,rfl⟩
   | some x =>
    have hx:l.find? (fun h=>(sunAt sun h).isNone)=some x:=on.symm
    have mx:=List.mem_of_find?_eq_some hx
    have nx:=List.find?_some hx
    have:=(hk x (hl' x mx)).2
    cases q:sunAt sun x with
    | none=>rw[q]at this;cases this
    | some d=>rw[q]at nx;cases nx
 have sg:∀{Q:T->Prop}{l ks:List Int},(∀k∈l,k∈hs)->l.length<=100->onceF sun l []=(none,ks)->FewQ ds (ks.map (wyD sun ws ds)) "dials" "unread" Q->SG [yardT sun ws ds,intsT l] Q:=fun {Q l ks} hl' ll he q=>by
  rw[hSG]
  refine⟨sun,_,ds,l,rfl,Y.k,ll,fun k mk=>(hk k (hl' k mk)).1,?_⟩
  rw[he]
  exact q
 obtain⟨ks,he⟩:=once hs fun k m=>m
 obtain⟨ks2,he2⟩:=once (hs++hs) fun k m=>(List.mem_append.mp m).elim id id
 have fw:∀c,firstW (ks.map (wyD sun ws ds)) c=hs.find? fun k=>!anyD sun ws ds c k:=fun c=>by rw[first_Dc,onceF_find he];rfl
 have fw2:∀c,firstW (ks.map (wyD sun ws ds)) c=firstW (ks2.map (wyD sun ws ds)) c:=fun c=>by
  rw[fw,first_Dc,onceF_find he2,List.nil_append,List.find?_append]
  cases hs.find? fun k=>!anyD sun ws ds c k<;>rfl
 have sf:∀{Q:T->Prop}{c:List Int}{x:Int},(hs.find? fun k=>!anyD sun ws ds c k)=some x->Q (.bl true)->SF [dicT (rdsP sun ws ds),intsT hs,intsT c,.int x] Q:=fun e q=>by rw[hSF];exact⟨sun,ws,ds,hs,_,_,rfl,Y.sd,l10,by omega,hh,e,q⟩
 have cn:∀{τ:List Slot}{Q:T->Prop},sget τ 7=.val (yardT sun ws ds)->Q (.lst ((nmsOf ds).map T.str))->CN τ Q:=fun {τ Q} e q=>by
  rw[hCN]
  unfold wComp
  show wVar 7 τ _
  unfold wVar
  rw[e]
  refine⟨by rw[List.length_map];omega,?_⟩
  exact fst_comp ds [] _ q
 have cm:∀{τ:List Slot}{Q:T->Prop}{a b:T}{us:List Str},sget τ 2=.val (.tup [a,.lst (us.map T.str),b])->sget τ 4=.val (.lst ((nmsOf ds).map T.str))->us.length<=1000->Q (.lst ((us.filter fun n=>!(nmsOf ds).contains n).map T.str))->CM τ Q:=fun {τ Q a b us} e e' hu q=>by
  rw[hCM]
  unfold wComp
  show wVar 2 τ _
  unfold wVar
  rw[e]
  refine⟨by rw[List.length_map];omega,?_⟩
  show compT _ _ _ _ [] [.no,hide (sget τ 4)] _
  rw[e']
  exact ninS_comp us [] _ q
 have ci:∀{τ:List Slot}{Q:T->Prop}{a b:T}{us:List Str},sget τ 2=.val (.tup [a,.lst (us.map T.str),b])->sget τ 4=.val (.lst ((nmsOf ds).map T.str))->us.length<=1000->(∀u∈us,u∈nmsOf ds)->Q (intsT (us.map fun u=>(((nmsOf ds).idxOf u:Nat):Int)))->CI τ Q:=fun {τ Q a b us} e e' hu hm q=>by
  rw[hCI]
  unfold wComp
  show wVar 2 τ _
  unfold wVar
  rw[e]
  refine⟨by rw[List.length_map];omega,?_⟩
  show compT _ _ _ _ [] [.no,hide (sget τ 4)] _
  rw[e']
  exact idx_comp (by rw[List.length_map];omega) us [] _ hm q
 have cd:∀{τ:List Slot}{Q:T->Prop}{c:List Int},sget τ 8=.val (intsT hs)->sget τ 1=.val (dicT (rdsP sun ws ds))->sget τ 5=.val (intsT c)->Q (intsT (hs.filter fun k=>!anyD sun ws ds c k))->CD τ Q:=fun {τ Q c} e e7 e5 q=>by
  rw[hCD]
  unfold wComp
  show wVar 8 τ _
  unfold wVar
  rw[e]
  refine⟨by rw[List.length_map];omega,?_⟩
  show compT _ _ _ _ [] [.no,hide (sget τ 1),hide (sget τ 5)] _
  rw[e7,e5]
  exact na_comp Y.sd l10 hs [] _ hh q
 have sr:∀{Q:T->Prop}{c:List Int},rsB ds.length (-1) c=true->Q (.bl true)->SR [intsT c,.int ds.length] Q:=fun r q=>by rw[hSR];exact⟨_,ds.length,rfl,r,q⟩
 have sp:∀{Q:T->Prop}{s:Nat},s<=10->(∀c∈ris ds.length s,∃h,firstW (ks.map (wyD sun ws ds)) c=some h/\(hs.find? fun k=>!anyD sun ws ds c k)=some h)->Q (.bl true)->SP [dicT (rdsP sun ws ds),intsT hs,.lst ((ris ds.length s).map (triT (ks.map (wyD sun ws ds)))),.int s,.int ds.length] Q:=fun l e q=>by rw[hSP];exact⟨sun,ws,ds,hs,_,_,rfl,Y,l,by omega,hh,e,q⟩
 clear hCN hCM hCI hCD hSG hSF hSR hSP
 have lm:(ds.map thT).length=ds.length:=List.length_map _
 have sok:∀{c:List Int},(∀n∈c,0<=n/\n < (ds.length:Int))->∀n∈c,SOk (nmAt ds n):=fun {c} hc n mn=>by
  have hn:n.toNat < ds.length:=by have:=hc n mn;omega
  unfold nmAt
  rw[List.getElem?_eq_getElem hn]
  exact(Y.k.ok.things _ (List.mem_append_right _ (List.getElem_mem hn))).1
 walk_at "go"
 refine⟨sun,ws,ds,rfl,Y,?_⟩
 walk_at "go"
 refine sg (fun k m=>m) (by omega) he (few_of fun td A=>?_)
 walk_at "go"
 refine⟨by simp;omega,?_⟩
 have eh2:T.lst (hs.map T.int++hs.map T.int)=intsT (hs++hs):=by simp
 walk_at "go"
 rw[eh2]
 refine sg (fun k m=>(List.mem_append.mp m).elim id id) (by simp;omega) he2 ((A.congr fw2).few ?_)
 have pt:Pn 4 td:=by
  cases A with
  | un x e=>exact(pair_pn so_unread).up (by decide)
  | yes s c e hs' F =>
   obtain⟨pre,post,e1,_⟩:=F.first
   have mc:c∈ris ds.length s:=by rw[e1];simp
   exact pn_found so_dials (sok (ris_ch l10 (by omega) mc).2.1)
 obtain⟨us,eu⟩:∃us,td=.tup us:=by cases A<;>exact⟨_,rfl⟩
 rw[eu]at pt
 rw[eu]
 walk_at "go"
 refine⟨pt.ok pt (by decide),?_⟩
 rw[pt.self,← eu]
 refine⟨(fun z=>by cases z),fun _=>?_⟩
 walk_at "tw"
 rw[lm]
 clear eu pt
 cases A with
 | un x hx =>
  rw[fw]at hx
  walk_at "go"
  refine⟨so_w so_unread so_unread,?_⟩
  rw[eq_self_w]
  refine⟨fun _=>?_,fun z=>by cases z⟩
  walk_at "tw"
  refine⟨by omega,by omega,?_⟩
  rw[show rangeT 0 (ds.length:Int).toNat=(rngI 0 (ds.length:Int).toNat).map T.int from rangeT_rng _ _,Int.toNat_natCast]
  exact sf hx h
 | yes s c hx hs' F =>
  obtain⟨pre,post,e1,_⟩:=F.first
  have mc:c∈ris ds.length s:=by rw[e1];simp
  obtain⟨lc,bc,rc⟩:=ris_ch l10 (by omega) mc
  have dk:=F.here
  rw[fw]at dk
  have off:=all_off dk
  have nin:(c.map (nmAt ds)).filter (fun n=>!(nmsOf ds).contains n)=[]:=List.filter_eq_nil_iff.mpr fun u mu=>by
   obtain⟨n,mn,rfl⟩:=List.mem_map.mp mu
   have:=(idx_nm Y.k.nd (bc n mn).1 (bc n mn).2).1
   simpa using this
  walk_at "go"
  refine⟨so_w so_dials so_unread,?_⟩
  rw[ne_du]
  refine⟨(fun z=>by cases z),fun _=>?_⟩
  walk_at "go"
  refine cn rfl ?_
  walk_at "go"
  refine⟨so_w so_dials so_dials,?_⟩
  rw[eq_self_w]
  refine⟨(fun z=>by cases z),fun _=>?_⟩
  walk_at "go"
  refine cm (a:=sWd "dials") (b:=.lst (paperF (ks.map (wyD sun ws ds)) ds.length s)) rfl rfl (by rw[List.length_map];omega) ?_
  rw[nin]
  walk_at "go"
  refine ci (a:=sWd "dials") (b:=.lst (paperF (ks.map (wyD sun ws ds)) ds.length s)) (us:=c.map (nmAt ds)) rfl rfl (by rw[List.length_map];omega) (fun u mu=>?_) ?_
  ·obtain⟨n,mn,rfl⟩:=List.mem_map.mp mu
   exact(idx_nm Y.k.nd (bc n mn).1 (bc n mn).2).1
  rw[idx_all Y.k.nd bc]
  walk_at "go"
  refine cd (c:=c) rfl rfl rfl ?_
  rw[off]
  walk_at "go"
  refine sr rc ?_
  walk_at "go"
  refine⟨eqOk_nil [],?_⟩
  rw[eqT_nil [],decide_eq_true rfl]
  refine⟨(fun z=>by cases z),fun _=>?_⟩
  walk_at "go"
  refine⟨eqOk_nil c,?_⟩
  rw[eqT_nil c]
  cases s with
  | zero =>
   have ec:c=[]:=List.length_eq_zero_iff.mp lc
   rw[decide_eq_true ec]
   refine⟨fun _=>?_,fun z=>by cases z⟩
   walk_at "go"
   exact⟨eqOk_nil [],h⟩
  | succ s =>
   have ec:c≠[]:=fun e=>by rw[e]at lc;cases lc
   rw[decide_eq_false ec]
   refine⟨(fun z=>by cases z),fun _=>?_⟩
   walk_at "go"
   rw[show ((c.map T.int).length:Int) - 1=(s:Int) by rw[List.length_map,lc];omega]
   refine sp (by omega) (fun c' mc'=>?_) h
   have:=F.less s (by omega) c' mc'
   cases e:firstW (ks.map (wyD sun ws ds)) c' with
   | none=>exact absurd e this
   | some x=>exact⟨x,rfl,by rw[← fw];exact e⟩
local macro_rules|`(tactic| walk_at "v")=>`(tactic| exact⟨by first|exact Or.inl rfl|exact Or.inr (Or.inl rfl)|exact Or.inr (Or.inr rfl),by decide,by decide⟩)
local macro_rules|`(tactic| walk_at "s")=>`(tactic| exact⟨rfl,rfl,rfl,by decide +kernel,rfl,by decide +kernel,by decide +kernel⟩)
local macro_rules|`(tactic| walk_at "f")=>`(tactic| first|exact .inl rfl|exact .inr rfl|assumption)
theorem jV{X:Cx}(i:Nat){x:Str}{pos:Pos}(hN:X.N[i]?=some x) (h:Vis X.env.scope x/\(x==("__debug__" : Str))=false/\(x==("__classdict__" : Str))=false):JE X (.Name x pos) (wVar i):=jv i hN h.1 h.2.1 h.2.2
set_option hygiene false in
local macro_rules|`(tactic| walk_at "E")=>`(tactic| first|((with_reducible show JE _ (.BoolOp .And (_::_::_) _) _);refine @jand _ _ _ _ _ _ _ ?_ ?_;walk_at "D"; walk_at "D")|((with_reducible show JE _ (.BoolOp _ [_] _) _);refine @jone _ _ _ _ _ ?_;walk_at "D")|((with_reducible show JE _ _ (wVar _));refine @jV _ _ _ _ rfl (by walk_at "v"))|((with_reducible show JE _ _ (wC (.int _)));refine @ji _ _ _ _)|((with_reducible show JE _ _ (w2 rIxTT _ _));refine @jix _ _ _ _ _ _ ?_ ?_ (fun _ _=>rfl);walk_at "D"; walk_at "D")|((with_reducible show JE _ _ (wTup _));refine @jtup _ _ _ _ _ ?_;walk_at "D")|((with_reducible show JE _ _ (w2 rAddT _ _));refine @jop _ _ _ _ _ _ _ _ b_add ?_ ?_;walk_at "D"; walk_at "D")|((with_reducible show JE _ _ (w2 rMulT _ _));refine @jop _ _ _ _ _ _ _ _ b_mul ?_ ?_;walk_at "D"; walk_at "D")|((with_reducible show JE _ _ (w2 rModT _ _));refine @jop _ _ _ _ _ _ _ _ b_mod ?_ ?_;walk_at "D"; walk_at "D")|((with_reducible show JE _ _ (w2 rDivT _ _));refine @jop _ _ _ _ _ _ _ _ b_div ?_ ?_;walk_at "D"; walk_at "D")|((with_reducible show JE _ _ (w2 rSubT _ _));refine @jop _ _ _ _ _ _ _ _ b_sub ?_ ?_;walk_at "D"; walk_at "D")|((with_reducible show JE _ _ (wCB rLenT _));refine @jblt _ _ _ _ _ _ _ _ _ bl_len rfl z_len boot_len ?_ (by decide) (by decide) (star1 rfl) (stars rfl);walk_at "D")|((with_reducible show JE _ _ (wLst _));refine @jlst _ _ _ _ ?_;walk_at "D")|((with_reducible show JE _ _ (wC (.str _)));refine @js _ _ _ _)|((with_reducible show JE _ _ (wCall Z06 _));refine @jcallC _ _ _ _ _ _ _ _ _ _ Z1a (hr.mono (by omega)) rfl ?_ (by decide) (star1 rfl) (stars rfl);walk_at "D")|((with_reducible show JE _ _ (wCall Z1H _));refine @jcallC _ _ _ _ _ _ _ _ _ _ Z6j (hr.mono (by omega)) rfl ?_ (by decide) (star1 rfl) (stars rfl);walk_at "D")|((with_reducible show JE _ _ (w2 rPowT _ _));refine @jop _ _ _ _ _ _ _ _ b_pow ?_ ?_;walk_at "D"; walk_at "D")|((with_reducible show JE _ _ (wC (.bl _)));refine @jb _ _ _ _)|((with_reducible show JE _ _ (wNeg _));refine @jneg _ _ _ _ ?_;walk_at "D")|((with_reducible show JE _ _ (wCall Z1e _));refine @jcallC _ _ _ _ _ _ _ _ _ _ Z3n (hr.mono (by omega)) rfl ?_ (by decide) (star1 rfl) (stars rfl);walk_at "D")|((with_reducible show JE _ _ (wC .non));refine @jn _ _ _)|((with_reducible show JE _ _ (wCall Z09 _));refine @jcallC _ _ _ _ _ _ _ _ _ _ Z0O (hr.mono (by omega)) rfl ?_ (by decide) (star1 rfl) (stars rfl);walk_at "D")|((with_reducible show JE _ _ (wCall Z0h _));refine @jcallC _ _ _ _ _ _ _ _ _ _ Z1Z (hr.mono (by omega)) rfl ?_ (by decide) (star1 rfl) (stars rfl);walk_at "D")|((with_reducible show JE _ _ (w2 rAddST _ _));refine @jop _ _ _ _ _ _ _ _ b_addS ?_ ?_;walk_at "D"; walk_at "D")|((with_reducible show JE _ _ (wCall Z16 _));refine @jcallC _ _ _ _ _ _ _ _ _ _ Z38 (hr.mono (by omega)) rfl ?_ (by decide) (star1 rfl) (stars rfl);walk_at "D")|((with_reducible show JE _ _ (wCall Z1x _));refine @jcallC _ _ _ _ _ _ _ _ _ _ Z3A (hr.mono (by omega)) rfl ?_ (by decide) (star1 rfl) (stars rfl);walk_at "D")|((with_reducible show JE _ _ (wCall Z0z _));refine @jcallC _ _ _ _ _ _ _ _ _ _ Z2p (hr.mono (by omega)) rfl ?_ (by decide) (star1 rfl) (stars rfl);walk_at "D")|((with_reducible show JE _ _ (wCall Z02 _));refine @jcallC _ _ _ _ _ _ _ _ _ _ Z0y (hr.mono (by omega)) rfl ?_ (by decide) (star1 rfl) (stars rfl);walk_at "D")|((with_reducible show JE _ _ (wCall Z0A _));refine @jcallC _ _ _ _ _ _ _ _ _ _ Z2q (hr.mono (by omega)) rfl ?_ (by decide) (star1 rfl) (stars rfl);walk_at "D")|((with_reducible show JE _ _ (wCall Z0P _));refine @jcallC _ _ _ _ _ _ _ _ _ _ Z29 (hr.mono (by omega)) rfl ?_ (by decide) (star1 rfl) (stars rfl);walk_at "D")|((with_reducible show JE _ _ (wCall Z0q _));refine @jcallC _ _ _ _ _ _ _ _ _ _ Z1s (hr.mono (by omega)) rfl ?_ (by decide) (star1 rfl) (stars rfl);walk_at "D")|((with_reducible show JE _ _ (wCall Z0a _));refine @jcallC _ _ _ _ _ _ _ _ _ _ Z1t (hr.mono (by omega)) rfl ?_ (by decide) (star1 rfl) (stars rfl);walk_at "D")|((with_reducible show JE _ _ (wCall Z0r _));refine @jcallC _ _ _ _ _ _ _ _ _ _ Z20 (hr.mono (by omega)) rfl ?_ (by decide) (star1 rfl) (stars rfl);walk_at "D")|((with_reducible show JE _ _ (w2 rCatLT _ _));refine @jop _ _ _ _ _ _ _ _ b_cat ?_ ?_;walk_at "D"; walk_at "D")|((with_reducible show JE _ _ (wCall Z1z _));refine @jcallC _ _ _ _ _ _ _ _ _ _ Z5b (hr.mono (by omega)) rfl ?_ (by decide) (star1 rfl) (stars rfl);walk_at "D")|((with_reducible show JE _ _ (wCall Z2n _));refine @jcallC _ _ _ _ _ _ _ _ _ _ Z4c (hr.mono (by omega)) rfl ?_ (by decide) (star1 rfl) (stars rfl);walk_at "D")|((with_reducible show JE _ _ (w2 rIxST _ _));refine @jixS _ _ _ _ _ _ ?_ ?_ (fun _ _=>rfl);walk_at "D"; walk_at "D")|((with_reducible show JE _ _ (w2 rMulST _ _));refine @jop _ _ _ _ _ _ _ _ b_mulS ?_ ?_;walk_at "D"; walk_at "D")|((with_reducible show JE _ _ (wCall Z2o _));refine @jcallC _ _ _ _ _ _ _ _ _ _ Z4d (hr.mono (by omega)) rfl ?_ (by decide) (star1 rfl) (stars rfl);walk_at "D")|((with_reducible show JE _ _ (wCmp cGtT _ _));refine @jcmp _ _ _ _ _ _ _ _ c_gt ?_ ?_ (nomark _);walk_at "D"; walk_at "D")|((with_reducible show JE _ _ (wCall Z0u _));refine @jcallC _ _ _ _ _ _ _ _ _ _ Z1J (hr.mono (by omega)) rfl ?_ (by decide) (star1 rfl) (stars rfl);walk_at "D")|((with_reducible show JE _ _ (wCall Z15 _));refine @jcallC _ _ _ _ _ _ _ _ _ _ Z3B (hr.mono (by omega)) rfl ?_ (by decide) (star1 rfl) (stars rfl);walk_at "D")|((with_reducible show JE _ _ (wCall Z0v _));refine @jcallC _ _ _ _ _ _ _ _ _ _ Z1K (hr.mono (by omega)) rfl ?_ (by decide) (star1 rfl) (stars rfl);walk_at "D")|((with_reducible show JE _ _ (wCall Z14 _));refine @jcallC _ _ _ _ _ _ _ _ _ _ Z2P (hr.mono (by omega)) rfl ?_ (by decide) (star1 rfl) (stars rfl);walk_at "D")|((with_reducible show JE _ _ (wCall Z07 _));refine @jcallC _ _ _ _ _ _ _ _ _ _ Z2Q (hr.mono (by omega)) rfl ?_ (by decide) (star1 rfl) (stars rfl);walk_at "D")|((with_reducible show JE _ _ (wCall Z1T _));refine @jcallC _ _ _ _ _ _ _ _ _ _ Z3C (hr.mono (by omega)) rfl ?_ (by decide) (star1 rfl) (stars rfl);walk_at "D")|((with_reducible show JE _ _ (wCall Z0U _));refine @jcallC _ _ _ _ _ _ _ _ _ _ Z39 (hr.mono (by omega)) rfl ?_ (by decide) (star1 rfl) (stars rfl);walk_at "D")|((with_reducible show JE _ _ (wCall Z0e _));refine @jcallC _ _ _ _ _ _ _ _ _ _ Z2x (hr.mono (by omega)) rfl ?_ (by decide) (star1 rfl) (stars rfl);walk_at "D")|((with_reducible show JE _ _ (wCall Z3L _));refine @jcallC _ _ _ _ _ _ _ _ _ _ Z6J (hr.mono (by omega)) rfl ?_ (by decide) (star1 rfl) (stars rfl);walk_at "D")|((with_reducible show JE _ _ (wCall Z3M _));refine @jcallC _ _ _ _ _ _ _ _ _ _ Z6K (hr.mono (by omega)) rfl ?_ (by decide) (star1 rfl) (stars rfl);walk_at "D")|((with_reducible show JE _ _ (wCall Z34 _));refine @jcallC _ _ _ _ _ _ _ _ _ _ Z62 (hr.mono (by omega)) rfl ?_ (by decide) (star1 rfl) (stars rfl);walk_at "D")|((with_reducible show JE _ _ (wCall Z2G _));refine @jcallC _ _ _ _ _ _ _ _ _ _ Z5c (hr.mono (by omega)) rfl ?_ (by decide) (star1 rfl) (stars rfl);walk_at "D")|((with_reducible show JE _ _ (wCall Z36 _));refine @jcallC _ _ _ _ _ _ _ _ _ _ Z63 (hr.mono (by omega)) rfl ?_ (by decide) (star1 rfl) (stars rfl);walk_at "D")|((with_reducible show JE _ _ (wCall Z35 _));refine @jcallC _ _ _ _ _ _ _ _ _ _ Z64 (hr.mono (by omega)) rfl ?_ (by decide) (star1 rfl) (stars rfl);walk_at "D")|((with_reducible show JE _ _ (wIsi .int _));refine @jisi _ _ _ _ .int _ _ _ ?_ rfl z_isinstance rfl z_int boot_int (by decide) (by decide) (star1 rfl) (star1 rfl) (stars rfl);walk_at "D")|((with_reducible show JE _ _ (wNotV _));refine @jnot _ _ _ _ ?_;walk_at "D")|((with_reducible show JE _ _ (wIsi .bool _));refine @jisi _ _ _ _ .bool _ _ _ ?_ rfl z_isinstance rfl z_bool boot_bool (by decide) (by decide) (star1 rfl) (star1 rfl) (stars rfl);walk_at "D")|((with_reducible show JE _ _ (wIsi .str _));refine @jisi _ _ _ _ .str _ _ _ ?_ rfl z_isinstance rfl z_str boot_str (by decide) (by decide) (star1 rfl) (star1 rfl) (stars rfl);walk_at "D")|((with_reducible show JE _ _ (wCB rAbsT _));refine @jblt _ _ _ _ _ _ _ _ _ bl_abs rfl z_abs boot_abs ?_ (by decide) (by decide) (star1 rfl) (stars rfl);walk_at "D")|((with_reducible show JE _ _ (wCall Z0l _));refine @jcallC _ _ _ _ _ _ _ _ _ _ Z1P (hr.mono (by omega)) rfl ?_ (by decide) (star1 rfl) (stars rfl);walk_at "D")|((with_reducible show JE _ _ (wCall Z0Y _));refine @jcallC _ _ _ _ _ _ _ _ _ _ Z31 (hr.mono (by omega)) rfl ?_ (by decide) (star1 rfl) (stars rfl);walk_at "D")|((with_reducible show JE _ _ (wCall Z0d _));refine @jcallC _ _ _ _ _ _ _ _ _ _ Z1I (hr.mono (by omega)) rfl ?_ (by decide) (star1 rfl) (stars rfl);walk_at "D")|((with_reducible show JE _ _ (wCall Z1v _));refine @jcallC _ _ _ _ _ _ _ _ _ _ Z3D (hr.mono (by omega)) rfl ?_ (by decide) (star1 rfl) (stars rfl);walk_at "D")|((with_reducible show JE _ _ (wChain cLeT cLeT _ _ _));refine @jchain _ _ _ _ _ _ _ _ _ _ _ _ c_le c_le ?_ ?_ ?_ (by with_unfolding_all rfl);walk_at "D"; walk_at "D"; walk_at "D")|((with_reducible show JE _ _ (wCall Z1g _));refine @jcallC _ _ _ _ _ _ _ _ _ _ Z3o (hr.mono (by omega)) rfl ?_ (by decide) (star1 rfl) (stars rfl);walk_at "D")|((with_reducible show JE _ _ (wCmp cLtT _ _));refine @jcmp _ _ _ _ _ _ _ _ c_lt ?_ ?_ (nomark _);walk_at "D"; walk_at "D")|((with_reducible show JE _ _ (wCall Z0D _));refine @jcallC _ _ _ _ _ _ _ _ _ _ Z2y (hr.mono (by omega)) rfl ?_ (by decide) (star1 rfl) (stars rfl);walk_at "D")|((with_reducible show JE _ _ (wCall Z1w _));refine @jcallC _ _ _ _ _ _ _ _ _ _ Z3E (hr.mono (by omega)) rfl ?_ (by decide) (star1 rfl) (stars rfl);walk_at "D")|((with_reducible show JE _ _ (wCall Z0n _));refine @jcallC _ _ _ _ _ _ _ _ _ _ Z2R (hr.mono (by omega)) rfl ?_ (by decide) (star1 rfl) (stars rfl);walk_at "D")|((with_reducible show JE _ _ (wCall Z1Q _));refine @jcallC _ _ _ _ _ _ _ _ _ _ Z40 (hr.mono (by omega)) rfl ?_ (by decide) (star1 rfl) (stars rfl);walk_at "D")|((with_reducible show JE _ _ (wCall Z2F _));refine @jcallC _ _ _ _ _ _ _ _ _ _ Z5d (hr.mono (by omega)) rfl ?_ (by decide) (star1 rfl) (stars rfl);walk_at "D")|((with_reducible show JE _ _ (wCall Z1f _));refine @jcallC _ _ _ _ _ _ _ _ _ _ Z3p (hr.mono (by omega)) rfl ?_ (by decide) (star1 rfl) (stars rfl);walk_at "D")|((with_reducible show JE _ _ (wCall Z0E _));refine @jcallC _ _ _ _ _ _ _ _ _ _ Z2z (hr.mono (by omega)) rfl ?_ (by decide) (star1 rfl) (stars rfl);walk_at "D")|((with_reducible show JE _ _ (wCall Z2H _));refine @jcallC _ _ _ _ _ _ _ _ _ _ Z5e (hr.mono (by omega)) rfl ?_ (by decide) (star1 rfl) (stars rfl);walk_at "D")|((with_reducible show JE _ _ (wCall Z26 _));refine @jcallC _ _ _ _ _ _ _ _ _ _ Z4w (hr.mono (by omega)) rfl ?_ (by decide) (star1 rfl) (stars rfl);walk_at "D")|((with_reducible show JE _ _ (wCmp cInT _ _));refine @jcmp _ _ _ _ _ _ _ _ c_in ?_ ?_ rfl;walk_at "D"; walk_at "D")|((with_reducible show JE _ _ (wIfE _ _ _));refine @jif _ _ _ _ _ _ _ _ ?_ ?_ ?_;walk_at "D"; walk_at "D"; walk_at "D")|((with_reducible show JE _ _ (wCall Z0F _));refine @jcallC _ _ _ _ _ _ _ _ _ _ Z2A (hr.mono (by omega)) rfl ?_ (by decide) (star1 rfl) (stars rfl);walk_at "D")|((with_reducible show JE _ _ (wCall Z0i _));refine @jcallC _ _ _ _ _ _ _ _ _ _ Z1A (hr.mono (by omega)) rfl ?_ (by decide) (star1 rfl) (stars rfl);walk_at "D")|((with_reducible show JE _ _ (wCall Z10 _));refine @jcallC _ _ _ _ _ _ _ _ _ _ Z32 (hr.mono (by omega)) rfl ?_ (by decide) (star1 rfl) (stars rfl);walk_at "D")|((with_reducible show JE _ _ (wCall Z0w _));refine @jcallC _ _ _ _ _ _ _ _ _ _ Z2a (hr.mono (by omega)) rfl ?_ (by decide) (star1 rfl) (stars rfl);walk_at "D")|((with_reducible show JE _ _ (wCall Z1i _));refine @jcallC _ _ _ _ _ _ _ _ _ _ Z3q (hr.mono (by omega)) rfl ?_ (by decide) (star1 rfl) (stars rfl);walk_at "D")|((with_reducible show JE _ _ (wCall Z27 _));refine @jcallC _ _ _ _ _ _ _ _ _ _ Z5f (hr.mono (by omega)) rfl ?_ (by decide) (star1 rfl) (stars rfl);walk_at "D")|((with_reducible show JE _ _ (wCB rSortLT _));refine @jblt _ _ _ _ _ _ _ _ _ (bl_sortL hr) rfl z_sorted boot_sorted ?_ (by decide) (by decide) (star1 rfl) (stars rfl);walk_at "D")|((with_reducible show JE _ _ (wCall Z1j _));refine @jcallC _ _ _ _ _ _ _ _ _ _ Z3a (hr.mono (by omega)) rfl ?_ (by decide) (star1 rfl) (stars rfl);walk_at "D")|((with_reducible show JE _ _ (wCall Z2I _));refine @jcallC _ _ _ _ _ _ _ _ _ _ Z5g (hr.mono (by omega)) rfl ?_ (by decide) (star1 rfl) (stars rfl);walk_at "D")|((with_reducible show JE _ _ (wCmp cEqT _ _));refine @jcmp _ _ _ _ _ _ _ _ (c_eq hr) ?_ ?_ (nomark _);walk_at "D"; walk_at "D")|((with_reducible show JE _ _ (wCall Z28 _));refine @jcallC _ _ _ _ _ _ _ _ _ _ Z5h (hr.mono (by omega)) rfl ?_ (by decide) (star1 rfl) (stars rfl);walk_at "D")|((with_reducible show JE _ _ Z0Z);unfold Z0Z;walk_at "D")|((with_reducible show JE _ _ Z1d);unfold Z1d;walk_at "D")|((with_reducible show JE _ _ Z1h);unfold Z1h;walk_at "D")|((with_reducible show JE _ _ Z1N);unfold Z1N;walk_at "D")|((with_reducible show JE _ _ Z1O);unfold Z1O;walk_at "D")|((with_reducible show JE _ _ Z05);unfold Z05;walk_at "D")|((with_reducible show JE _ _ Z0x);unfold Z0x;walk_at "D")|((with_reducible show JE _ _ Z0c);unfold Z0c;walk_at "D")|((with_reducible show JE _ _ Z1r);unfold Z1r;walk_at "D"))
set_option hygiene false in
local macro_rules|`(tactic| walk_at "A")=>`(tactic| first|((with_reducible show JA _ _ (aCons _ _));refine @ja _ _ _ _ _ ?_ ?_ (star1 rfl);walk_at "D"; walk_at "D")|((with_reducible show JA _ _ aNil);refine @ja0 _))
set_option hygiene false in
local macro_rules|`(tactic| walk_at "S")=>`(tactic| first|((with_reducible show JS _ _ (sSet _ _));refine @jset _ _ _ _ _ _ _ nd rfl (by walk_at "l") ?_ (by rfl) (by walk_at "f");walk_at "D")|((with_reducible show JS _ _ (sRet _));refine @jret _ _ _ _ ?_;walk_at "D")|((with_reducible show JS _ _ (sIf _ _ _));refine @jsif _ _ _ _ _ _ _ _ ?_ ?_ ?_;walk_at "D"; walk_at "D"; walk_at "D")|((with_reducible show JS _ _ (sOwn _ _));refine @jown _ _ _ _ _ _ _ _ nd rfl (by walk_at "l") ?_ (by rfl) (by walk_at "f");walk_at "D")|((with_reducible show JS _ _ (sAsg _ _));refine @jasg _ _ _ _ _ _ ?_ ?_ (by rfl) (by rfl) (by rfl);walk_at "D"; walk_at "D")|((with_reducible show JS _ _ (sFor _ _ _));refine @jfor _ _ _ _ _ _ _ _ PassesOwn.never rfl ?_ ?_ ?_ (fun _=>rfl);walk_at "D"; walk_at "D"; walk_at "D")|((with_reducible show JS _ _ (sPar _ _ _));refine @jpar _ _ _ _ _ _ _ _ _ _ _ _ _ _ _ rfl nd rfl rfl (by decide) rfl rfl ?_ rfl (by rfl);walk_at "D")|((with_reducible show JS _ _ Z08);unfold Z08;walk_at "D")|((with_reducible show JS _ _ Z0X);unfold Z0X;walk_at "D")|((with_reducible show JS _ _ Z03);unfold Z03;walk_at "D")|((with_reducible show JS _ _ Z0b);unfold Z0b;walk_at "D")|((with_reducible show JS _ _ Z0s);unfold Z0s;walk_at "D")|((with_reducible show JS _ _ Z0Q);unfold Z0Q;walk_at "D")|((with_reducible show JS _ _ Z1R);unfold Z1R;walk_at "D")|((with_reducible show JS _ _ Z1y);unfold Z1y;walk_at "D")|((with_reducible show JS _ _ Z17);unfold Z17;walk_at "D")|((with_reducible show JS _ _ Z18);unfold Z18;walk_at "D")|((with_reducible show JS _ _ Z01);unfold Z01;walk_at "D")|((with_reducible show JS _ _ Z00);unfold Z00;walk_at "D")|((with_reducible show JS _ _ Z04);unfold Z04;walk_at "D")|((with_reducible show JS _ _ Z0R);unfold Z0R;walk_at "D")|((with_reducible show JS _ _ Z0S);unfold Z0S;walk_at "D")|((with_reducible show JS _ _ Z1o);unfold Z1o;walk_at "D")|((with_reducible show JS _ _ Z0T);unfold Z0T;walk_at "D")|((with_reducible show JS _ _ Z0M);unfold Z0M;walk_at "D")|((with_reducible show JS _ _ Z1p);unfold Z1p;walk_at "D")|((with_reducible show JS _ _ Z0B);unfold Z0B;walk_at "D")|((with_reducible show JS _ _ Z0N);unfold Z0N;walk_at "D")|((with_reducible show JS _ _ Z0C);unfold Z0C;walk_at "D"))
set_option hygiene false in
local macro_rules|`(tactic| walk_at "B")=>`(tactic| first|((with_reducible show JSs _ _ Z08);unfold Z08;walk_at "D")|((with_reducible show JSs _ _ Z0X);unfold Z0X;walk_at "D")|((with_reducible show JSs _ _ Z03);unfold Z03;walk_at "D")|((with_reducible show JSs _ _ Z0b);unfold Z0b;walk_at "D")|((with_reducible show JSs _ _ Z0s);unfold Z0s;walk_at "D")|((with_reducible show JSs _ _ Z0Q);unfold Z0Q;walk_at "D")|((with_reducible show JSs _ _ Z21);unfold Z21;walk_at "D")|((with_reducible show JSs _ _ Z1R);unfold Z1R;walk_at "D")|((with_reducible show JSs _ _ Z1y);unfold Z1y;walk_at "D")|((with_reducible show JSs _ _ Z22);unfold Z22;walk_at "D")|((with_reducible show JSs _ _ Z23);unfold Z23;walk_at "D")|((with_reducible show JSs _ _ Z1S);unfold Z1S;walk_at "D")|((with_reducible show JSs _ _ Z17);unfold Z17;walk_at "D")|((with_reducible show JSs _ _ Z18);unfold Z18;walk_at "D")|((with_reducible show JSs _ _ Z01);unfold Z01;walk_at "D")|((with_reducible show JSs _ _ Z00);unfold Z00;walk_at "D")|((with_reducible show JSs _ _ Z04);unfold Z04;walk_at "D")|((with_reducible show JSs _ _ Z0J);unfold Z0J;walk_at "D")|((with_reducible show JSs _ _ Z0R);unfold Z0R;walk_at "D")|((with_reducible show JSs _ _ Z0S);unfold Z0S;walk_at "D")|((with_reducible show JSs _ _ Z1o);unfold Z1o;walk_at "D")|((with_reducible show JSs _ _ Z0T);unfold Z0T;walk_at "D")|((with_reducible show JSs _ _ Z0M);unfold Z0M;walk_at "D")|((with_reducible show JSs _ _ Z1p);unfold Z1p;walk_at "D")|((with_reducible show JSs _ _ Z19);unfold Z19;walk_at "D")|((with_reducible show JSs _ _ Z1q);unfold Z1q;walk_at "D")|((with_reducible show JSs _ _ Z0B);unfold Z0B;walk_at "D")|((with_reducible show JSs _ _ Z0N);unfold Z0N;walk_at "D")|((with_reducible show JSs _ _ Z0C);unfold Z0C;walk_at "D")|((with_reducible show JSs _ [_] _);refine @js1 _ _ _ ?_;walk_at "D")|((with_reducible show JSs _ _ (sSeq _ _));refine @jsc _ _ _ _ _ ?_ ?_;walk_at "D"; walk_at "D")|((with_reducible show JSs _ [] _);refine @js0 _))
set_option hygiene false in
local macro_rules|`(tactic| walk_at "T")=>`(tactic| first|((with_reducible show JT _ (.BoolOp _ _ _) _);refine @jw _ _ _ ?_;walk_at "D")|((with_reducible show JT _ _ (tVal _));refine @tval _ _ _ ?_ (fun _=>rfl);walk_at "D")|((with_reducible show JT _ _ (tCmpT cEqT _ _));refine @tcmp _ _ _ _ _ _ _ _ (c_eq hr) ?_ ?_ (nomark _);walk_at "D"; walk_at "D")|((with_reducible show JT _ _ (tCmpT cNeT _ _));refine @tcmp _ _ _ _ _ _ _ _ (c_ne hr) ?_ ?_ (nomark _);walk_at "D"; walk_at "D")|((with_reducible show JT _ _ (tNotT _));refine @tnot _ _ _ _ ?_;walk_at "D")|((with_reducible show JT _ _ (tCmpT cLtT _ _));refine @tcmp _ _ _ _ _ _ _ _ c_lt ?_ ?_ (nomark _);walk_at "D"; walk_at "D")|((with_reducible show JT _ _ (tCmpT cGtT _ _));refine @tcmp _ _ _ _ _ _ _ _ c_gt ?_ ?_ (nomark _);walk_at "D"; walk_at "D")|((with_reducible show JT _ _ (tTruT _));refine @ttru _ _ _ ?_ (fun _=>rfl);walk_at "D")|((with_reducible show JT _ _ (tCmpT cGeT _ _));refine @tcmp _ _ _ _ _ _ _ _ c_ge ?_ ?_ (nomark _);walk_at "D"; walk_at "D")|((with_reducible show JT _ _ (tCmpT cIsN _ _));refine @tcmp _ _ _ _ _ _ _ _ c_is ?_ ?_ (nomark _);walk_at "D"; walk_at "D")|((with_reducible show JT _ _ (tCmpT cNotInT _ _));refine @tcmp _ _ _ _ _ _ _ _ c_notin ?_ ?_ rfl;walk_at "D"; walk_at "D")|((with_reducible show JT _ _ (tCmpT cNotN _ _));refine @tcmp _ _ _ _ _ _ _ _ c_isnot ?_ ?_ (nomark _);walk_at "D"; walk_at "D")|((with_reducible show JT _ _ (tCmpT cInT _ _));refine @tcmp _ _ _ _ _ _ _ _ c_in ?_ ?_ rfl;walk_at "D"; walk_at "D")|((with_reducible show JT _ _ (tCmpT cLeT _ _));refine @tcmp _ _ _ _ _ _ _ _ c_le ?_ ?_ (nomark _);walk_at "D"; walk_at "D"))
set_option hygiene false in
local macro_rules|`(tactic| walk_at "W")=>`(tactic| first|((with_reducible show JW _ (.BoolOp .Or (_::_::_) _) _);refine @tor _ _ _ _ _ _ _ ?_ ?_;walk_at "D"; walk_at "D")|((with_reducible show JW _ (.BoolOp .Or [_] _) _);refine @tor1 _ _ _ _ ?_;walk_at "D")|((with_reducible show JW _ (.BoolOp .And (_::_::_) _) _);refine @tand _ _ _ _ _ _ _ ?_ ?_;walk_at "D"; walk_at "D")|((with_reducible show JW _ (.BoolOp .And [_] _) _);refine @tand1 _ _ _ _ ?_;walk_at "D"))
set_option hygiene false in
local macro_rules|`(tactic| walk_at "G")=>`(tactic| first|((with_reducible show JG _ _ (gN _));refine @jg _ _ _ _ nd rfl (by walk_at "l") (by walk_at "f"))|((with_reducible show JG _ _ (gT _ _));refine @jgt _ _ _ _ _ _ rfl ?_ (by rfl) (by rfl);walk_at "D"))
set_option hygiene false in
local macro_rules|`(tactic| walk_at "H")=>`(tactic| first|((with_reducible show JGs _ _ (gsC _ _));refine @jgsc _ _ _ _ _ ?_ ?_ (by rfl);walk_at "D"; walk_at "D")|((with_reducible show JGs _ _ gs0);refine @jgs0 _))
set_option hygiene false in
local macro_rules|`(tactic| walk_at "I")=>`(tactic| first|((with_reducible show JI _ _ _ (iSeq _));refine @jiSeq _ _ _ _ ?_;walk_at "D")|((with_reducible show JI _ _ _ (iRange1 _));refine @jiRange1 _ _ _ _ _ _ rfl z_range ?_ (by rfl);walk_at "D")|((with_reducible show JI _ _ _ (iEnum _));refine @jiEnum _ _ _ _ _ _ _ _ rfl z_enumerate ?_ (by rfl);walk_at "D")|((with_reducible show JI _ _ _ (iRange2 _));refine @jiRange2 _ _ _ _ _ _ _ rfl z_range ?_ (by rfl) (by rfl);walk_at "D"))
local macro_rules|`(tactic| walk_at "l")=>`(tactic| first|exact Or.inl rfl|exact Or.inr rfl)
local macro_rules|`(tactic| walk_at "D")=>`(tactic| first|((with_reducible show JE _ _ _);walk_at "E")|((with_reducible show JA _ _ _);walk_at "A")|((with_reducible show JS _ _ _);walk_at "S")|((with_reducible show JSs _ _ _);walk_at "B")|((with_reducible show JT _ _ _);walk_at "T")|((with_reducible show JW _ _ _);walk_at "W")|((with_reducible show JG _ _ _);walk_at "G")|((with_reducible show JGs _ _ _);walk_at "H")|((with_reducible show JI _ _ _ _);walk_at "I"))
def top(i:Nat):Stmt:=PySem.Challenge.pw_dialyard_k64_whole_dials_and_their_paper.main.body.getD i (.Pass ⟨0,0,0,0⟩)
section
variable {P:Program} {w:World} {K:PySem.W.Frag} {mg:Str->Option Value} {base:Heap}
abbrev Z3b:Stmt:=top 47
theorem Z6k:FnScope ["_law_script", "_law_k", "_law_number"] ["_law_script", "_law_k"] (defScope Z3b):=by walk_at "s"
theorem Z7u{f:Addr}{fd:FuncData} (F:Fun K "_law_cell" "_law_cell" Z3b f fd) (m:mg "_law_cell" = some (.ref f)) (z_len:mg "len" = none):Cal P w K mg base 1 "_law_cell" ["_law_script", "_law_k"] Z2n :=
 .mk F m (F.binds fun _ _ _ _ _ _ us hl=>args2 hl fun _ _=>rfl) (fnT (W:=Z4R) F Z6k Z6U (fun cdv A outer s H E hr=>by have nd:=Z6k.nd;unfold Z4R;walk_at "D") Z7k)
abbrev Z3c:Stmt:=top 48
theorem Z6l:FnScope ["_law_script", "_law_k", "_law_cell_here", "_law_mixed"] ["_law_script", "_law_k"] (defScope Z3c):=by walk_at "s"
theorem Z7v{f:Addr}{fd:FuncData} (F:Fun K "_law_wide" "_law_wide" Z3c f fd) (m:mg "_law_wide" = some (.ref f)) (Z4c:Cal P w K mg base 1 "_law_cell" ["_law_script", "_law_k"] Z2n) (z_len:mg "len" = none):Cal P w K mg base 2 "_law_wide" ["_law_script", "_law_k"] Z06 :=
 .mk F m (F.binds fun _ _ _ _ _ _ us hl=>args2 hl fun _ _=>rfl) (fnT (W:=Z4S) F Z6l Z6V (fun cdv A outer s H E hr=>by have nd:=Z6l.nd;unfold Z4S;walk_at "D") Z7l)
abbrev Z3d:Stmt:=top 57
theorem Z6m:FnScope ["_law_script", "_law_k", "_law_letters", "_law_pad", "_law_middle"] ["_law_script", "_law_k"] (defScope Z3d):=by walk_at "s"
theorem Z7w{f:Addr}{fd:FuncData} (F:Fun K "_law_name" "_law_name" Z3d f fd) (m:mg "_law_name" = some (.ref f)) (Z1a:Cal P w K mg base 2 "_law_wide" ["_law_script", "_law_k"] Z06):Cal P w K mg base 3 "_law_name" ["_law_script", "_law_k"] Z1e :=
 .mk F m (F.binds fun _ _ _ _ _ _ us hl=>args2 hl fun _ _=>rfl) (fnT (W:=Z4V) F Z6m Z70 (fun cdv A outer s H E hr=>by have nd:=Z6m.nd;unfold Z4V;walk_at "D") Z7q)
abbrev Z1U:Stmt:=top 63
theorem Z2J:FnScope ["_law_script", "_law_number", "_law_many", "_law_left", "_law_dials", "_law_k", "_law_sun_here", "_law_some", "_law_size", "_law_hours_here", "_law_low", "_law_plate"] ["_law_script"] (defScope Z1U):=by walk_at "s"
theorem Z7a{f:Addr}{fd:FuncData} (F:Fun K "_law_rowed" "_law_rowed" Z1U f fd) (m:mg "_law_rowed" = some (.ref f)) (Z1a:Cal P w K mg base 2 "_law_wide" ["_law_script", "_law_k"] Z06) (Z3n:Cal P w K mg base 3 "_law_name" ["_law_script", "_law_k"] Z1e) (z_range:mg "range" = none) (z_list:mg "list" = none) (z_len:mg "len" = none):Cal P w K mg base 4 "_law_rowed" ["_law_script"] Z2H :=
 .mk F m (F.binds fun _ _ _ _ _ _ us hl=>args1 hl fun _=>rfl) (fnT (W:=Z58) F Z2J Z6F (fun cdv A outer s H E hr=>have nd:=Z2J.nd;
  (@jsc _ _ _ _ _ (by walk_at "D") (@jsc _ _ _ _ _ (by walk_at "D") (@jsc _ _ _ _ _ (by walk_at "D") (@jsc _ _ _ _ _ (@jsetF _ _ _ _ (3) _ _ Z2J.nd rfl (Or.inl rfl) (@jlistR _ _ _ _ _ _ _ rfl rfl z_range rfl z_list (by walk_at "D") (star1 rfl) (star1 rfl) (stars rfl)) (by rfl) (by walk_at "f")) (@jsc _ _ _ _ _ (by walk_at "D") (@jsc _ _ _ _ _ (@jfor _ _ _ _ _ _ _ _ PassesOwn.never rfl (by walk_at "D") (by walk_at "D") (@jsc _ _ _ _ _ (@jp_set _ _ _ _ (10) _ _ Z2J.nd rfl (Or.inl rfl) (@jp_pop _ _ _ _ _ _ _ _ (pv 3) (@jop _ _ _ _ _ _ _ _ b_mod (by walk_at "D") (@jlenO _ _ (3) _ _ _ (pv 3) rfl z_len (by rfl) (star1 rfl) (stars rfl))) (by rfl) (by rfl) (by rfl) (by rfl) (by rfl)) (by rfl) (by walk_at "f")) (@jsc _ _ _ _ _ (by walk_at "D") (@jsc _ _ _ _ _ (by walk_at "D") (@js1 _ _ _ (@japp _ _ _ _ _ _ _ _ _ (pv 4) (by walk_at "D") (by rfl) (by rfl) (by rfl) (by rfl) (by rfl) (by rfl)))))) (fun _=>rfl)) (@jsc _ _ _ _ _ (@jsetc _ _ _ _ _ _ _ (defScope Z1U) (["_law_j"]) (["_law_script" , "_law_number" , "_law_many" , "_law_left" , "_law_dials" , "_law_k" , "_law_sun_here" , "_law_some" , "_law_size" , "_law_hours_here" , "_law_low" , "_law_plate"]) ([]) _ _ _ _ (6) _ _ _ Z2J.nd rfl (Or.inl rfl) rfl rfl rfl (by walk_at "D") rfl rfl (by decide +kernel) (by decide +kernel) (by decide +kernel) (by decide +kernel) (fun cl C s3 H2 ex=>(@jg _ _ (0) _ (show List.Nodup (["_law_j"]:List Str) from by decide +kernel) rfl (Or.inl rfl) (by walk_at "f"))) (fun cl C s3 H2 ex=>(@jts0 _)) (fun cl C s3 H2 ex=>(by walk_at "D")) (fun _=>rfl) (by rfl) (by walk_at "f")) (@jsc _ _ _ _ _ (@jsetcO _ _ _ _ _ _ _ (defScope Z1U) (["_law_row"]) (["_law_script" , "_law_number" , "_law_many" , "_law_left" , "_law_dials" , "_law_k" , "_law_sun_here" , "_law_some" , "_law_size" , "_law_hours_here" , "_law_low" , "_law_plate"]) ([]) _ _ _ _ (7) _ _ _ Z2J.nd rfl (Or.inl rfl) rfl rfl rfl (by walk_at "D") rfl rfl (by decide +kernel) (by decide +kernel) (by decide +kernel) (by decide +kernel) (fun cl C s3 H2 ex=>(@jg _ _ (0) _ (show List.Nodup (["_law_row"]:List Str) from by decide +kernel) rfl (Or.inl rfl) (by walk_at "f"))) (fun cl C s3 H2 ex=>(@jts0 _)) (fun cl C s3 H2 ex=>(by walk_at "D")) (fun _=>rfl) (by rfl) (by walk_at "f")) (@jsc _ _ _ _ _ (by walk_at "D") (@jsc _ _ _ _ _ (by walk_at "D") (@jsc _ _ _ _ _ (by walk_at "D") (@jsc _ _ _ _ _ (@jfor _ _ _ _ _ _ _ _ PassesOwn.never rfl (by walk_at "D") (by walk_at "D") (@jsc _ _ _ _ _ (@jp_app _ _ _ _ _ _ _ _ _ (pv 9) (@jp_pop _ _ _ _ _ _ _ _ (pv 7) (@jop _ _ _ _ _ _ _ _ b_mod (by walk_at "D") (@jlenO _ _ (7) _ _ _ (pv 7) rfl z_len (by rfl) (star1 rfl) (stars rfl))) (by rfl) (by rfl) (by rfl) (by rfl) (by rfl)) (by rfl) (by rfl) (by rfl) (by rfl) (by rfl) (by rfl)) (@js1 _ _ _ (by walk_at "D"))) (fun _=>rfl)) (@jfrz _ _ 4 _ (@jfrz _ _ 9 _ (@js1 _ _ _ (by walk_at "D"))))))))))))))))) Z77)
abbrev Z3e:Stmt:=top 59
theorem Z5i:FnScope ["_law_script", "_law_most_dials", "_law_most_fences", "_law_most_hours", "_law_shape", "_law_many", "_law_left", "_law_number", "_law_sun_here", "_law_k", "_law_dials", "_law_fences", "_law_low", "_law_wide_here", "_law_plate", "_law_spot", "_law_high"] ["_law_script", "_law_most_dials", "_law_most_fences", "_law_most_hours"] (defScope Z3e):=by walk_at "s"
theorem Z7x{f:Addr}{fd:FuncData} (F:Fun K "_law_flat" "_law_flat" Z3e f fd) (m:mg "_law_flat" = some (.ref f)) (Z1a:Cal P w K mg base 2 "_law_wide" ["_law_script", "_law_k"] Z06) (Z3n:Cal P w K mg base 3 "_law_name" ["_law_script", "_law_k"] Z1e) (z_range:mg "range" = none) (z_list:mg "list" = none) (z_len:mg "len" = none):Cal P w K mg base 4 "_law_flat" ["_law_script", "_law_most_dials", "_law_most_fences", "_law_most_hours"] Z36 :=
 .mk F m (F.binds fun _ _ _ _ _ _ us hl=>args4 hl fun _ _ _ _=>rfl) (fnT (W:=Z61) F Z5i Z72 (fun cdv A outer s H E hr=>have nd:=Z5i.nd;
  (@jsc _ _ _ _ _ (by walk_at "D") (@jsc _ _ _ _ _ (by walk_at "D") (@jsc _ _ _ _ _ (@jsetF _ _ _ _ (6) _ _ Z5i.nd rfl (Or.inl rfl) (@jlistR _ _ _ _ _ _ _ rfl rfl z_range rfl z_list (by walk_at "D") (star1 rfl) (star1 rfl) (stars rfl)) (by rfl) (by walk_at "f")) (@jsc _ _ _ _ _ (by walk_at "D") (@jsc _ _ _ _ _ (by walk_at "D") (@jsc _ _ _ _ _ (@jfor _ _ _ _ _ _ _ _ PassesOwn.never rfl (by walk_at "D") (by walk_at "D") (@jsc _ _ _ _ _ (@jp_app _ _ _ _ _ _ _ _ _ (pv 8) (@jp_tup _ _ _ _ _ (@jpa _ _ _ _ _ (@jp_e _ _ _ (by walk_at "D")) (@jpa _ _ _ _ _ (@jp_tup _ _ _ _ _ (@jpa _ _ _ _ _ (@jp_pop _ _ _ _ _ _ _ _ (pv 6) (@jop _ _ _ _ _ _ _ _ b_mod (by walk_at "D") (@jlenO _ _ (6) _ _ _ (pv 6) rfl z_len (by rfl) (star1 rfl) (stars rfl))) (by rfl) (by rfl) (by rfl) (by rfl) (by rfl)) (@jpa _ _ _ _ _ (@jp_e _ _ _ (@ji _ _ _ _)) (@jpa _ _ _ _ _ (@jp_e _ _ _ (@ji _ _ _ _)) (@jpa0 _) (star1 rfl)) (star1 rfl)) (star1 rfl))) (@jpa0 _) (star1 rfl)) (star1 rfl))) (by rfl) (by rfl) (by rfl) (by rfl) (by rfl) (by rfl)) (@js1 _ _ _ (by walk_at "D"))) (fun _=>rfl)) (@jsc _ _ _ _ _ (by walk_at "D") (@jsc _ _ _ _ _ (@jfor _ _ _ _ _ _ _ _ PassesOwn.never rfl (by walk_at "D") (by walk_at "D") (@jsc _ _ _ _ _ (by walk_at "D") (@jsc _ _ _ _ _ (by walk_at "D") (@jsc _ _ _ _ _ (by walk_at "D") (@jsc _ _ _ _ _ (by walk_at "D") (@js1 _ _ _ (@japp _ _ _ _ _ _ _ _ _ (pv 10) (by walk_at "D") (by rfl) (by rfl) (by rfl) (by rfl) (by rfl) (by rfl))))))) (fun _=>rfl)) (@jsc _ _ _ _ _ (by walk_at "D") (@jfrz _ _ 10 _ (@jsc _ _ _ _ _ (@jfor _ _ _ _ _ _ _ _ PassesOwn.never rfl (by walk_at "D") (by walk_at "D") (@jsc _ _ _ _ _ (by walk_at "D") (@jsc _ _ _ _ _ (by walk_at "D") (@jsc _ _ _ _ _ (by walk_at "D") (@jsc _ _ _ _ _ (by walk_at "D") (@jsc _ _ _ _ _ (by walk_at "D") (@jsc _ _ _ _ _ (by walk_at "D") (@js1 _ _ _ (@japp _ _ _ _ _ _ _ _ _ (pv 11) (by walk_at "D") (by rfl) (by rfl) (by rfl) (by rfl) (by rfl) (by rfl))))))))) (fun _=>rfl)) (@jfrz _ _ 11 _ (@jfrz _ _ 8 _ (@js1 _ _ _ (by walk_at "D")))))))))))))))) Z7s)
abbrev Z3P:Stmt:=top 54
theorem Z6Q:FnScope ["_law_script", "_law_many", "_law_found", "_law_hour", "_law_k", "_law_number", "_law_high", "_law_direction"] ["_law_script", "_law_many"] (defScope Z3P):=by walk_at "s"
theorem Z7H{f:Addr}{fd:FuncData} (F:Fun K "_law_sun" "_law_sun" Z3P f fd) (m:mg "_law_sun" = some (.ref f)) (Z1a:Cal P w K mg base 2 "_law_wide" ["_law_script", "_law_k"] Z06) (z_range:mg "range" = none):Cal P w K mg base 3 "_law_sun" ["_law_script", "_law_many"] Z3M :=
 .mk F m (F.binds fun _ _ _ _ _ _ us hl=>args2 hl fun _ _=>rfl) (fnT (W:=Z6w) F Z6Q Z7o (fun cdv A outer s H E hr=>have nd:=Z6Q.nd;
  (@jsc _ _ _ _ _ (by walk_at "D") (@jsc _ _ _ _ _ (by walk_at "D") (@jsc _ _ _ _ _ (@jfor _ _ _ _ _ _ _ _ PassesOwn.never rfl (by walk_at "D") (by walk_at "D") (@jsc _ _ _ _ _ (by walk_at "D") (@jsc _ _ _ _ _ (by walk_at "D") (@jsc _ _ _ _ _ (by walk_at "D") (@jsc _ _ _ _ _ (by walk_at "D") (@jsc _ _ _ _ _ (@japp _ _ _ _ _ _ _ _ _ (pv 2) (by walk_at "D") (by rfl) (by rfl) (by rfl) (by rfl) (by rfl) (by rfl)) (@js1 _ _ _ (by walk_at "D"))))))) (fun _=>rfl)) (@jfrz _ _ 2 _ (@js1 _ _ _ (by walk_at "D"))))))) Z7E)
abbrev Z2b:Stmt:=top 49
theorem Z5j:FnScope ["_law_number", "_law_most", "_law_size"] ["_law_number", "_law_most"] (defScope Z2b):=by walk_at "s"
theorem Z6L{f:Addr}{fd:FuncData} (F:Fun K "_law_triple" "_law_triple" Z2b f fd) (m:mg "_law_triple" = some (.ref f)):Cal P w K mg base 1 "_law_triple" ["_law_number", "_law_most"] Z16 :=
 .mk F m (F.binds fun _ _ _ _ _ _ us hl=>args2 hl fun _ _=>rfl) (fnT (W:=Z3K) F Z5j Z6g (fun cdv A outer s H E hr=>by have nd:=Z5j.nd;unfold Z3K;walk_at "D") Z6u)
abbrev Z2K:Stmt:=top 50
theorem Z5J:FnScope ["_law_one", "_law_other", "_law_a", "_law_b", "_law_c", "_law_d", "_law_e", "_law_f"] ["_law_one", "_law_other"] (defScope Z2K):=by walk_at "s"
theorem Z7b{f:Addr}{fd:FuncData} (F:Fun K "_law_cross" "_law_cross" Z2K f fd) (m:mg "_law_cross" = some (.ref f)):Cal P w K mg base 1 "_law_cross" ["_law_one", "_law_other"] Z1x :=
 .mk F m (F.binds fun _ _ _ _ _ _ us hl=>args2 hl fun _ _=>rfl) (fnT (W:=Z45) F Z5J Z6v (fun cdv A outer s H E hr=>by have nd:=Z5J.nd;unfold Z45;walk_at "D") Z6W)
abbrev Z3f:Stmt:=top 53
theorem Z6n:FnScope ["_law_number", "_law_most", "_law_one", "_law_other"] ["_law_number", "_law_most"] (defScope Z3f):=by walk_at "s"
theorem Z7y{f:Addr}{fd:FuncData} (F:Fun K "_law_pair" "_law_pair" Z3f f fd) (m:mg "_law_pair" = some (.ref f)) (Z38:Cal P w K mg base 1 "_law_triple" ["_law_number", "_law_most"] Z16) (Z3A:Cal P w K mg base 1 "_law_cross" ["_law_one", "_law_other"] Z1x):Cal P w K mg base 2 "_law_pair" ["_law_number", "_law_most"] Z2o :=
 .mk F m (F.binds fun _ _ _ _ _ _ us hl=>args2 hl fun _ _=>rfl) (fnT (W:=Z4T) F Z6n Z6X (fun cdv A outer s H E hr=>by have nd:=Z6n.nd;unfold Z4T;walk_at "D") Z7n)
abbrev Z3Q:Stmt:=top 51
theorem Z6R:FnScope ["_law_one", "_law_other"] ["_law_one", "_law_other"] (defScope Z3Q):=by walk_at "s"
theorem Z7I{f:Addr}{fd:FuncData} (F:Fun K "_law_dot" "_law_dot" Z3Q f fd) (m:mg "_law_dot" = some (.ref f)):Cal P w K mg base 1 "_law_dot" ["_law_one", "_law_other"] Z3L :=
 .mk F m (F.binds fun _ _ _ _ _ _ us hl=>args2 hl fun _ _=>rfl) (fnT (W:=Z5Z) F Z6R Z7m (fun cdv A outer s H E hr=>by have nd:=Z6R.nd;unfold Z5Z;refine @js1 _ _ _ ?_;walk_at "D") Z7C)
abbrev Z4x:Stmt:=top 52
theorem Z7z:FnScope ["_law_one", "_law_other", "_law_many"] ["_law_one", "_law_other", "_law_many"] (defScope Z4x):=by walk_at "s"
theorem Z7M{f:Addr}{fd:FuncData} (F:Fun K "_law_on" "_law_on" Z4x f fd) (m:mg "_law_on" = some (.ref f)):Cal P w K mg base 1 "_law_on" ["_law_one", "_law_other", "_law_many"] Z1H :=
 .mk F m (F.binds fun _ _ _ _ _ _ us hl=>args3 hl fun _ _ _=>rfl) (fnT (W:=Z6P) F Z7z Z7D (fun cdv A outer s H E hr=>by have nd:=Z7z.nd;unfold Z6P;refine @js1 _ _ _ ?_;walk_at "D") Z7L)
abbrev Z3g:Stmt:=top 55
theorem Z6o:FnScope ["_law_number", "_law_sun_here", "_law_many", "_law_direction", "_law_ahead", "_law_corner", "_law_a", "_law_b", "_law_point", "_law_tip", "_law_one", "_law_two"] ["_law_number", "_law_sun_here"] (defScope Z3g):=by walk_at "s"
theorem Z7A{f:Addr}{fd:FuncData} (F:Fun K "_law_dial" "_law_dial" Z3g f fd) (m:mg "_law_dial" = some (.ref f)) (Z4d:Cal P w K mg base 2 "_law_pair" ["_law_number", "_law_most"] Z2o) (Z3A:Cal P w K mg base 1 "_law_cross" ["_law_one", "_law_other"] Z1x) (Z6J:Cal P w K mg base 1 "_law_dot" ["_law_one", "_law_other"] Z3L) (Z38:Cal P w K mg base 1 "_law_triple" ["_law_number", "_law_most"] Z16) (Z6j:Cal P w K mg base 1 "_law_on" ["_law_one", "_law_other", "_law_many"] Z1H) (z_len:mg "len" = none):Cal P w K mg base 3 "_law_dial" ["_law_number", "_law_sun_here"] Z34 :=
 .mk F m (F.binds fun _ _ _ _ _ _ us hl=>args2 hl fun _ _=>rfl) (fnT (W:=Z4U) F Z6o Z6Y (fun cdv A outer s H E hr=>by have nd:=Z6o.nd;unfold Z4U;walk_at "D") Z7p)
abbrev Z2L:Stmt:=top 56
theorem Z5K:FnScope ["_law_number", "_law_sun_here", "_law_dials", "_law_point", "_law_direction", "_law_many", "_law_met", "_law_i", "_law_j", "_law_corner", "_law_one", "_law_two"] ["_law_number", "_law_sun_here", "_law_dials"] (defScope Z2L):=by walk_at "s"
theorem Z7c{f:Addr}{fd:FuncData} (F:Fun K "_law_fence" "_law_fence" Z2L f fd) (m:mg "_law_fence" = some (.ref f)) (Z4d:Cal P w K mg base 2 "_law_pair" ["_law_number", "_law_most"] Z2o) (Z6j:Cal P w K mg base 1 "_law_on" ["_law_one", "_law_other", "_law_many"] Z1H) (z_len:mg "len" = none):Cal P w K mg base 3 "_law_fence" ["_law_number", "_law_sun_here", "_law_dials"] Z2G :=
 .mk F m (F.binds fun _ _ _ _ _ _ us hl=>args3 hl fun _ _ _=>rfl) (fnT (W:=Z46) F Z5K Z6x (fun cdv A outer s H E hr=>by have nd:=Z5K.nd;unfold Z46;walk_at "D") Z6Z)
abbrev Z2r:Stmt:=top 58
theorem Z4e:FnScope ["_law_script", "_law_most_dials", "_law_most_shuts", "_law_most_hours", "_law_shape", "_law_sun_here", "_law_dials", "_law_k", "_law_shuts", "_law_named", "_law_faces"] ["_law_script", "_law_most_dials", "_law_most_shuts", "_law_most_hours"] (defScope Z2r):=by walk_at "s"
theorem Z7B{f:Addr}{fd:FuncData} (F:Fun K "_law_yard" "_law_yard" Z2r f fd) (m:mg "_law_yard" = some (.ref f)) (Z1a:Cal P w K mg base 2 "_law_wide" ["_law_script", "_law_k"] Z06) (Z6K:Cal P w K mg base 3 "_law_sun" ["_law_script", "_law_many"] Z3M) (Z62:Cal P w K mg base 3 "_law_dial" ["_law_number", "_law_sun_here"] Z34) (Z5c:Cal P w K mg base 3 "_law_fence" ["_law_number", "_law_sun_here", "_law_dials"] Z2G) (Z3n:Cal P w K mg base 3 "_law_name" ["_law_script", "_law_k"] Z1e) (z_range:mg "range" = none) (z_len:mg "len" = none):Cal P w K mg base 4 "_law_yard" ["_law_script", "_law_most_dials", "_law_most_shuts", "_law_most_hours"] Z35 :=
 .mk F m (F.binds fun _ _ _ _ _ _ us hl=>args4 hl fun _ _ _ _=>rfl) (fnT (W:=Z60) F Z4e Z71 (fun cdv A outer s H E hr=>have nd:=Z4e.nd;
  (@jsc _ _ _ _ _ (by walk_at "D") (@jsc _ _ _ _ _ (by walk_at "D") (@jsc _ _ _ _ _ (by walk_at "D") (@jsc _ _ _ _ _ (@jfor _ _ _ _ _ _ _ _ PassesOwn.never rfl (by walk_at "D") (by walk_at "D") (@js1 _ _ _ (@japp _ _ _ _ _ _ _ _ _ (pv 6) (by walk_at "D") (by rfl) (by rfl) (by rfl) (by rfl) (by rfl) (by rfl))) (fun _=>rfl)) (@jsc _ _ _ _ _ (by walk_at "D") (@jfrz _ _ 6 _ (@jsc _ _ _ _ _ (@jfor _ _ _ _ _ _ _ _ PassesOwn.never rfl (by walk_at "D") (by walk_at "D") (@js1 _ _ _ (@japp _ _ _ _ _ _ _ _ _ (pv 8) (by walk_at "D") (by rfl) (by rfl) (by rfl) (by rfl) (by rfl) (by rfl))) (fun _=>rfl)) (@jfrz _ _ 8 _ (@jsc _ _ _ _ _ (@jsetc _ _ _ _ _ _ _ (defScope Z2r) (["_law_k"]) (["_law_script" , "_law_most_dials" , "_law_most_shuts" , "_law_most_hours" , "_law_shape" , "_law_sun_here" , "_law_dials" , "_law_k" , "_law_shuts" , "_law_named" , "_law_faces"]) ([("_law_script" , 0) , ("_law_shuts" , 8)]) _ _ _ _ (9) _ _ _ Z4e.nd rfl (Or.inl rfl) rfl rfl rfl (by walk_at "D") rfl rfl (by decide +kernel) (by decide +kernel) (by decide +kernel) (by decide +kernel) (fun cl C s3 H2 ex=>(@jg _ _ (0) _ (show List.Nodup (["_law_k" , "_law_script" , "_law_shuts"]:List Str) from by decide +kernel) rfl (Or.inl rfl) (by walk_at "f"))) (fun cl C s3 H2 ex=>(@jts0 _)) (fun cl C s3 H2 ex=>(by walk_at "D")) (fun _=>rfl) (by rfl) (by walk_at "f")) (@jsc _ _ _ _ _ (@jsetc _ _ _ _ _ _ _ (defScope Z2r) (["_law_k"]) (["_law_script" , "_law_most_dials" , "_law_most_shuts" , "_law_most_hours" , "_law_shape" , "_law_sun_here" , "_law_dials" , "_law_k" , "_law_shuts" , "_law_named" , "_law_faces"]) ([("_law_script" , 0) , ("_law_dials" , 6)]) _ _ _ _ (10) _ _ _ Z4e.nd rfl (Or.inl rfl) rfl rfl rfl (by walk_at "D") rfl rfl (by decide +kernel) (by decide +kernel) (by decide +kernel) (by decide +kernel) (fun cl C s3 H2 ex=>(@jg _ _ (0) _ (show List.Nodup (["_law_k" , "_law_script" , "_law_dials"]:List Str) from by decide +kernel) rfl (Or.inl rfl) (by walk_at "f"))) (fun cl C s3 H2 ex=>(@jts0 _)) (fun cl C s3 H2 ex=>(by walk_at "D")) (fun _=>rfl) (by rfl) (by walk_at "f")) (@js1 _ _ _ (by walk_at "D"))))))))))))) Z7r)
abbrev Z2c:Stmt:=top 60
theorem Z5k:FnScope ["_law_script", "_law_most_dials", "_law_most_fences", "_law_most_hours"] ["_law_script", "_law_most_dials", "_law_most_fences", "_law_most_hours"] (defScope Z2c):=by walk_at "s"
theorem Z6M{f:Addr}{fd:FuncData} (F:Fun K "_law_either" "_law_either" Z2c f fd) (m:mg "_law_either" = some (.ref f)) (Z4c:Cal P w K mg base 1 "_law_cell" ["_law_script", "_law_k"] Z2n) (Z63:Cal P w K mg base 4 "_law_flat" ["_law_script", "_law_most_dials", "_law_most_fences", "_law_most_hours"] Z36) (Z64:Cal P w K mg base 4 "_law_yard" ["_law_script", "_law_most_dials", "_law_most_shuts", "_law_most_hours"] Z35):Cal P w K mg base 5 "_law_either" ["_law_script", "_law_most_dials", "_law_most_fences", "_law_most_hours"] Z26 :=
 .mk F m (F.binds fun _ _ _ _ _ _ us hl=>args4 hl fun _ _ _ _=>rfl) (fnT (W:=Z3N) F Z5k Z6h (fun cdv A outer s H E hr=>by have nd:=Z5k.nd;unfold Z3N;walk_at "D") Z6y)
abbrev Z1B:Stmt:=top 6
theorem Z4f:FnScope ["thing"] ["thing"] (defScope Z1B):=by walk_at "s"
theorem Z65{f:Addr}{fd:FuncData} (F:Fun K "is_whole" "is_whole" Z1B f fd) (m:mg "is_whole" = some (.ref f)) (z_isinstance:mg "isinstance" = none) (z_int:mg "int" = none) (z_bool:mg "bool" = none):Cal P w K mg base 1 "is_whole" ["thing"] Z0z :=
 .mk F m (F.binds fun _ _ _ _ _ _ us hl=>args1 hl fun _=>rfl) (fnT (W:=Z2T) F Z4f Z5s (fun cdv A outer s H E hr=>by have nd:=Z4f.nd;unfold Z2T;refine @js1 _ _ _ ?_;walk_at "D") Z5P)
abbrev Z0G:Stmt:=top 17
theorem Z3h:FnScope ["sun", "hour", "entry"] ["sun", "hour"] (defScope Z0G):=by walk_at "s"
theorem Z4y{f:Addr}{fd:FuncData} (F:Fun K "direction_at" "direction_at" Z0G f fd) (m:mg "direction_at" = some (.ref f)) (Z2p:Cal P w K mg base 1 "is_whole" ["thing"] Z0z):Cal P w K mg base 2 "direction_at" ["sun", "hour"] Z02 :=
 .mk F m (F.binds fun _ _ _ _ _ _ us hl=>args2 hl fun _ _=>rfl) (fnT (W:=Z2t) F Z3h Z42 (fun cdv A outer s H E hr=>have nd:=Z3h.nd;
  (@jsc _ _ _ _ _ (@jsif _ _ _ _ _ _ _ _ (by walk_at "D") (@js1 _ _ _ (@jfor _ _ _ _ _ _ _ _ PassesOwn.never rfl (by walk_at "D") (by walk_at "D") (@js1 _ _ _ (by walk_at "D")) (fun _=>rfl))) (@js0 _)) (@js1 _ _ _ (@jnever _ _)))) Z4s)
abbrev Z1V:Stmt:=top 36
theorem Z4G:FnScope ["yard", "name", "dial"] ["yard", "name"] (defScope Z1V):=by walk_at "s"
theorem Z6p{f:Addr}{fd:FuncData} (F:Fun K "dial_of" "dial_of" Z1V f fd) (m:mg "dial_of" = some (.ref f)) (z_isinstance:mg "isinstance" = none) (z_str:mg "str" = none):Cal P w K mg base 1 "dial_of" ["yard", "name"] Z1Q :=
 .mk F m (F.binds fun _ _ _ _ _ _ us hl=>args2 hl fun _ _=>rfl) (fnT (W:=Z3X) F Z4G Z5X (fun cdv A outer s H E hr=>have nd:=Z4G.nd;
  (@jsc _ _ _ _ _ (@jsif _ _ _ _ _ _ _ _ (by walk_at "D") (@js1 _ _ _ (@jfor _ _ _ _ _ _ _ _ PassesOwn.never rfl (by walk_at "D") (by walk_at "D") (@js1 _ _ _ (by walk_at "D")) (fun _=>rfl))) (@js0 _)) (@js1 _ _ _ (@jnever _ _)))) Z6e)
abbrev Z2M:Stmt:=top 18
theorem Z5L:FnScope ["sun", "hour"] ["sun", "hour"] (defScope Z2M):=by walk_at "s"
theorem Z7d{f:Addr}{fd:FuncData} (F:Fun K "is_up" "is_up" Z2M f fd) (m:mg "is_up" = some (.ref f)) (Z0y:Cal P w K mg base 2 "direction_at" ["sun", "hour"] Z02):Cal P w K mg base 3 "is_up" ["sun", "hour"] Z2F :=
 .mk F m (F.binds fun _ _ _ _ _ _ us hl=>args2 hl fun _ _=>rfl) (fnT (W:=Z43) F Z5L Z6t (fun cdv A outer s H E hr=>by have nd:=Z5L.nd;unfold Z43;refine @js1 _ _ _ ?_;walk_at "D") Z6T)
abbrev Z1C:Stmt:=top 15
theorem Z4g:FnScope ["one", "other"] ["one", "other"] (defScope Z1C):=by walk_at "s"
theorem Z66{f:Addr}{fd:FuncData} (F:Fun K "cross_of" "cross_of" Z1C f fd) (m:mg "cross_of" = some (.ref f)):Cal P w K mg base 1 "cross_of" ["one", "other"] Z0A :=
 .mk F m (F.binds fun _ _ _ _ _ _ us hl=>args2 hl fun _ _=>rfl) (fnT (W:=Z2V) F Z4g Z5w (fun cdv A outer s H E hr=>by have nd:=Z4g.nd;unfold Z2V;refine @js1 _ _ _ ?_;walk_at "D") Z5S)
abbrev Z1D:Stmt:=top 20
theorem Z4h:FnScope ["plate"] ["plate"] (defScope Z1D):=by walk_at "s"
theorem Z67{f:Addr}{fd:FuncData} (F:Fun K "front_of" "front_of" Z1D f fd) (m:mg "front_of" = some (.ref f)) (Z2q:Cal P w K mg base 1 "cross_of" ["one", "other"] Z0A):Cal P w K mg base 2 "front_of" ["plate"] Z0q :=
 .mk F m (F.binds fun _ _ _ _ _ _ us hl=>args1 hl fun _=>rfl) (fnT (W:=Z2W) F Z4h Z5x (fun cdv A outer s H E hr=>by have nd:=Z4h.nd;unfold Z2W;refine @js1 _ _ _ ?_;walk_at "D") Z5T)
abbrev Z2d:Stmt:=top 14
theorem Z5l:FnScope ["one", "other"] ["one", "other"] (defScope Z2d):=by walk_at "s"
theorem Z6N{f:Addr}{fd:FuncData} (F:Fun K "dot_of" "dot_of" Z2d f fd) (m:mg "dot_of" = some (.ref f)):Cal P w K mg base 1 "dot_of" ["one", "other"] Z0P :=
 .mk F m (F.binds fun _ _ _ _ _ _ us hl=>args2 hl fun _ _=>rfl) (fnT (W:=Z3J) F Z5l Z6c (fun cdv A outer s H E hr=>by have nd:=Z5l.nd;unfold Z3J;refine @js1 _ _ _ ?_;walk_at "D") Z6s)
abbrev Z0f:Stmt:=top 24
theorem Z2s:FnScope ["plate", "direction"] ["plate", "direction"] (defScope Z0f):=by walk_at "s"
theorem Z3F{f:Addr}{fd:FuncData} (F:Fun K "comes_from_ahead" "comes_from_ahead" Z0f f fd) (m:mg "comes_from_ahead" = some (.ref f)) (Z1s:Cal P w K mg base 2 "front_of" ["plate"] Z0q) (Z29:Cal P w K mg base 1 "dot_of" ["one", "other"] Z0P):Cal P w K mg base 3 "comes_from_ahead" ["plate", "direction"] Z0d :=
 .mk F m (F.binds fun _ _ _ _ _ _ us hl=>args2 hl fun _ _=>rfl) (fnT (W:=Z0W) F Z2s Z3u (fun cdv A outer s H E hr=>by have nd:=Z2s.nd;unfold Z0W;refine @js1 _ _ _ ?_;walk_at "D") Z3x)
abbrev Z1b:Stmt:=top 26
theorem Z4i:FnScope ["triple"] ["triple"] (defScope Z1b):=by walk_at "s"
theorem Z68{f:Addr}{fd:FuncData} (F:Fun K "as_point" "as_point" Z1b f fd) (m:mg "as_point" = some (.ref f)) (z_tuple:mg "tuple" = none):Cal P w K mg base 1 "as_point" ["triple"] Z1v :=
 .mk F m (F.binds fun _ _ _ _ _ _ us hl=>args1 hl fun _=>rfl) (fnT (W:=Z3y) F Z4i Z5z (fun cdv A outer s H E hr=>have nd:=Z4i.nd;
  (@js1 _ _ _ (@jret _ _ _ _ (@jty _ _ _ _ _ _ _ _ _ ty_tuple rfl z_tuple boot_tuple (@ja _ _ _ _ _ (@jcomp _ _ _ _ _ _ _ (defScope Z1b) (["number"]) (["triple"]) ([]) _ _ _ _ rfl rfl rfl (by walk_at "D") rfl rfl (by decide +kernel) (by decide +kernel) (by decide +kernel) (by decide +kernel) (fun cl C s3 H2 ex=>(@jg _ _ (0) _ (show List.Nodup (["number"]:List Str) from by decide +kernel) rfl (Or.inl rfl) (by walk_at "f"))) (fun cl C s3 H2 ex=>(@jts0 _)) (fun cl C s3 H2 ex=>(by walk_at "D")) (fun _=>rfl)) (@ja0 _) (star1 rfl)) (by decide) (by decide) (star1 rfl) (stars rfl))))) Z5U)
abbrev Z0m:Stmt:=top 7
theorem Z2B:FnScope ["one", "other", "rest"] ["one", "other"] (defScope Z0m):=by walk_at "s"
theorem Z3S{f:Addr}{fd:FuncData} (F:Fun K "greatest_factor" "greatest_factor" Z0m f fd) (m:mg "greatest_factor" = some (.ref f)) (z_abs:mg "abs" = none):Cal P w K mg base 1 "greatest_factor" ["one", "other"] Z0l :=
 .mk F m (F.binds fun _ _ _ _ _ _ us hl=>args2 hl fun _ _=>rfl) (fnT (W:=Z1M) F Z2B Z3v (fun cdv A outer s H E hr=>have nd:=Z2B.nd;
  (@jsc _ _ _ _ _ (@jwhile _ _ _ _ _ _ PassesOwn.never (by walk_at "D") (@jsc _ _ _ _ _ (by walk_at "D") (@jsc _ _ _ _ _ (by walk_at "D") (@js1 _ _ _ (by walk_at "D"))))) (@js1 _ _ _ (by walk_at "D")))) Z3R)
abbrev Z1E:Stmt:=top 8
theorem Z4j:FnScope ["top", "bottom", "factor"] ["top", "bottom"] (defScope Z1E):=by walk_at "s"
theorem Z69{f:Addr}{fd:FuncData} (F:Fun K "ratio_of" "ratio_of" Z1E f fd) (m:mg "ratio_of" = some (.ref f)) (Z2p:Cal P w K mg base 1 "is_whole" ["thing"] Z0z) (Z1P:Cal P w K mg base 1 "greatest_factor" ["one", "other"] Z0l):Cal P w K mg base 2 "ratio_of" ["top", "bottom"] Z09 :=
 .mk F m (F.binds fun _ _ _ _ _ _ us hl=>args2 hl fun _ _=>rfl) (fnT (W:=Z3w) F Z4j Z5t (fun cdv A outer s H E hr=>have nd:=Z4j.nd;
  (@jsc _ _ _ _ _ (@jsif _ _ _ _ _ _ _ _ (by walk_at "D") (@js1 _ _ _ (@jnever _ _)) (@js0 _)) (@jsc _ _ _ _ _ (@jsif _ _ _ _ _ _ _ _ (by walk_at "D") (@js1 _ _ _ (@jnever _ _)) (@js0 _)) (@jsc _ _ _ _ _ (by walk_at "D") (@jsc _ _ _ _ _ (by walk_at "D") (@js1 _ _ _ (by walk_at "D"))))))) Z5Q)
abbrev Z11:Stmt:=top 10
theorem Z3G:FnScope ["one", "other"] ["one", "other"] (defScope Z11):=by walk_at "s"
theorem Z5m{f:Addr}{fd:FuncData} (F:Fun K "ratio_less" "ratio_less" Z11 f fd) (m:mg "ratio_less" = some (.ref f)) (Z0O:Cal P w K mg base 2 "ratio_of" ["top", "bottom"] Z09):Cal P w K mg base 3 "ratio_less" ["one", "other"] Z0Y :=
 .mk F m (F.binds fun _ _ _ _ _ _ us hl=>args2 hl fun _ _=>rfl) (fnT (W:=Z2l) F Z3G Z4J (fun cdv A outer s H E hr=>by have nd:=Z3G.nd;unfold Z2l;refine @js1 _ _ _ ?_;walk_at "D") Z4X)
abbrev Z0I:Stmt:=top 27
theorem Z3H:FnScope ["point", "triple"] ["point", "triple"] (defScope Z0I):=by walk_at "s"
theorem Z5n{f:Addr}{fd:FuncData} (F:Fun K "point_less" "point_less" Z0I f fd) (m:mg "point_less" = some (.ref f)) (Z31:Cal P w K mg base 3 "ratio_less" ["one", "other"] Z0Y) (z_range:mg "range" = none) (z_tuple:mg "tuple" = none):Cal P w K mg base 4 "point_less" ["point", "triple"] Z0u :=
 .mk F m (F.binds fun _ _ _ _ _ _ us hl=>args2 hl fun _ _=>rfl) (fnT (W:=Z2Z) F Z3H Z4L (fun cdv A outer s H E hr=>have nd:=Z3H.nd;
  (@js1 _ _ _ (@jret _ _ _ _ (@jty _ _ _ _ _ _ _ _ _ ty_tuple rfl z_tuple boot_tuple (@ja _ _ _ _ _ (@jcomp _ _ _ _ _ _ _ (defScope Z0I) (["axis"]) (["point" , "triple"]) ([("point" , 0) , ("triple" , 1)]) _ _ _ _ rfl rfl rfl (by walk_at "D") rfl rfl (by decide +kernel) (by decide +kernel) (by decide +kernel) (by decide +kernel) (fun cl C s3 H2 ex=>(@jg _ _ (0) _ (show List.Nodup (["axis" , "point" , "triple"]:List Str) from by decide +kernel) rfl (Or.inl rfl) (by walk_at "f"))) (fun cl C s3 H2 ex=>(@jts0 _)) (fun cl C s3 H2 ex=>(by walk_at "D")) (fun _=>rfl)) (@ja0 _) (star1 rfl)) (by decide) (by decide) (star1 rfl) (stars rfl))))) Z4Y)
abbrev Z0K:Stmt:=top 11
theorem Z3s:FnScope ["one", "other"] ["one", "other"] (defScope Z0K):=by walk_at "s"
theorem Z4P{f:Addr}{fd:FuncData} (F:Fun K "ratio_times" "ratio_times" Z0K f fd) (m:mg "ratio_times" = some (.ref f)) (Z0O:Cal P w K mg base 2 "ratio_of" ["top", "bottom"] Z09):Cal P w K mg base 3 "ratio_times" ["one", "other"] Z0a :=
 .mk F m (F.binds fun _ _ _ _ _ _ us hl=>args2 hl fun _ _=>rfl) (fnT (W:=Z1X) F Z3s Z4p (fun cdv A outer s H E hr=>by have nd:=Z3s.nd;unfold Z1X;refine @js1 _ _ _ ?_;walk_at "D") Z4K)
abbrev Z1k:Stmt:=top 9
theorem Z3T:FnScope ["one", "other"] ["one", "other"] (defScope Z1k):=by walk_at "s"
theorem Z5E{f:Addr}{fd:FuncData} (F:Fun K "ratio_sum" "ratio_sum" Z1k f fd) (m:mg "ratio_sum" = some (.ref f)) (Z0O:Cal P w K mg base 2 "ratio_of" ["top", "bottom"] Z09):Cal P w K mg base 3 "ratio_sum" ["one", "other"] Z0h :=
 .mk F m (F.binds fun _ _ _ _ _ _ us hl=>args2 hl fun _ _=>rfl) (fnT (W:=Z2C) F Z3T Z4W (fun cdv A outer s H E hr=>by have nd:=Z3T.nd;unfold Z2C;refine @js1 _ _ _ ?_;walk_at "D") Z5u)
abbrev Z0V:Stmt:=top 28
theorem Z33:FnScope ["point", "triple", "products"] ["point", "triple"] (defScope Z0V):=by walk_at "s"
theorem Z5F{f:Addr}{fd:FuncData} (F:Fun K "point_dot" "point_dot" Z0V f fd) (m:mg "point_dot" = some (.ref f)) (Z1t:Cal P w K mg base 3 "ratio_times" ["one", "other"] Z0a) (Z1Z:Cal P w K mg base 3 "ratio_sum" ["one", "other"] Z0h) (z_range:mg "range" = none):Cal P w K mg base 4 "point_dot" ["point", "triple"] Z0r :=
 .mk F m (F.binds fun _ _ _ _ _ _ us hl=>args2 hl fun _ _=>rfl) (fnT (W:=Z3k) F Z33 Z4Z (fun cdv A outer s H E hr=>have nd:=Z33.nd;
  (@jsc _ _ _ _ _ (@jsetc _ _ _ _ _ _ _ (defScope Z0V) (["axis"]) (["point" , "triple" , "products"]) ([("point" , 0) , ("triple" , 1)]) _ _ _ _ (2) _ _ _ Z33.nd rfl (Or.inl rfl) rfl rfl rfl (by walk_at "D") rfl rfl (by decide +kernel) (by decide +kernel) (by decide +kernel) (by decide +kernel) (fun cl C s3 H2 ex=>(@jg _ _ (0) _ (show List.Nodup (["axis" , "point" , "triple"]:List Str) from by decide +kernel) rfl (Or.inl rfl) (by walk_at "f"))) (fun cl C s3 H2 ex=>(@jts0 _)) (fun cl C s3 H2 ex=>(by walk_at "D")) (fun _=>rfl) (by rfl) (by walk_at "f")) (@js1 _ _ _ (by walk_at "D")))) Z5y)
abbrev Z1F:Stmt:=top 12
theorem Z4k:FnScope ["one", "other"] ["one", "other"] (defScope Z1F):=by walk_at "s"
theorem Z6a{f:Addr}{fd:FuncData} (F:Fun K "ratio_by" "ratio_by" Z1F f fd) (m:mg "ratio_by" = some (.ref f)) (Z0O:Cal P w K mg base 2 "ratio_of" ["top", "bottom"] Z09):Cal P w K mg base 3 "ratio_by" ["one", "other"] Z15 :=
 .mk F m (F.binds fun _ _ _ _ _ _ us hl=>args2 hl fun _ _=>rfl) (fnT (W:=Z2U) F Z4k Z5v (fun cdv A outer s H E hr=>by have nd:=Z4k.nd;unfold Z2U;refine @js1 _ _ _ ?_;walk_at "D") Z5R)
abbrev Z12:Stmt:=top 30
theorem Z3I:FnScope ["plate", "point", "direction", "across", "beyond", "along_side", "along_other"] ["plate", "point", "direction"] (defScope Z12):=by walk_at "s"
theorem Z5o{f:Addr}{fd:FuncData} (F:Fun K "meeting_of" "meeting_of" Z12 f fd) (m:mg "meeting_of" = some (.ref f)) (Z1s:Cal P w K mg base 2 "front_of" ["plate"] Z0q) (Z29:Cal P w K mg base 1 "dot_of" ["one", "other"] Z0P) (Z1J:Cal P w K mg base 4 "point_less" ["point", "triple"] Z0u) (Z2q:Cal P w K mg base 1 "cross_of" ["one", "other"] Z0A) (Z20:Cal P w K mg base 4 "point_dot" ["point", "triple"] Z0r) (Z3B:Cal P w K mg base 3 "ratio_by" ["one", "other"] Z15):Cal P w K mg base 5 "meeting_of" ["plate", "point", "direction"] Z0v :=
 .mk F m (F.binds fun _ _ _ _ _ _ us hl=>args3 hl fun _ _ _=>rfl) (fnT (W:=Z2m) F Z3I Z4M (fun cdv A outer s H E hr=>by have nd:=Z3I.nd;unfold Z2m;walk_at "D") Z50)
abbrev Z1l:Stmt:=top 31
theorem Z3U:FnScope ["plate", "tip", "direction"] ["plate", "tip", "direction"] (defScope Z1l):=by walk_at "s"
theorem Z5G{f:Addr}{fd:FuncData} (F:Fun K "shadow_of" "shadow_of" Z1l f fd) (m:mg "shadow_of" = some (.ref f)) (Z1I:Cal P w K mg base 3 "comes_from_ahead" ["plate", "direction"] Z0d) (Z3D:Cal P w K mg base 1 "as_point" ["triple"] Z1v) (Z1K:Cal P w K mg base 5 "meeting_of" ["plate", "point", "direction"] Z0v):Cal P w K mg base 6 "shadow_of" ["plate", "tip", "direction"] Z1f :=
 .mk F m (F.binds fun _ _ _ _ _ _ us hl=>args3 hl fun _ _ _=>rfl) (fnT (W:=Z2D) F Z3U Z51 (fun cdv A outer s H E hr=>by have nd:=Z3U.nd;unfold Z2D;walk_at "D") Z5A)
abbrev Z1u:Stmt:=top 23
theorem Z4H:FnScope ["place"] ["place"] (defScope Z1u):=by walk_at "s"
theorem Z6q{f:Addr}{fd:FuncData} (F:Fun K "lies_on" "lies_on" Z1u f fd) (m:mg "lies_on" = some (.ref f)) (z_all:mg "all" = none):Cal P w K mg base 1 "lies_on" ["place"] Z14 :=
 .mk F m (F.binds fun _ _ _ _ _ _ us hl=>args1 hl fun _=>rfl) (fnT (W:=Z3W) F Z4H Z5W (fun cdv A outer s H E hr=>have nd:=Z4H.nd;
  (@js1 _ _ _ (@jret _ _ _ _ (@jblt _ _ _ _ _ _ _ _ _ (bl_all rfl) rfl z_all boot_all (@ja _ _ _ _ _ (@jcomp _ _ _ _ _ _ _ (defScope Z1u) (["ratio"]) (["place"]) ([]) _ _ _ _ rfl rfl rfl (by walk_at "D") rfl rfl (by decide +kernel) (by decide +kernel) (by decide +kernel) (by decide +kernel) (fun cl C s3 H2 ex=>(@jg _ _ (0) _ (show List.Nodup (["ratio"]:List Str) from by decide +kernel) rfl (Or.inl rfl) (by walk_at "f"))) (fun cl C s3 H2 ex=>(@jts0 _)) (fun cl C s3 H2 ex=>(by walk_at "D")) (fun _=>rfl)) (@ja0 _) (star1 rfl)) (by decide) (by decide) (star1 rfl) (stars rfl))))) Z6d)
abbrev Z1m:Stmt:=top 21
theorem Z3V:FnScope ["plate", "place", "axis", "along_side", "along_other"] ["plate", "place", "axis"] (defScope Z1m):=by walk_at "s"
theorem Z5H{f:Addr}{fd:FuncData} (F:Fun K "number_at" "number_at" Z1m f fd) (m:mg "number_at" = some (.ref f)) (Z1t:Cal P w K mg base 3 "ratio_times" ["one", "other"] Z0a) (Z1Z:Cal P w K mg base 3 "ratio_sum" ["one", "other"] Z0h):Cal P w K mg base 4 "number_at" ["plate", "place", "axis"] Z1g :=
 .mk F m (F.binds fun _ _ _ _ _ _ us hl=>args3 hl fun _ _ _=>rfl) (fnT (W:=Z2E) F Z3V Z52 (fun cdv A outer s H E hr=>by have nd:=Z3V.nd;unfold Z2E;walk_at "D") Z5B)
abbrev Z1c:Stmt:=top 22
theorem Z4l:FnScope ["plate", "place"] ["plate", "place"] (defScope Z1c):=by walk_at "s"
theorem Z6b{f:Addr}{fd:FuncData} (F:Fun K "point_of" "point_of" Z1c f fd) (m:mg "point_of" = some (.ref f)) (Z3o:Cal P w K mg base 4 "number_at" ["plate", "place", "axis"] Z1g) (z_range:mg "range" = none) (z_tuple:mg "tuple" = none):Cal P w K mg base 5 "point_of" ["plate", "place"] Z1w :=
 .mk F m (F.binds fun _ _ _ _ _ _ us hl=>args2 hl fun _ _=>rfl) (fnT (W:=Z3z) F Z4l Z5C (fun cdv A outer s H E hr=>have nd:=Z4l.nd;
  (@js1 _ _ _ (@jret _ _ _ _ (@jty _ _ _ _ _ _ _ _ _ ty_tuple rfl z_tuple boot_tuple (@ja _ _ _ _ _ (@jcomp _ _ _ _ _ _ _ (defScope Z1c) (["axis"]) (["plate" , "place"]) ([("plate" , 0) , ("place" , 1)]) _ _ _ _ rfl rfl rfl (by walk_at "D") rfl rfl (by decide +kernel) (by decide +kernel) (by decide +kernel) (by decide +kernel) (fun cl C s3 H2 ex=>(@jg _ _ (0) _ (show List.Nodup (["axis" , "plate" , "place"]:List Str) from by decide +kernel) rfl (Or.inl rfl) (by walk_at "f"))) (fun cl C s3 H2 ex=>(@jts0 _)) (fun cl C s3 H2 ex=>(by walk_at "D")) (fun _=>rfl)) (@ja0 _) (star1 rfl)) (by decide) (by decide) (star1 rfl) (stars rfl))))) Z5V)
abbrev Z0H:Stmt:=top 33
theorem Z3i:FnScope ["plate", "point", "direction", "front", "height"] ["plate", "point", "direction"] (defScope Z0H):=by walk_at "s"
theorem Z4z{f:Addr}{fd:FuncData} (F:Fun K "goes_towards" "goes_towards" Z0H f fd) (m:mg "goes_towards" = some (.ref f)) (Z1s:Cal P w K mg base 2 "front_of" ["plate"] Z0q) (Z1J:Cal P w K mg base 4 "point_less" ["point", "triple"] Z0u) (Z20:Cal P w K mg base 4 "point_dot" ["point", "triple"] Z0r) (Z29:Cal P w K mg base 1 "dot_of" ["one", "other"] Z0P):Cal P w K mg base 5 "goes_towards" ["plate", "point", "direction"] Z0D :=
 .mk F m (F.binds fun _ _ _ _ _ _ us hl=>args3 hl fun _ _ _=>rfl) (fnT (W:=Z1L) F Z3i Z41 (fun cdv A outer s H E hr=>by have nd:=Z3i.nd;unfold Z1L;walk_at "D") Z4q)
abbrev Z0L:Stmt:=top 34
theorem Z3t:FnScope ["plate", "point", "direction"] ["plate", "point", "direction"] (defScope Z0L):=by walk_at "s"
theorem Z4Q{f:Addr}{fd:FuncData} (F:Fun K "hides_point" "hides_point" Z0L f fd) (m:mg "hides_point" = some (.ref f)) (Z2y:Cal P w K mg base 5 "goes_towards" ["plate", "point", "direction"] Z0D) (Z1K:Cal P w K mg base 5 "meeting_of" ["plate", "point", "direction"] Z0v) (Z2P:Cal P w K mg base 1 "lies_on" ["place"] Z14):Cal P w K mg base 6 "hides_point" ["plate", "point", "direction"] Z0n :=
 .mk F m (F.binds fun _ _ _ _ _ _ us hl=>args3 hl fun _ _ _=>rfl) (fnT (W:=Z1Y) F Z3t Z4r (fun cdv A outer s H E hr=>by have nd:=Z3t.nd;unfold Z1Y;refine @js1 _ _ _ ?_;walk_at "D") Z4N)
abbrev Z0g:Stmt:=top 37
theorem Z2e:FnScope ["yard", "dial", "place", "direction", "point", "others"] ["yard", "dial", "place", "direction"] (defScope Z0g):=by walk_at "s"
theorem Z4A{f:Addr}{fd:FuncData} (F:Fun K "names_hiding" "names_hiding" Z0g f fd) (m:mg "names_hiding" = some (.ref f)) (Z3E:Cal P w K mg base 5 "point_of" ["plate", "place"] Z1w) (Z2R:Cal P w K mg base 6 "hides_point" ["plate", "point", "direction"] Z0n) (z_sorted:mg "sorted" = none):Cal P w K mg base 7 "names_hiding" ["yard", "dial", "place", "direction"] Z0E :=
 .mk F m (F.binds fun _ _ _ _ _ _ us hl=>args4 hl fun _ _ _ _=>rfl) (fnT (W:=Z2u) F Z2e Z44 (fun cdv A outer s H E hr=>have nd:=Z2e.nd;
  (@jsc _ _ _ _ _ (by walk_at "D") (@jsc _ _ _ _ _ (@jsetc _ _ _ _ _ _ _ (defScope Z0g) (["thing"]) (["yard" , "dial" , "place" , "direction" , "point" , "others"]) ([("dial" , 1)]) _ _ _ _ (5) _ _ _ Z2e.nd rfl (Or.inl rfl) rfl rfl rfl (by walk_at "D") rfl rfl (by decide +kernel) (by decide +kernel) (by decide +kernel) (by decide +kernel) (fun cl C s3 H2 ex=>(@jg _ _ (0) _ (show List.Nodup (["thing" , "dial"]:List Str) from by decide +kernel) rfl (Or.inl rfl) (by walk_at "f"))) (fun cl C s3 H2 ex=>(@jts1 _ _ _ (by walk_at "D"))) (fun cl C s3 H2 ex=>(by walk_at "D")) (fun _=>rfl) (by rfl) (by walk_at "f")) (@js1 _ _ _ (@jret _ _ _ _ (@jblt _ _ _ _ _ _ _ _ _ bl_sorted rfl z_sorted boot_sorted (@ja _ _ _ _ _ (@jcomp _ _ _ _ _ _ _ (defScope Z0g) (["thing"]) (["yard" , "dial" , "place" , "direction" , "point" , "others"]) ([("point" , 4) , ("direction" , 3)]) _ _ _ _ rfl rfl rfl (by walk_at "D") rfl rfl (by decide +kernel) (by decide +kernel) (by decide +kernel) (by decide +kernel) (fun cl C s3 H2 ex=>(@jg _ _ (0) _ (show List.Nodup (["thing" , "point" , "direction"]:List Str) from by decide +kernel) rfl (Or.inl rfl) (by walk_at "f"))) (fun cl C s3 H2 ex=>(@jts1 _ _ _ (by walk_at "D"))) (fun cl C s3 H2 ex=>(by walk_at "D")) (fun _=>rfl)) (@ja0 _) (star1 rfl)) (by decide) (by decide) (star1 rfl) (stars rfl))))))) Z4t)
abbrev Z1W:Stmt:=top 38
theorem Z4I:FnScope ["yard", "hour", "name", "direction", "dial", "place", "names"] ["yard", "hour", "name"] (defScope Z1W):=by walk_at "s"
theorem Z6r{f:Addr}{fd:FuncData} (F:Fun K "told_at" "told_at" Z1W f fd) (m:mg "told_at" = some (.ref f)) (Z0y:Cal P w K mg base 2 "direction_at" ["sun", "hour"] Z02) (Z40:Cal P w K mg base 1 "dial_of" ["yard", "name"] Z1Q) (Z5d:Cal P w K mg base 3 "is_up" ["sun", "hour"] Z2F) (Z3p:Cal P w K mg base 6 "shadow_of" ["plate", "tip", "direction"] Z1f) (Z2P:Cal P w K mg base 1 "lies_on" ["place"] Z14) (Z2z:Cal P w K mg base 7 "names_hiding" ["yard", "dial", "place", "direction"] Z0E):Cal P w K mg base 8 "told_at" ["yard", "hour", "name"] Z07 :=
 .mk F m (F.binds fun _ _ _ _ _ _ us hl=>args3 hl fun _ _ _=>rfl) (fnT (W:=Z3l) F Z4I Z5Y (fun cdv A outer s H E hr=>by have nd:=Z4I.nd;unfold Z3l;walk_at "D") Z6f)
abbrev Z2N:Stmt:=top 62
theorem Z4B:FnScope ["_law_yard_here", "_law_reads_here", "_law_hour", "_law_direction", "_law_number"] ["_law_yard_here"] (defScope Z2N):=by walk_at "s"
theorem Z7e{f:Addr}{fd:FuncData} (F:Fun K "_law_reads" "_law_reads" Z2N f fd) (m:mg "_law_reads" = some (.ref f)) (Z2Q:Cal P w K mg base 8 "told_at" ["yard", "hour", "name"] Z07) (z_len:mg "len" = none) (z_range:mg "range" = none):Cal P w K mg base 9 "_law_reads" ["_law_yard_here"] Z1T :=
 .mk F m (F.binds fun _ _ _ _ _ _ us hl=>args1 hl fun _=>rfl) (fnT (W:=Z56) F Z4B Z6A (fun cdv A outer s H E hr=>have nd:=Z4B.nd;
  (@jreads _ _ _ _ (1) (2) (3) (4) _ _ _ _ _ _ _ _ _ _ _ _ _ _ _ _ _ _ _ _ _ _ _ _ _ _ _ _ _ _ _ _ (by decide) PassesOwn.never rfl (hu_of hr) Z4B.nd rfl (Or.inl rfl) rfl (Or.inl rfl) rfl (Or.inl rfl) rfl (Or.inl rfl) (by walk_at "D") (by walk_at "D") (by walk_at "D") (pv 1) (pv 2) (pv 1) (pv 2) (pv 4) (pv 1) (by walk_at "f") (by walk_at "f") (by walk_at "f") (by walk_at "f") (by rfl) (by rfl) (fun _=>rfl) (fun _=>rfl) (by rfl) (by rfl) (by rfl) (by rfl) (by rfl) (by rfl) (by rfl) (by rfl) (star1 rfl) (stars rfl) (fun _ _=>rfl))) Z74)
abbrev Z2f:Stmt:=top 61
theorem Z4C:FnScope ["_law_script", "_law_yard_here", "_law_good", "_law_some", "_law_shape", "_law_found", "_law_k"] ["_law_script", "_law_yard_here", "_law_good"] (defScope Z2f):=by walk_at "s"
theorem Z7f{f:Addr}{fd:FuncData} (F:Fun K "_law_hours" "_law_hours" Z2f f fd) (m:mg "_law_hours" = some (.ref f)) (Z1a:Cal P w K mg base 2 "_law_wide" ["_law_script", "_law_k"] Z06) (z_range:mg "range" = none) (z_len:mg "len" = none):Cal P w K mg base 3 "_law_hours" ["_law_script", "_law_yard_here", "_law_good"] Z37 :=
 .mk F m (F.binds fun _ _ _ _ _ _ us hl=>args3 hl fun _ _ _=>rfl) (fnT (W:=Z55) F Z4C Z6z (fun cdv A outer s H E hr=>have nd:=Z4C.nd;
  (@jsc _ _ _ _ _ (@jsetc _ _ _ _ _ _ _ (defScope Z2f) (["_law_row"]) (["_law_script" , "_law_yard_here" , "_law_good" , "_law_some" , "_law_shape" , "_law_found" , "_law_k"]) ([]) _ _ _ _ (3) _ _ _ Z4C.nd rfl (Or.inl rfl) rfl rfl rfl (by walk_at "D") rfl rfl (by decide +kernel) (by decide +kernel) (by decide +kernel) (by decide +kernel) (fun cl C s3 H2 ex=>(@jg _ _ (0) _ (show List.Nodup (["_law_row"]:List Str) from by decide +kernel) rfl (Or.inl rfl) (by walk_at "f"))) (fun cl C s3 H2 ex=>(@jts0 _)) (fun cl C s3 H2 ex=>(by walk_at "D")) (fun _=>rfl) (by rfl) (by walk_at "f")) (@jsc _ _ _ _ _ (by walk_at "D") (@jsc _ _ _ _ _ (by walk_at "D") (@jsc _ _ _ _ _ (by walk_at "D") (@jsc _ _ _ _ _ (@jfor _ _ _ _ _ _ _ _ PassesOwn.never rfl (by walk_at "D") (by walk_at "D") (@js1 _ _ _ (@japp _ _ _ _ _ _ _ _ _ (pv 5) (by walk_at "D") (by rfl) (by rfl) (by rfl) (by rfl) (by rfl) (by rfl))) (fun _=>rfl)) (@jfrz _ _ 5 _ (@js1 _ _ _ (by walk_at "D"))))))))) Z73)
abbrev Z2g:Stmt:=top 64
theorem Z5M:FnScope ["_law_script", "_law_yard_here", "_law_reads_here"] ["_law_script"] (defScope Z2g):=by walk_at "s"
theorem Z7g{f:Addr}{fd:FuncData} (F:Fun K "_law_drawn" "_law_drawn" Z2g f fd) (m:mg "_law_drawn" = some (.ref f)) (Z1a:Cal P w K mg base 2 "_law_wide" ["_law_script", "_law_k"] Z06) (Z5e:Cal P w K mg base 4 "_law_rowed" ["_law_script"] Z2H) (Z4w:Cal P w K mg base 5 "_law_either" ["_law_script", "_law_most_dials", "_law_most_fences", "_law_most_hours"] Z26) (Z3C:Cal P w K mg base 9 "_law_reads" ["_law_yard_here"] Z1T) (Z5p:Cal P w K mg base 3 "_law_hours" ["_law_script", "_law_yard_here", "_law_good"] Z37):Cal P w K mg base 10 "_law_drawn" ["_law_script"] Z2I :=
 .mk F m (F.binds fun _ _ _ _ _ _ us hl=>args1 hl fun _=>rfl) (fnT (W:=Z59) F Z5M Z6G (fun cdv A outer s H E hr=>have nd:=Z5M.nd;
  (@jsc _ _ _ _ _ (by walk_at "D") (@jsc _ _ _ _ _ (by walk_at "D") (@jsc _ _ _ _ _ (by walk_at "D") (@js1 _ _ _ (@jret _ _ _ _ (@jtup _ _ _ _ _ (@ja _ _ _ _ _ (by walk_at "D") (@ja _ _ _ _ _ (@jcallC _ _ _ _ _ _ _ _ _ _ Z5p (hr.mono (by omega)) rfl (@ja _ _ _ _ _ (by walk_at "D") (@ja _ _ _ _ _ (by walk_at "D") (@ja _ _ _ _ _ (@jcomp _ _ _ _ _ _ _ (defScope Z2g) (["_law_hour"]) (["_law_script" , "_law_yard_here" , "_law_reads_here"]) ([("_law_reads_here" , 2)]) _ _ _ _ rfl rfl rfl (@jiDic _ _ _ _ (by walk_at "D")) rfl rfl (by decide +kernel) (by decide +kernel) (by decide +kernel) (by decide +kernel) (fun cl C s3 H2 ex=>(@jg _ _ (0) _ (show List.Nodup (["_law_hour" , "_law_reads_here"]:List Str) from by decide +kernel) rfl (Or.inl rfl) (by walk_at "f"))) (fun cl C s3 H2 ex=>(@jts1 _ _ _ (@tcmp _ _ _ _ _ _ _ _ (c_ne hr) (@jixD _ _ _ _ _ _ (by walk_at "D") (by walk_at "D") (fun _ _=>rfl)) (@jlst _ _ _ _ (@ja0 _)) (nomark _)))) (fun cl C s3 H2 ex=>(by walk_at "D")) (fun _=>rfl)) (@ja0 _) (star1 rfl)) (star1 rfl)) (star1 rfl)) (by decide) (star1 rfl) (stars rfl)) (@ja0 _) (star1 rfl)) (star1 rfl))))))))) Z78)
abbrev Z13:Stmt:=top 40
theorem Z2S:FnScope ["sun", "hours", "once", "hour"] ["sun", "hours"] (defScope Z13):=by walk_at "s"
theorem Z5q{f:Addr}{fd:FuncData} (F:Fun K "hours_once" "hours_once" Z13 f fd) (m:mg "hours_once" = some (.ref f)) (Z0y:Cal P w K mg base 2 "direction_at" ["sun", "hour"] Z02) (z_list:mg "list" = none):Cal P w K mg base 3 "hours_once" ["sun", "hours"] Z10 :=
 .mk F m (F.binds fun _ _ _ _ _ _ us hl=>args2 hl fun _ _=>rfl) (fnT (W:=Z30) F Z2S Z4O (fun cdv A outer s H E hr=>have nd:=Z2S.nd;
  (@jonce _ _ _ (2) (3) _ _ _ _ _ _ _ _ _ _ _ _ _ _ _ _ _ _ _ _ (by decide) PassesOwn.never rfl (hu_of hr) Z2S.nd rfl (Or.inl rfl) rfl (Or.inl rfl) (by walk_at "D") (by walk_at "D") (pv 2) (pv 3) (pv 2) rfl z_list (by rfl) (by rfl) (by rfl) (by walk_at "f") (by walk_at "f") (fun _=>rfl) (star1 rfl) (stars rfl))) Z53)
abbrev Z0j:Stmt:=top 41
theorem Z2X:FnScope ["yard", "hour", "dials"] ["yard", "hour"] (defScope Z0j):=by walk_at "s"
theorem Z4m{f:Addr}{fd:FuncData} (F:Fun K "dials_reading" "dials_reading" Z0j f fd) (m:mg "dials_reading" = some (.ref f)) (Z2Q:Cal P w K mg base 8 "told_at" ["yard", "hour", "name"] Z07) (z_enumerate:mg "enumerate" = none):Cal P w K mg base 9 "dials_reading" ["yard", "hour"] Z0w :=
 .mk F m (F.binds fun _ _ _ _ _ _ us hl=>args2 hl fun _ _=>rfl) (fnT (W:=Z25) F Z2X Z3Z (fun cdv A outer s H E hr=>have nd:=Z2X.nd;
  (@jsc _ _ _ _ _ (by walk_at "D") (@js1 _ _ _ (@jret _ _ _ _ (@jcomp _ _ _ _ _ _ _ (defScope Z0j) (["number" , "dial"]) (["yard" , "hour" , "dials"]) ([("yard" , 0) , ("hour" , 1)]) _ _ _ _ rfl rfl rfl (by walk_at "D") rfl rfl (by decide +kernel) (by decide +kernel) (by decide +kernel) (by decide +kernel) (fun cl C s3 H2 ex=>(@jgt _ _ _ _ _ _ rfl (@jgsc _ _ _ _ _ (@jg _ _ (0) _ (show List.Nodup (["number" , "dial" , "yard" , "hour"]:List Str) from by decide +kernel) rfl (Or.inl rfl) (by walk_at "f")) (@jgsc _ _ _ _ _ (@jg _ _ (1) _ (show List.Nodup (["number" , "dial" , "yard" , "hour"]:List Str) from by decide +kernel) rfl (Or.inl rfl) (by walk_at "f")) (@jgs0 _) (by rfl)) (by rfl)) (by rfl) (by rfl))) (fun cl C s3 H2 ex=>(@jts1 _ _ _ (by walk_at "D"))) (fun cl C s3 H2 ex=>(by walk_at "D")) (fun _=>rfl)))))) Z49)
abbrev Z0k:Stmt:=top 43
theorem Z2Y:FnScope ["ways", "chosen", "entry"] ["ways", "chosen"] (defScope Z0k):=by walk_at "s"
theorem Z4n{f:Addr}{fd:FuncData} (F:Fun K "first_without" "first_without" Z0k f fd) (m:mg "first_without" = some (.ref f)) (z_all:mg "all" = none) (z_any:mg "any" = none):Cal P w K mg base 1 "first_without" ["ways", "chosen"] Z0i :=
 .mk F m (F.binds fun _ _ _ _ _ _ us hl=>args2 hl fun _ _=>rfl) (fnT (W:=Z24) F Z2Y Z3Y (fun cdv A outer s H E hr=>have nd:=Z2Y.nd;
  (@jsc _ _ _ _ _ (@jfor _ _ _ _ _ _ _ _ PassesOwn.never rfl (by walk_at "D") (by walk_at "D") (@js1 _ _ _ (@jsif _ _ _ _ _ _ _ _ (@tnot _ _ _ _ (@tval _ _ _ (@jblt _ _ _ _ _ _ _ _ _ (bl_any rfl) rfl z_any boot_any (@ja _ _ _ _ _ (@jcomp _ _ _ _ _ _ _ (defScope Z0k) (["way"]) (["ways" , "chosen" , "entry"]) ([("chosen" , 1)]) _ _ _ _ rfl rfl rfl (by walk_at "D") rfl rfl (by decide +kernel) (by decide +kernel) (by decide +kernel) (by decide +kernel) (fun cl C s3 H2 ex=>(@jg _ _ (0) _ (show List.Nodup (["way" , "chosen"]:List Str) from by decide +kernel) rfl (Or.inl rfl) (by walk_at "f"))) (fun cl C s3 H2 ex=>(@jts0 _)) (fun cl C s3 H2 ex=>(@jblt _ _ _ _ _ _ _ _ _ (bl_all rfl) rfl z_all boot_all (@ja _ _ _ _ _ (@jcomp _ _ _ _ _ _ _ ((⟨.function,[(".0" , .local) , ("way" , .local) , ("all" , .globalImplicit) , ("chosen" , .cell)] , false,false,[] ⟩:Scope)) (["number"]) (["way" , "chosen"]) ([("chosen" , 1)]) _ _ _ _ rfl rfl rfl (by walk_at "D") rfl rfl (by decide +kernel) (by decide +kernel) (by decide +kernel) (by decide +kernel) (fun cl C s3 H2 ex=>(@jg _ _ (0) _ (show List.Nodup (["number" , "chosen"]:List Str) from by decide +kernel) rfl (Or.inl rfl) (by walk_at "f"))) (fun cl C s3 H2 ex=>(@jts0 _)) (fun cl C s3 H2 ex=>(by walk_at "D")) (fun _=>rfl)) (@ja0 _) (star1 rfl)) (by decide) (by decide) (star1 rfl) (stars rfl))) (fun _=>rfl)) (@ja0 _) (star1 rfl)) (by decide) (by decide) (star1 rfl) (stars rfl)) (fun _=>rfl))) (@js1 _ _ _ (by walk_at "D")) (@js0 _))) (fun _=>rfl)) (@js1 _ _ _ (@jret _ _ _ _ (@jn _ _ _))))) Z47)
abbrev Z0o:Stmt:=top 42
theorem Z3j:FnScope ["many", "size", "found", "turn", "longer", "numbers", "least"] ["many", "size"] (defScope Z0o):=by walk_at "s"
theorem Z4D{f:Addr}{fd:FuncData} (F:Fun K "rising_lists" "rising_lists" Z0o f fd) (m:mg "rising_lists" = some (.ref f)) (z_range:mg "range" = none):Cal P w K mg base 1 "rising_lists" ["many", "size"] Z0F :=
 .mk F m (F.binds fun _ _ _ _ _ _ us hl=>args2 hl fun _ _=>rfl) (fnT (W:=Z2v) F Z3j Z48 (fun cdv A outer s H E hr=>have nd:=Z3j.nd;
  (@jsc _ _ _ _ _ (by walk_at "D") (@jsc _ _ _ _ _ (@jfor _ _ _ _ _ _ _ _ PassesOwn.never rfl (by walk_at "D") (by walk_at "D") (@jsc _ _ _ _ _ (by walk_at "D") (@jsc _ _ _ _ _ (@jfor _ _ _ _ _ _ _ _ PassesOwn.never rfl (by walk_at "D") (by walk_at "D") (@jsc _ _ _ _ _ (by walk_at "D") (@js1 _ _ _ (@jext _ _ _ _ _ _ _ _ _ (pv 4) (@jcompF _ _ _ _ _ _ _ (defScope Z0o) (["number"]) (["many" , "size" , "found" , "turn" , "longer" , "numbers" , "least"]) ([("numbers" , 5)]) _ _ _ _ rfl rfl rfl (by walk_at "D") rfl rfl (by decide +kernel) (by decide +kernel) (by decide +kernel) (by decide +kernel) (fun cl C s3 H2 ex=>(@jg _ _ (0) _ (show List.Nodup (["number" , "numbers"]:List Str) from by decide +kernel) rfl (Or.inl rfl) (by walk_at "f"))) (fun cl C s3 H2 ex=>(@jts0 _)) (fun cl C s3 H2 ex=>(by walk_at "D")) (fun _=>rfl)) (by rfl) (by rfl) (by rfl) (by rfl) (by rfl) (by rfl)))) (fun _=>rfl)) (@jfrz _ _ 4 _ (@js1 _ _ _ (by walk_at "D"))))) (fun _=>rfl)) (@js1 _ _ _ (by walk_at "D"))))) Z4u)
abbrev Z0t:Stmt:=top 44
theorem Z1n:FnScope ["things", "ways", "word", "word_of_none", "hour", "size", "paper", "tried", "enough"] ["things", "ways", "word", "word_of_none"] (defScope Z0t):=by walk_at "s"
theorem Z5I{f:Addr}{fd:FuncData} (F:Fun K "fewest_of" "fewest_of" Z0t f fd) (m:mg "fewest_of" = some (.ref f)) (Z1A:Cal P w K mg base 1 "first_without" ["ways", "chosen"] Z0i) (Z2A:Cal P w K mg base 1 "rising_lists" ["many", "size"] Z0F) (z_len:mg "len" = none) (z_range:mg "range" = none) (z_list:mg "list" = none):Cal P w K mg base 2 "fewest_of" ["things", "ways", "word", "word_of_none"] Z1i :=
 .mk F m (F.binds fun _ _ _ _ _ _ us hl=>args4 hl fun _ _ _ _=>rfl) (fnT (W:=Z3m) F Z1n Z54 (fun cdv A outer s H E hr=>have nd:=Z1n.nd;
  (@jsc _ _ _ _ _ (@jset _ _ _ _ (4) _ _ Z1n.nd rfl (Or.inl rfl) (@jcallC _ _ _ _ _ _ _ _ _ _ Z1A (hr.mono (by omega)) rfl (@ja _ _ _ _ _ (by walk_at "D") (@ja _ _ _ _ _ (@jlistRE _ _ _ _ _ _ _ rfl rfl z_range rfl z_list (by walk_at "D") (star1 rfl) (star1 rfl) (stars rfl)) (@ja0 _) (star1 rfl)) (star1 rfl)) (by decide) (star1 rfl) (stars rfl)) (by rfl) (by walk_at "f")) (@jsc _ _ _ _ _ (by walk_at "D") (@jsc _ _ _ _ _ (by walk_at "D") (@jsc _ _ _ _ _ (by walk_at "D") (@js1 _ _ _ (@jwhile _ _ _ _ _ _ PassesOwn.never (by walk_at "D") (@jsc _ _ _ _ _ (@jsetc _ _ _ _ _ _ _ (defScope Z0t) (["chosen"]) (["things" , "ways" , "word" , "word_of_none" , "hour" , "size" , "paper" , "tried" , "enough"]) ([("ways" , 1)]) _ _ _ _ (7) _ _ _ Z1n.nd rfl (Or.inl rfl) rfl rfl rfl (by walk_at "D") rfl rfl (by decide +kernel) (by decide +kernel) (by decide +kernel) (by decide +kernel) (fun cl C s3 H2 ex=>(@jg _ _ (0) _ (show List.Nodup (["chosen" , "ways"]:List Str) from by decide +kernel) rfl (Or.inl rfl) (by walk_at "f"))) (fun cl C s3 H2 ex=>(@jts0 _)) (fun cl C s3 H2 ex=>(by walk_at "D")) (fun _=>rfl) (by rfl) (by walk_at "f")) (@jsc _ _ _ _ _ (@jsetc _ _ _ _ _ _ _ (defScope Z0t) (["entry"]) (["things" , "ways" , "word" , "word_of_none" , "hour" , "size" , "paper" , "tried" , "enough"]) ([]) _ _ _ _ (8) _ _ _ Z1n.nd rfl (Or.inl rfl) rfl rfl rfl (by walk_at "D") rfl rfl (by decide +kernel) (by decide +kernel) (by decide +kernel) (by decide +kernel) (fun cl C s3 H2 ex=>(@jg _ _ (0) _ (show List.Nodup (["entry"]:List Str) from by decide +kernel) rfl (Or.inl rfl) (by walk_at "f"))) (fun cl C s3 H2 ex=>(@jts1 _ _ _ (by walk_at "D"))) (fun cl C s3 H2 ex=>(by walk_at "D")) (fun _=>rfl) (by rfl) (by walk_at "f")) (@jsc _ _ _ _ _ (@jsif _ _ _ _ _ _ _ _ (by walk_at "D") (@js1 _ _ _ (@jret _ _ _ _ (@jtup _ _ _ _ _ (@ja _ _ _ _ _ (by walk_at "D") (@ja _ _ _ _ _ (@jcomp _ _ _ _ _ _ _ (defScope Z0t) (["number"]) (["things" , "ways" , "word" , "word_of_none" , "hour" , "size" , "paper" , "tried" , "enough"]) ([("things" , 0)]) _ _ _ _ rfl rfl rfl (by walk_at "D") rfl rfl (by decide +kernel) (by decide +kernel) (by decide +kernel) (by decide +kernel) (fun cl C s3 H2 ex=>(@jg _ _ (0) _ (show List.Nodup (["number" , "things"]:List Str) from by decide +kernel) rfl (Or.inl rfl) (by walk_at "f"))) (fun cl C s3 H2 ex=>(@jts0 _)) (fun cl C s3 H2 ex=>(by walk_at "D")) (fun _=>rfl)) (by walk_at "D") (star1 rfl)) (star1 rfl))))) (@js0 _)) (@jsc _ _ _ _ _ (by walk_at "D") (@js1 _ _ _ (@jaug _ _ _ _ (5) _ _ Z1n.nd rfl (Or.inl rfl) (@ji _ _ _ _) (by walk_at "f")))))))))))))) Z5D)
abbrev Z0p:Stmt:=top 45
theorem Z2h:FnScope ["yard", "hours", "ways"] ["yard", "hours"] (defScope Z0p):=by walk_at "s"
theorem Z4E{f:Addr}{fd:FuncData} (F:Fun K "fewest_dials" "fewest_dials" Z0p f fd) (m:mg "fewest_dials" = some (.ref f)) (Z32:Cal P w K mg base 3 "hours_once" ["sun", "hours"] Z10) (Z2a:Cal P w K mg base 9 "dials_reading" ["yard", "hour"] Z0w) (Z3q:Cal P w K mg base 2 "fewest_of" ["things", "ways", "word", "word_of_none"] Z1i):Cal P w K mg base 10 "fewest_dials" ["yard", "hours"] Z0e :=
 .mk F m (F.binds fun _ _ _ _ _ _ us hl=>args2 hl fun _ _=>rfl) (fnT (W:=Z2w) F Z2h Z4a (fun cdv A outer s H E hr=>have nd:=Z2h.nd;
  (@jsc _ _ _ _ _ (@jsetc _ _ _ _ _ _ _ (defScope Z0p) (["hour"]) (["yard" , "hours" , "ways"]) ([("yard" , 0)]) _ _ _ _ (2) _ _ _ Z2h.nd rfl (Or.inl rfl) rfl rfl rfl (by walk_at "D") rfl rfl (by decide +kernel) (by decide +kernel) (by decide +kernel) (by decide +kernel) (fun cl C s3 H2 ex=>(@jg _ _ (0) _ (show List.Nodup (["hour" , "yard"]:List Str) from by decide +kernel) rfl (Or.inl rfl) (by walk_at "f"))) (fun cl C s3 H2 ex=>(@jts0 _)) (fun cl C s3 H2 ex=>(by walk_at "D")) (fun _=>rfl) (by rfl) (by walk_at "f")) (@js1 _ _ _ (by walk_at "D")))) Z4v)
abbrev Z3r:Stmt:=top 65
theorem Z6S:FnScope ["_law_reads_here", "_law_hour", "_law_numbers"] ["_law_reads_here", "_law_hour", "_law_numbers"] (defScope Z3r):=by walk_at "s"
theorem Z7J{f:Addr}{fd:FuncData} (F:Fun K "_law_any" "_law_any" Z3r f fd) (m:mg "_law_any" = some (.ref f)):Cal P w K mg base 1 "_law_any" ["_law_reads_here", "_law_hour", "_law_numbers"] Z1z :=
 .mk F m (F.binds fun _ _ _ _ _ _ us hl=>args3 hl fun _ _ _=>rfl) (fnT (W:=Z6B) F Z6S Z7t (fun cdv A outer s H E hr=>have nd:=Z6S.nd;
  (@js1 _ _ _ (@jret _ _ _ _ (@jcmp _ _ _ _ _ _ _ _ (c_neE hr) (@jcomp _ _ _ _ _ _ _ (defScope Z3r) (["_law_number"]) (["_law_reads_here" , "_law_hour" , "_law_numbers"]) ([("_law_numbers" , 2)]) _ _ _ _ rfl rfl rfl (@jiSeq _ _ _ _ (@jixD _ _ _ _ _ _ (by walk_at "D") (by walk_at "D") (fun _ _=>rfl))) rfl rfl (by decide +kernel) (by decide +kernel) (by decide +kernel) (by decide +kernel) (fun cl C s3 H2 ex=>(@jg _ _ (0) _ (show List.Nodup (["_law_number" , "_law_numbers"]:List Str) from by decide +kernel) rfl (Or.inl rfl) (by walk_at "f"))) (fun cl C s3 H2 ex=>(@jts1 _ _ _ (by walk_at "D"))) (fun cl C s3 H2 ex=>(by walk_at "D")) (fun _=>rfl)) (@jlst _ _ _ _ (@ja0 _)) (nomark _))))) Z7F)
abbrev Z2i:Stmt:=top 66
theorem Z5N:FnScope ["_law_reads_here", "_law_hours_here", "_law_numbers", "_law_hour"] ["_law_reads_here", "_law_hours_here", "_law_numbers", "_law_hour"] (defScope Z2i):=by walk_at "s"
theorem Z7h{f:Addr}{fd:FuncData} (F:Fun K "_law_first" "_law_first" Z2i f fd) (m:mg "_law_first" = some (.ref f)) (Z5b:Cal P w K mg base 1 "_law_any" ["_law_reads_here", "_law_hour", "_law_numbers"] Z1z):Cal P w K mg base 2 "_law_first" ["_law_reads_here", "_law_hours_here", "_law_numbers", "_law_hour"] Z1j :=
 .mk F m (F.binds fun _ _ _ _ _ _ us hl=>args4 hl fun _ _ _ _=>rfl) (fnT (W:=Z57) F Z5N Z6C (fun cdv A outer s H E hr=>have nd:=Z5N.nd;
  (@jsc _ _ _ _ _ (by walk_at "D") (@js1 _ _ _ (@jret _ _ _ _ (@jcmp _ _ _ _ _ _ _ _ (c_eq hr) (@jcomp _ _ _ _ _ _ _ (defScope Z2i) (["_law_one"]) (["_law_reads_here" , "_law_hours_here" , "_law_numbers" , "_law_hour"]) ([("_law_reads_here" , 0) , ("_law_numbers" , 2)]) _ _ _ _ rfl rfl rfl (@jiSeq _ _ _ _ (@jsl _ _ _ _ _ _ _ _ _ (by walk_at "D") (@jo0 _) (@jo _ _ _ (@jindex _ _ _ _ _ _ _ (by walk_at "D") (by walk_at "D") (star1 rfl) (by rfl) (by rfl) (by rfl))))) rfl rfl (by decide +kernel) (by decide +kernel) (by decide +kernel) (by decide +kernel) (fun cl C s3 H2 ex=>(@jg _ _ (0) _ (show List.Nodup (["_law_one" , "_law_reads_here" , "_law_numbers"]:List Str) from by decide +kernel) rfl (Or.inl rfl) (by walk_at "f"))) (fun cl C s3 H2 ex=>(@jts1 _ _ _ (by walk_at "D"))) (fun cl C s3 H2 ex=>(by walk_at "D")) (fun _=>rfl)) (@jlst _ _ _ _ (@ja0 _)) (nomark _)))))) Z75)
abbrev Z2j:Stmt:=top 67
theorem Z5r:FnScope ["_law_numbers", "_law_many", "_law_last", "_law_number"] ["_law_numbers", "_law_many"] (defScope Z2j):=by walk_at "s"
theorem Z6O{f:Addr}{fd:FuncData} (F:Fun K "_law_rising" "_law_rising" Z2j f fd) (m:mg "_law_rising" = some (.ref f)):Cal P w K mg base 1 "_law_rising" ["_law_numbers", "_law_many"] Z0U :=
 .mk F m (F.binds fun _ _ _ _ _ _ us hl=>args2 hl fun _ _=>rfl) (fnT (W:=Z3O) F Z5r Z6i (fun cdv A outer s H E hr=>by have nd:=Z5r.nd;unfold Z3O;walk_at "D") Z6D)
abbrev Z2O:Stmt:=top 68
theorem Z5O:FnScope ["_law_many", "_law_size", "_law_found", "_law_k"] ["_law_many", "_law_size"] (defScope Z2O):=by walk_at "s"
theorem Z7i{f:Addr}{fd:FuncData} (F:Fun K "_law_count" "_law_count" Z2O f fd) (m:mg "_law_count" = some (.ref f)) (z_range:mg "range" = none):Cal P w K mg base 1 "_law_count" ["_law_many", "_law_size"] Z27 :=
 .mk F m (F.binds fun _ _ _ _ _ _ us hl=>args2 hl fun _ _=>rfl) (fnT (W:=Z4b) F Z5O Z6E (fun cdv A outer s H E hr=>by have nd:=Z5O.nd;unfold Z4b;walk_at "D") Z76)
abbrev Z2k:Stmt:=top 69
theorem Z4F:FnScope ["_law_reads_here", "_law_hours_here", "_law_paper_here", "_law_size", "_law_many", "_law_lists", "_law_k", "_law_numbers", "_law_hour"] ["_law_reads_here", "_law_hours_here", "_law_paper_here", "_law_size", "_law_many"] (defScope Z2k):=by walk_at "s"
theorem Z7j{f:Addr}{fd:FuncData} (F:Fun K "_law_paper" "_law_paper" Z2k f fd) (m:mg "_law_paper" = some (.ref f)) (Z5f:Cal P w K mg base 1 "_law_count" ["_law_many", "_law_size"] Z27) (Z39:Cal P w K mg base 1 "_law_rising" ["_law_numbers", "_law_many"] Z0U) (Z3a:Cal P w K mg base 2 "_law_first" ["_law_reads_here", "_law_hours_here", "_law_numbers", "_law_hour"] Z1j) (z_len:mg "len" = none) (z_sorted:mg "sorted" = none) (z_range:mg "range" = none):Cal P w K mg base 3 "_law_paper" ["_law_reads_here", "_law_hours_here", "_law_paper_here", "_law_size", "_law_many"] Z28 :=
 .mk F m (F.binds fun _ _ _ _ _ _ us hl=>args5 hl fun _ _ _ _ _=>rfl) (fnT (W:=Z5a) F Z4F Z6H (fun cdv A outer s H E hr=>have nd:=Z4F.nd;
  (@jsc _ _ _ _ _ (@jsetc _ _ _ _ _ _ _ (defScope Z2k) (["_law_row"]) (["_law_reads_here" , "_law_hours_here" , "_law_paper_here" , "_law_size" , "_law_many" , "_law_lists" , "_law_k" , "_law_numbers" , "_law_hour"]) ([]) _ _ _ _ (5) _ _ _ Z4F.nd rfl (Or.inl rfl) rfl rfl rfl (by walk_at "D") rfl rfl (by decide +kernel) (by decide +kernel) (by decide +kernel) (by decide +kernel) (fun cl C s3 H2 ex=>(@jg _ _ (0) _ (show List.Nodup (["_law_row"]:List Str) from by decide +kernel) rfl (Or.inl rfl) (by walk_at "f"))) (fun cl C s3 H2 ex=>(@jts0 _)) (fun cl C s3 H2 ex=>(by walk_at "D")) (fun _=>rfl) (by rfl) (by walk_at "f")) (@jsc _ _ _ _ _ (by walk_at "D") (@jsc _ _ _ _ _ (@jfor _ _ _ _ _ _ _ _ PassesOwn.never rfl (by walk_at "D") (by walk_at "D") (@jsc _ _ _ _ _ (by walk_at "D") (@jsc _ _ _ _ _ (by walk_at "D") (@js1 _ _ _ (by walk_at "D")))) (fun _=>rfl)) (@js1 _ _ _ (@jret _ _ _ _ (@jb _ _ _ _))))))) Z79)
abbrev Z1G:Stmt:=top 70
theorem Z4o:FnScope ["_law_script", "_law_reads_here", "_law_found", "_law_many", "_law_names", "_law_numbers", "_law_dark", "_law_yard_here", "_law_hours_here"] ["_law_script"] (defScope Z1G):=by walk_at "s"
theorem Z7K{f:Addr}{fd:FuncData} (F:Fun K "law" "law" Z1G f fd) (Z5g:Cal P w K mg base 10 "_law_drawn" ["_law_script"] Z2I) (Z3C:Cal P w K mg base 9 "_law_reads" ["_law_yard_here"] Z1T) (Z2x:Cal P w K mg base 10 "fewest_dials" ["yard", "hours"] Z0e) (Z3a:Cal P w K mg base 2 "_law_first" ["_law_reads_here", "_law_hours_here", "_law_numbers", "_law_hour"] Z1j) (Z5b:Cal P w K mg base 1 "_law_any" ["_law_reads_here", "_law_hour", "_law_numbers"] Z1z) (Z39:Cal P w K mg base 1 "_law_rising" ["_law_numbers", "_law_many"] Z0U) (Z5h:Cal P w K mg base 3 "_law_paper" ["_law_reads_here", "_law_hours_here", "_law_paper_here", "_law_size", "_law_many"] Z28) (z_len:mg "len" = none) (z_range:mg "range" = none) (z_list:mg "list" = none):FnT P w K mg base 11 f fd ["_law_script"] lawSp :=
 fnT (W:=Z6I) F Z4o len_law (fun cdv A outer s H E hr=>have nd:=Z4o.nd;
  (@jsc _ _ _ _ _ (by walk_at "D") (@jsc _ _ _ _ _ (by walk_at "D") (@jsc _ _ _ _ _ (by walk_at "D") (@jsc _ _ _ _ _ (by walk_at "D") (@jsc _ _ _ _ _ (by walk_at "D") (@jsc _ _ _ _ _ (@jsif _ _ _ _ _ _ _ _ (by walk_at "D") (@js1 _ _ _ (@jret _ _ _ _ (@jcallC _ _ _ _ _ _ _ _ _ _ Z3a (hr.mono (by omega)) rfl (@ja _ _ _ _ _ (by walk_at "D") (@ja _ _ _ _ _ (by walk_at "D") (@ja _ _ _ _ _ (@jlistRE _ _ _ _ _ _ _ rfl rfl z_range rfl z_list (by walk_at "D") (star1 rfl) (star1 rfl) (stars rfl)) (by walk_at "D") (star1 rfl)) (star1 rfl)) (star1 rfl)) (by decide) (star1 rfl) (stars rfl)))) (@js0 _)) (@jsc _ _ _ _ _ (@jset _ _ _ _ (4) _ _ Z4o.nd rfl (Or.inr rfl) (@jcomp _ _ _ _ _ _ _ (defScope Z1G) (["_law_dial_here"]) (["_law_script" , "_law_reads_here" , "_law_found" , "_law_many" , "_law_names" , "_law_numbers" , "_law_dark" , "_law_yard_here" , "_law_hours_here"]) ([]) _ _ _ _ rfl rfl rfl (by walk_at "D") rfl rfl (by decide +kernel) (by decide +kernel) (by decide +kernel) (by decide +kernel) (fun cl C s3 H2 ex=>(@jg _ _ (0) _ (show List.Nodup (["_law_dial_here"]:List Str) from by decide +kernel) rfl (Or.inl rfl) (by walk_at "f"))) (fun cl C s3 H2 ex=>(@jts0 _)) (fun cl C s3 H2 ex=>(by walk_at "D")) (fun _=>rfl)) (by rfl) (by walk_at "f")) (@jsc _ _ _ _ _ (@jsif _ _ _ _ _ _ _ _ (@jw _ _ _ (@tor _ _ _ _ _ _ _ (by walk_at "D") (@tor1 _ _ _ _ (@tcmp _ _ _ _ _ _ _ _ (c_neE hr) (@jcomp _ _ _ _ _ _ _ (defScope Z1G) (["_law_name_here"]) (["_law_script" , "_law_reads_here" , "_law_found" , "_law_many" , "_law_names" , "_law_numbers" , "_law_dark" , "_law_yard_here" , "_law_hours_here"]) ([("_law_names" , 4)]) _ _ _ _ rfl rfl rfl (by walk_at "D") rfl rfl (by decide +kernel) (by decide +kernel) (by decide +kernel) (by decide +kernel) (fun cl C s3 H2 ex=>(@jg _ _ (0) _ (show List.Nodup (["_law_name_here" , "_law_names"]:List Str) from by decide +kernel) rfl (Or.inl rfl) (by walk_at "f"))) (fun cl C s3 H2 ex=>(@jts1 _ _ _ (by walk_at "D"))) (fun cl C s3 H2 ex=>(by walk_at "D")) (fun _=>rfl)) (@jlst _ _ _ _ (@ja0 _)) (nomark _))))) (@js1 _ _ _ (@jret _ _ _ _ (@jb _ _ _ _))) (@js0 _)) (@jsc _ _ _ _ _ (@jset _ _ _ _ (5) _ _ Z4o.nd rfl (Or.inr rfl) (@jcomp _ _ _ _ _ _ _ (defScope Z1G) (["_law_name_here"]) (["_law_script" , "_law_reads_here" , "_law_found" , "_law_many" , "_law_names" , "_law_numbers" , "_law_dark" , "_law_yard_here" , "_law_hours_here"]) ([("_law_names" , 4)]) _ _ _ _ rfl rfl rfl (by walk_at "D") rfl rfl (by decide +kernel) (by decide +kernel) (by decide +kernel) (by decide +kernel) (fun cl C s3 H2 ex=>(@jg _ _ (0) _ (show List.Nodup (["_law_name_here" , "_law_names"]:List Str) from by decide +kernel) rfl (Or.inl rfl) (by walk_at "f"))) (fun cl C s3 H2 ex=>(@jts0 _)) (fun cl C s3 H2 ex=>(@jindex _ _ _ _ _ _ _ (by walk_at "D") (by walk_at "D") (star1 rfl) (by rfl) (by rfl) (by rfl))) (fun _=>rfl)) (by rfl) (by walk_at "f")) (@jsc _ _ _ _ _ (@jsetc _ _ _ _ _ _ _ (defScope Z1G) (["_law_hour"]) (["_law_script" , "_law_reads_here" , "_law_found" , "_law_many" , "_law_names" , "_law_numbers" , "_law_dark" , "_law_yard_here" , "_law_hours_here"]) ([("_law_reads_here" , 1) , ("_law_numbers" , 5)]) _ _ _ _ (6) _ _ _ Z4o.nd rfl (Or.inl rfl) rfl rfl rfl (by walk_at "D") rfl rfl (by decide +kernel) (by decide +kernel) (by decide +kernel) (by decide +kernel) (fun cl C s3 H2 ex=>(@jg _ _ (0) _ (show List.Nodup (["_law_hour" , "_law_reads_here" , "_law_numbers"]:List Str) from by decide +kernel) rfl (Or.inl rfl) (by walk_at "f"))) (fun cl C s3 H2 ex=>(@jts1 _ _ _ (by walk_at "D"))) (fun cl C s3 H2 ex=>(by walk_at "D")) (fun _=>rfl) (by rfl) (by walk_at "f")) (@jsc _ _ _ _ _ (by walk_at "D") (@jsc _ _ _ _ _ (by walk_at "D") (@js1 _ _ _ (by walk_at "D"))))))))))))))) Z7G
end
theorem all_mk{l:PySem.W.OpenLaw}{w:World}{K:PySem.W.Frag}{h:Heap}{mg:Str->Option Value}{fa f0 f1 f2 f3 f4 f5 f6 f7 f8 f9 f10 f11 f12 f13 f14 f15 f16 f17 f18 f19 f20 f21 f22 f23 f24 f25 f26 f27 f28 f29 f30 f31 f32 f33 f34 f35 f36 f37 f38 f39 f40 f41 f42 f43 f44 f45 f46 f47 f48 f49 f50 f51 f52 f53 f54 f55:Addr}(X:K.In h)(G:h.Ns mainGlobals mg) (hfa:mg "law" = some (.ref fa))
  {od0 an0 od1 an1 od2 an2 od3 an3 od4 an4 od5 an5 od6 an6 od7 an7 od8 an8 od9 an9 od10 an10 od11 an11 od12 an12 od13 an13 od14 an14 od15 an15 od16 an16 od17 an17 od18 an18 od19 an19 od20 an20 od21 an21 od22 an22 od23 an23 od24 an24 od25 an25 od26 an26 od27 an27 od28 an28 od29 an29 od30 an30 od31 an31 od32 an32 od33 an33 od34 an34 od35 an35 od36 an36 od37 an37 od38 an38 od39 an39 od40 an40 od41 an41 od42 an42 od43 an43 od44 an44 od45 an45 od46 an46 od47 an47 od48 an48 od49 an49 od50 an50 od51 an51 od52 an52 od53 an53 od54 an54 od55 an55:Option Addr} {sl0 sl1 sl2 sl3 sl4 sl5 sl6 sl7 sl8 sl9 sl10 sl11 sl12 sl13 sl14 sl15 sl16 sl17 sl18 sl19 sl20 sl21 sl22 sl23 sl24 sl25 sl26 sl27 sl28 sl29 sl30 sl31 sl32 sl33 sl34 sl35 sl36 sl37 sl38 sl39 sl40 sl41 sl42 sl43 sl44 sl45 sl46 sl47 sl48 sl49 sl50 sl51 sl52 sl53 sl54 sl55:Array (Option Value)} {oc0 kV0 dc0 pm0 cd0 ct0 oc1 kV1 dc1 pm1 cd1 ct1 oc2 kV2 dc2 pm2 cd2 ct2 oc3 kV3 dc3 pm3 cd3 ct3 oc4 kV4 dc4 pm4 cd4 ct4 oc5 kV5 dc5 pm5 cd5 ct5 oc6 kV6 dc6 pm6 cd6 ct6 oc7 kV7 dc7 pm7 cd7 ct7 oc8 kV8 dc8 pm8 cd8 ct8 oc9 kV9 dc9 pm9 cd9 ct9 oc10 kV10 dc10 pm10 cd10 ct10 oc11 kV11 dc11 pm11 cd11 ct11 oc12 kV12 dc12 pm12 cd12 ct12 oc13 kV13 dc13 pm13 cd13 ct13 oc14 kV14 dc14 pm14 cd14 ct14 oc15 kV15 dc15 pm15 cd15 ct15 oc16 kV16 dc16 pm16 cd16 ct16 oc17 kV17 dc17 pm17 cd17 ct17 oc18 kV18 dc18 pm18 cd18 ct18 oc19 kV19 dc19 pm19 cd19 ct19 oc20 kV20 dc20 pm20 cd20 ct20 oc21 kV21 dc21 pm21 cd21 ct21 oc22 kV22 dc22 pm22 cd22 ct22 oc23 kV23 dc23 pm23 cd23 ct23 oc24 kV24 dc24 pm24 cd24 ct24 oc25 kV25 dc25 pm25 cd25 ct25 oc26 kV26 dc26 pm26 cd26 ct26 oc27 kV27 dc27 pm27 cd27 ct27 oc28 kV28 dc28 pm28 cd28 ct28 oc29 kV29 dc29 pm29 cd29 ct29 oc30 kV30 dc30 pm30 cd30 ct30 oc31 kV31 dc31 pm31 cd31 ct31 oc32 kV32 dc32 pm32 cd32 ct32 oc33 kV33 dc33 pm33 cd33 ct33 oc34 kV34 dc34 pm34 cd34 ct34 oc35 kV35 dc35 pm35 cd35 ct35 oc36 kV36 dc36 pm36 cd36 ct36 oc37 kV37 dc37 pm37 cd37 ct37 oc38 kV38 dc38 pm38 cd38 ct38 oc39 kV39 dc39 pm39 cd39 ct39 oc40 kV40 dc40 pm40 cd40 ct40 oc41 kV41 dc41 pm41 cd41 ct41 oc42 kV42 dc42 pm42 cd42 ct42 oc43 kV43 dc43 pm43 cd43 ct43 oc44 kV44 dc44 pm44 cd44 ct44 oc45 kV45 dc45 pm45 cd45 ct45 oc46 kV46 dc46 pm46 cd46 ct46 oc47 kV47 dc47 pm47 cd47 ct47 oc48 kV48 dc48 pm48 cd48 ct48 oc49 kV49 dc49 pm49 cd49 ct49 oc50 kV50 dc50 pm50 cd50 ct50 oc51 kV51 dc51 pm51 cd51 ct51 oc52 kV52 dc52 pm52 cd52 ct52 oc53 kV53 dc53 pm53 cd53 ct53 oc54 kV54 dc54 pm54 cd54 ct54 oc55 kV55 dc55 pm55 cd55 ct55:Value}
  (a0:PySem.W.nsIn K mainGlobals "_law_cell" = some (some (.ref f0))) (l0:K.lookup f0=some ⟨oc0,od0,.func (PySem.W.fnOf "_law_cell" "_law_cell" (defArgs Z3b) (defBody Z3b) (defScope Z3b) .none kV0 dc0 pm0 an0 cd0 ct0),sl0⟩) (c0:PySem.W.codeIn K cd0 "_law_cell" = true) (k0:PySem.W.keepIn K (.ref f0)=true)
  (a1:PySem.W.nsIn K mainGlobals "_law_wide" = some (some (.ref f1))) (l1:K.lookup f1=some ⟨oc1,od1,.func (PySem.W.fnOf "_law_wide" "_law_wide" (defArgs Z3c) (defBody Z3c) (defScope Z3c) .none kV1 dc1 pm1 an1 cd1 ct1),sl1⟩) (c1:PySem.W.codeIn K cd1 "_law_wide" = true) (k1:PySem.W.keepIn K (.ref f1)=true)
  (a2:PySem.W.nsIn K mainGlobals "_law_name" = some (some (.ref f2))) (l2:K.lookup f2=some ⟨oc2,od2,.func (PySem.W.fnOf "_law_name" "_law_name" (defArgs Z3d) (defBody Z3d) (defScope Z3d) .none kV2 dc2 pm2 an2 cd2 ct2),sl2⟩) (c2:PySem.W.codeIn K cd2 "_law_name" = true) (k2:PySem.W.keepIn K (.ref f2)=true)
  (a3:PySem.W.nsIn K mainGlobals "_law_rowed" = some (some (.ref f3))) (l3:K.lookup f3=some ⟨oc3,od3,.func (PySem.W.fnOf "_law_rowed" "_law_rowed" (defArgs Z1U) (defBody Z1U) (defScope Z1U) .none kV3 dc3 pm3 an3 cd3 ct3),sl3⟩) (c3:PySem.W.codeIn K cd3 "_law_rowed" = true) (k3:PySem.W.keepIn K (.ref f3)=true)
  (a4:PySem.W.nsIn K mainGlobals "_law_flat" = some (some (.ref f4))) (l4:K.lookup f4=some ⟨oc4,od4,.func (PySem.W.fnOf "_law_flat" "_law_flat" (defArgs Z3e) (defBody Z3e) (defScope Z3e) .none kV4 dc4 pm4 an4 cd4 ct4),sl4⟩) (c4:PySem.W.codeIn K cd4 "_law_flat" = true) (k4:PySem.W.keepIn K (.ref f4)=true)
  (a5:PySem.W.nsIn K mainGlobals "_law_sun" = some (some (.ref f5))) (l5:K.lookup f5=some ⟨oc5,od5,.func (PySem.W.fnOf "_law_sun" "_law_sun" (defArgs Z3P) (defBody Z3P) (defScope Z3P) .none kV5 dc5 pm5 an5 cd5 ct5),sl5⟩) (c5:PySem.W.codeIn K cd5 "_law_sun" = true) (k5:PySem.W.keepIn K (.ref f5)=true)
  (a6:PySem.W.nsIn K mainGlobals "_law_triple" = some (some (.ref f6))) (l6:K.lookup f6=some ⟨oc6,od6,.func (PySem.W.fnOf "_law_triple" "_law_triple" (defArgs Z2b) (defBody Z2b) (defScope Z2b) .none kV6 dc6 pm6 an6 cd6 ct6),sl6⟩) (c6:PySem.W.codeIn K cd6 "_law_triple" = true) (k6:PySem.W.keepIn K (.ref f6)=true)
  (a7:PySem.W.nsIn K mainGlobals "_law_cross" = some (some (.ref f7))) (l7:K.lookup f7=some ⟨oc7,od7,.func (PySem.W.fnOf "_law_cross" "_law_cross" (defArgs Z2K) (defBody Z2K) (defScope Z2K) .none kV7 dc7 pm7 an7 cd7 ct7),sl7⟩) (c7:PySem.W.codeIn K cd7 "_law_cross" = true) (k7:PySem.W.keepIn K (.ref f7)=true)
  (a8:PySem.W.nsIn K mainGlobals "_law_pair" = some (some (.ref f8))) (l8:K.lookup f8=some ⟨oc8,od8,.func (PySem.W.fnOf "_law_pair" "_law_pair" (defArgs Z3f) (defBody Z3f) (defScope Z3f) .none kV8 dc8 pm8 an8 cd8 ct8),sl8⟩) (c8:PySem.W.codeIn K cd8 "_law_pair" = true) (k8:PySem.W.keepIn K (.ref f8)=true)
  (a9:PySem.W.nsIn K mainGlobals "_law_dot" = some (some (.ref f9))) (l9:K.lookup f9=some ⟨oc9,od9,.func (PySem.W.fnOf "_law_dot" "_law_dot" (defArgs Z3Q) (defBody Z3Q) (defScope Z3Q) .none kV9 dc9 pm9 an9 cd9 ct9),sl9⟩) (c9:PySem.W.codeIn K cd9 "_law_dot" = true) (k9:PySem.W.keepIn K (.ref f9)=true)
  (a10:PySem.W.nsIn K mainGlobals "_law_on" = some (some (.ref f10))) (l10:K.lookup f10=some ⟨oc10,od10,.func (PySem.W.fnOf "_law_on" "_law_on" (defArgs Z4x) (defBody Z4x) (defScope Z4x) .none kV10 dc10 pm10 an10 cd10 ct10),sl10⟩) (c10:PySem.W.codeIn K cd10 "_law_on" = true) (k10:PySem.W.keepIn K (.ref f10)=true)
  (a11:PySem.W.nsIn K mainGlobals "_law_dial" = some (some (.ref f11))) (l11:K.lookup f11=some ⟨oc11,od11,.func (PySem.W.fnOf "_law_dial" "_law_dial" (defArgs Z3g) (defBody Z3g) (defScope Z3g) .none kV11 dc11 pm11 an11 cd11 ct11),sl11⟩) (c11:PySem.W.codeIn K cd11 "_law_dial" = true) (k11:PySem.W.keepIn K (.ref f11)=true)
  (a12:PySem.W.nsIn K mainGlobals "_law_fence" = some (some (.ref f12))) (l12:K.lookup f12=some ⟨oc12,od12,.func (PySem.W.fnOf "_law_fence" "_law_fence" (defArgs Z2L) (defBody Z2L) (defScope Z2L) .none kV12 dc12 pm12 an12 cd12 ct12),sl12⟩) (c12:PySem.W.codeIn K cd12 "_law_fence" = true) (k12:PySem.W.keepIn K (.ref f12)=true)
  (a13:PySem.W.nsIn K mainGlobals "_law_yard" = some (some (.ref f13))) (l13:K.lookup f13=some ⟨oc13,od13,.func (PySem.W.fnOf "_law_yard" "_law_yard" (defArgs Z2r) (defBody Z2r) (defScope Z2r) .none kV13 dc13 pm13 an13 cd13 ct13),sl13⟩) (c13:PySem.W.codeIn K cd13 "_law_yard" = true) (k13:PySem.W.keepIn K (.ref f13)=true)
  (a14:PySem.W.nsIn K mainGlobals "_law_either" = some (some (.ref f14))) (l14:K.lookup f14=some ⟨oc14,od14,.func (PySem.W.fnOf "_law_either" "_law_either" (defArgs Z2c) (defBody Z2c) (defScope Z2c) .none kV14 dc14 pm14 an14 cd14 ct14),sl14⟩) (c14:PySem.W.codeIn K cd14 "_law_either" = true) (k14:PySem.W.keepIn K (.ref f14)=true)
  (a15:PySem.W.nsIn K mainGlobals "is_whole" = some (some (.ref f15))) (l15:K.lookup f15=some ⟨oc15,od15,.func (PySem.W.fnOf "is_whole" "is_whole" (defArgs Z1B) (defBody Z1B) (defScope Z1B) .none kV15 dc15 pm15 an15 cd15 ct15),sl15⟩) (c15:PySem.W.codeIn K cd15 "is_whole" = true) (k15:PySem.W.keepIn K (.ref f15)=true)
  (a16:PySem.W.nsIn K mainGlobals "direction_at" = some (some (.ref f16))) (l16:K.lookup f16=some ⟨oc16,od16,.func (PySem.W.fnOf "direction_at" "direction_at" (defArgs Z0G) (defBody Z0G) (defScope Z0G) .none kV16 dc16 pm16 an16 cd16 ct16),sl16⟩) (c16:PySem.W.codeIn K cd16 "direction_at" = true) (k16:PySem.W.keepIn K (.ref f16)=true)
  (a17:PySem.W.nsIn K mainGlobals "dial_of" = some (some (.ref f17))) (l17:K.lookup f17=some ⟨oc17,od17,.func (PySem.W.fnOf "dial_of" "dial_of" (defArgs Z1V) (defBody Z1V) (defScope Z1V) .none kV17 dc17 pm17 an17 cd17 ct17),sl17⟩) (c17:PySem.W.codeIn K cd17 "dial_of" = true) (k17:PySem.W.keepIn K (.ref f17)=true)
  (a18:PySem.W.nsIn K mainGlobals "is_up" = some (some (.ref f18))) (l18:K.lookup f18=some ⟨oc18,od18,.func (PySem.W.fnOf "is_up" "is_up" (defArgs Z2M) (defBody Z2M) (defScope Z2M) .none kV18 dc18 pm18 an18 cd18 ct18),sl18⟩) (c18:PySem.W.codeIn K cd18 "is_up" = true) (k18:PySem.W.keepIn K (.ref f18)=true)
  (a19:PySem.W.nsIn K mainGlobals "cross_of" = some (some (.ref f19))) (l19:K.lookup f19=some ⟨oc19,od19,.func (PySem.W.fnOf "cross_of" "cross_of" (defArgs Z1C) (defBody Z1C) (defScope Z1C) .none kV19 dc19 pm19 an19 cd19 ct19),sl19⟩) (c19:PySem.W.codeIn K cd19 "cross_of" = true) (k19:PySem.W.keepIn K (.ref f19)=true)
  (a20:PySem.W.nsIn K mainGlobals "front_of" = some (some (.ref f20))) (l20:K.lookup f20=some ⟨oc20,od20,.func (PySem.W.fnOf "front_of" "front_of" (defArgs Z1D) (defBody Z1D) (defScope Z1D) .none kV20 dc20 pm20 an20 cd20 ct20),sl20⟩) (c20:PySem.W.codeIn K cd20 "front_of" = true) (k20:PySem.W.keepIn K (.ref f20)=true)
  (a21:PySem.W.nsIn K mainGlobals "dot_of" = some (some (.ref f21))) (l21:K.lookup f21=some ⟨oc21,od21,.func (PySem.W.fnOf "dot_of" "dot_of" (defArgs Z2d) (defBody Z2d) (defScope Z2d) .none kV21 dc21 pm21 an21 cd21 ct21),sl21⟩) (c21:PySem.W.codeIn K cd21 "dot_of" = true) (k21:PySem.W.keepIn K (.ref f21)=true)
  (a22:PySem.W.nsIn K mainGlobals "comes_from_ahead" = some (some (.ref f22))) (l22:K.lookup f22=some ⟨oc22,od22,.func (PySem.W.fnOf "comes_from_ahead" "comes_from_ahead" (defArgs Z0f) (defBody Z0f) (defScope Z0f) .none kV22 dc22 pm22 an22 cd22 ct22),sl22⟩) (c22:PySem.W.codeIn K cd22 "comes_from_ahead" = true) (k22:PySem.W.keepIn K (.ref f22)=true)
  (a23:PySem.W.nsIn K mainGlobals "as_point" = some (some (.ref f23))) (l23:K.lookup f23=some ⟨oc23,od23,.func (PySem.W.fnOf "as_point" "as_point" (defArgs Z1b) (defBody Z1b) (defScope Z1b) .none kV23 dc23 pm23 an23 cd23 ct23),sl23⟩) (c23:PySem.W.codeIn K cd23 "as_point" = true) (k23:PySem.W.keepIn K (.ref f23)=true)
  (a24:PySem.W.nsIn K mainGlobals "greatest_factor" = some (some (.ref f24))) (l24:K.lookup f24=some ⟨oc24,od24,.func (PySem.W.fnOf "greatest_factor" "greatest_factor" (defArgs Z0m) (defBody Z0m) (defScope Z0m) .none kV24 dc24 pm24 an24 cd24 ct24),sl24⟩) (c24:PySem.W.codeIn K cd24 "greatest_factor" = true) (k24:PySem.W.keepIn K (.ref f24)=true)
  (a25:PySem.W.nsIn K mainGlobals "ratio_of" = some (some (.ref f25))) (l25:K.lookup f25=some ⟨oc25,od25,.func (PySem.W.fnOf "ratio_of" "ratio_of" (defArgs Z1E) (defBody Z1E) (defScope Z1E) .none kV25 dc25 pm25 an25 cd25 ct25),sl25⟩) (c25:PySem.W.codeIn K cd25 "ratio_of" = true) (k25:PySem.W.keepIn K (.ref f25)=true)
  (a26:PySem.W.nsIn K mainGlobals "ratio_less" = some (some (.ref f26))) (l26:K.lookup f26=some ⟨oc26,od26,.func (PySem.W.fnOf "ratio_less" "ratio_less" (defArgs Z11) (defBody Z11) (defScope Z11) .none kV26 dc26 pm26 an26 cd26 ct26),sl26⟩) (c26:PySem.W.codeIn K cd26 "ratio_less" = true) (k26:PySem.W.keepIn K (.ref f26)=true)
  (a27:PySem.W.nsIn K mainGlobals "point_less" = some (some (.ref f27))) (l27:K.lookup f27=some ⟨oc27,od27,.func (PySem.W.fnOf "point_less" "point_less" (defArgs Z0I) (defBody Z0I) (defScope Z0I) .none kV27 dc27 pm27 an27 cd27 ct27),sl27⟩) (c27:PySem.W.codeIn K cd27 "point_less" = true) (k27:PySem.W.keepIn K (.ref f27)=true)
  (a28:PySem.W.nsIn K mainGlobals "ratio_times" = some (some (.ref f28))) (l28:K.lookup f28=some ⟨oc28,od28,.func (PySem.W.fnOf "ratio_times" "ratio_times" (defArgs Z0K) (defBody Z0K) (defScope Z0K) .none kV28 dc28 pm28 an28 cd28 ct28),sl28⟩) (c28:PySem.W.codeIn K cd28 "ratio_times" = true) (k28:PySem.W.keepIn K (.ref f28)=true)
  (a29:PySem.W.nsIn K mainGlobals "ratio_sum" = some (some (.ref f29))) (l29:K.lookup f29=some ⟨oc29,od29,.func (PySem.W.fnOf "ratio_sum" "ratio_sum" (defArgs Z1k) (defBody Z1k) (defScope Z1k) .none kV29 dc29 pm29 an29 cd29 ct29),sl29⟩) (c29:PySem.W.codeIn K cd29 "ratio_sum" = true) (k29:PySem.W.keepIn K (.ref f29)=true)
  (a30:PySem.W.nsIn K mainGlobals "point_dot" = some (some (.ref f30))) (l30:K.lookup f30=some ⟨oc30,od30,.func (PySem.W.fnOf "point_dot" "point_dot" (defArgs Z0V) (defBody Z0V) (defScope Z0V) .none kV30 dc30 pm30 an30 cd30 ct30),sl30⟩) (c30:PySem.W.codeIn K cd30 "point_dot" = true) (k30:PySem.W.keepIn K (.ref f30)=true)
  (a31:PySem.W.nsIn K mainGlobals "ratio_by" = some (some (.ref f31))) (l31:K.lookup f31=some ⟨oc31,od31,.func (PySem.W.fnOf "ratio_by" "ratio_by" (defArgs Z1F) (defBody Z1F) (defScope Z1F) .none kV31 dc31 pm31 an31 cd31 ct31),sl31⟩) (c31:PySem.W.codeIn K cd31 "ratio_by" = true) (k31:PySem.W.keepIn K (.ref f31)=true)
  (a32:PySem.W.nsIn K mainGlobals "meeting_of" = some (some (.ref f32))) (l32:K.lookup f32=some ⟨oc32,od32,.func (PySem.W.fnOf "meeting_of" "meeting_of" (defArgs Z12) (defBody Z12) (defScope Z12) .none kV32 dc32 pm32 an32 cd32 ct32),sl32⟩) (c32:PySem.W.codeIn K cd32 "meeting_of" = true) (k32:PySem.W.keepIn K (.ref f32)=true)
  (a33:PySem.W.nsIn K mainGlobals "shadow_of" = some (some (.ref f33))) (l33:K.lookup f33=some ⟨oc33,od33,.func (PySem.W.fnOf "shadow_of" "shadow_of" (defArgs Z1l) (defBody Z1l) (defScope Z1l) .none kV33 dc33 pm33 an33 cd33 ct33),sl33⟩) (c33:PySem.W.codeIn K cd33 "shadow_of" = true) (k33:PySem.W.keepIn K (.ref f33)=true)
  (a34:PySem.W.nsIn K mainGlobals "lies_on" = some (some (.ref f34))) (l34:K.lookup f34=some ⟨oc34,od34,.func (PySem.W.fnOf "lies_on" "lies_on" (defArgs Z1u) (defBody Z1u) (defScope Z1u) .none kV34 dc34 pm34 an34 cd34 ct34),sl34⟩) (c34:PySem.W.codeIn K cd34 "lies_on" = true) (k34:PySem.W.keepIn K (.ref f34)=true)
  (a35:PySem.W.nsIn K mainGlobals "number_at" = some (some (.ref f35))) (l35:K.lookup f35=some ⟨oc35,od35,.func (PySem.W.fnOf "number_at" "number_at" (defArgs Z1m) (defBody Z1m) (defScope Z1m) .none kV35 dc35 pm35 an35 cd35 ct35),sl35⟩) (c35:PySem.W.codeIn K cd35 "number_at" = true) (k35:PySem.W.keepIn K (.ref f35)=true)
  (a36:PySem.W.nsIn K mainGlobals "point_of" = some (some (.ref f36))) (l36:K.lookup f36=some ⟨oc36,od36,.func (PySem.W.fnOf "point_of" "point_of" (defArgs Z1c) (defBody Z1c) (defScope Z1c) .none kV36 dc36 pm36 an36 cd36 ct36),sl36⟩) (c36:PySem.W.codeIn K cd36 "point_of" = true) (k36:PySem.W.keepIn K (.ref f36)=true)
  (a37:PySem.W.nsIn K mainGlobals "goes_towards" = some (some (.ref f37))) (l37:K.lookup f37=some ⟨oc37,od37,.func (PySem.W.fnOf "goes_towards" "goes_towards" (defArgs Z0H) (defBody Z0H) (defScope Z0H) .none kV37 dc37 pm37 an37 cd37 ct37),sl37⟩) (c37:PySem.W.codeIn K cd37 "goes_towards" = true) (k37:PySem.W.keepIn K (.ref f37)=true)
  (a38:PySem.W.nsIn K mainGlobals "hides_point" = some (some (.ref f38))) (l38:K.lookup f38=some ⟨oc38,od38,.func (PySem.W.fnOf "hides_point" "hides_point" (defArgs Z0L) (defBody Z0L) (defScope Z0L) .none kV38 dc38 pm38 an38 cd38 ct38),sl38⟩) (c38:PySem.W.codeIn K cd38 "hides_point" = true) (k38:PySem.W.keepIn K (.ref f38)=true)
  (a39:PySem.W.nsIn K mainGlobals "names_hiding" = some (some (.ref f39))) (l39:K.lookup f39=some ⟨oc39,od39,.func (PySem.W.fnOf "names_hiding" "names_hiding" (defArgs Z0g) (defBody Z0g) (defScope Z0g) .none kV39 dc39 pm39 an39 cd39 ct39),sl39⟩) (c39:PySem.W.codeIn K cd39 "names_hiding" = true) (k39:PySem.W.keepIn K (.ref f39)=true)
  (a40:PySem.W.nsIn K mainGlobals "told_at" = some (some (.ref f40))) (l40:K.lookup f40=some ⟨oc40,od40,.func (PySem.W.fnOf "told_at" "told_at" (defArgs Z1W) (defBody Z1W) (defScope Z1W) .none kV40 dc40 pm40 an40 cd40 ct40),sl40⟩) (c40:PySem.W.codeIn K cd40 "told_at" = true) (k40:PySem.W.keepIn K (.ref f40)=true)
  (a41:PySem.W.nsIn K mainGlobals "_law_reads" = some (some (.ref f41))) (l41:K.lookup f41=some ⟨oc41,od41,.func (PySem.W.fnOf "_law_reads" "_law_reads" (defArgs Z2N) (defBody Z2N) (defScope Z2N) .none kV41 dc41 pm41 an41 cd41 ct41),sl41⟩) (c41:PySem.W.codeIn K cd41 "_law_reads" = true) (k41:PySem.W.keepIn K (.ref f41)=true)
  (a42:PySem.W.nsIn K mainGlobals "_law_hours" = some (some (.ref f42))) (l42:K.lookup f42=some ⟨oc42,od42,.func (PySem.W.fnOf "_law_hours" "_law_hours" (defArgs Z2f) (defBody Z2f) (defScope Z2f) .none kV42 dc42 pm42 an42 cd42 ct42),sl42⟩) (c42:PySem.W.codeIn K cd42 "_law_hours" = true) (k42:PySem.W.keepIn K (.ref f42)=true)
  (a43:PySem.W.nsIn K mainGlobals "_law_drawn" = some (some (.ref f43))) (l43:K.lookup f43=some ⟨oc43,od43,.func (PySem.W.fnOf "_law_drawn" "_law_drawn" (defArgs Z2g) (defBody Z2g) (defScope Z2g) .none kV43 dc43 pm43 an43 cd43 ct43),sl43⟩) (c43:PySem.W.codeIn K cd43 "_law_drawn" = true) (k43:PySem.W.keepIn K (.ref f43)=true)
  (a44:PySem.W.nsIn K mainGlobals "hours_once" = some (some (.ref f44))) (l44:K.lookup f44=some ⟨oc44,od44,.func (PySem.W.fnOf "hours_once" "hours_once" (defArgs Z13) (defBody Z13) (defScope Z13) .none kV44 dc44 pm44 an44 cd44 ct44),sl44⟩) (c44:PySem.W.codeIn K cd44 "hours_once" = true) (k44:PySem.W.keepIn K (.ref f44)=true)
  (a45:PySem.W.nsIn K mainGlobals "dials_reading" = some (some (.ref f45))) (l45:K.lookup f45=some ⟨oc45,od45,.func (PySem.W.fnOf "dials_reading" "dials_reading" (defArgs Z0j) (defBody Z0j) (defScope Z0j) .none kV45 dc45 pm45 an45 cd45 ct45),sl45⟩) (c45:PySem.W.codeIn K cd45 "dials_reading" = true) (k45:PySem.W.keepIn K (.ref f45)=true)
  (a46:PySem.W.nsIn K mainGlobals "first_without" = some (some (.ref f46))) (l46:K.lookup f46=some ⟨oc46,od46,.func (PySem.W.fnOf "first_without" "first_without" (defArgs Z0k) (defBody Z0k) (defScope Z0k) .none kV46 dc46 pm46 an46 cd46 ct46),sl46⟩) (c46:PySem.W.codeIn K cd46 "first_without" = true) (k46:PySem.W.keepIn K (.ref f46)=true)
  (a47:PySem.W.nsIn K mainGlobals "rising_lists" = some (some (.ref f47))) (l47:K.lookup f47=some ⟨oc47,od47,.func (PySem.W.fnOf "rising_lists" "rising_lists" (defArgs Z0o) (defBody Z0o) (defScope Z0o) .none kV47 dc47 pm47 an47 cd47 ct47),sl47⟩) (c47:PySem.W.codeIn K cd47 "rising_lists" = true) (k47:PySem.W.keepIn K (.ref f47)=true)
  (a48:PySem.W.nsIn K mainGlobals "fewest_of" = some (some (.ref f48))) (l48:K.lookup f48=some ⟨oc48,od48,.func (PySem.W.fnOf "fewest_of" "fewest_of" (defArgs Z0t) (defBody Z0t) (defScope Z0t) .none kV48 dc48 pm48 an48 cd48 ct48),sl48⟩) (c48:PySem.W.codeIn K cd48 "fewest_of" = true) (k48:PySem.W.keepIn K (.ref f48)=true)
  (a49:PySem.W.nsIn K mainGlobals "fewest_dials" = some (some (.ref f49))) (l49:K.lookup f49=some ⟨oc49,od49,.func (PySem.W.fnOf "fewest_dials" "fewest_dials" (defArgs Z0p) (defBody Z0p) (defScope Z0p) .none kV49 dc49 pm49 an49 cd49 ct49),sl49⟩) (c49:PySem.W.codeIn K cd49 "fewest_dials" = true) (k49:PySem.W.keepIn K (.ref f49)=true)
  (a50:PySem.W.nsIn K mainGlobals "_law_any" = some (some (.ref f50))) (l50:K.lookup f50=some ⟨oc50,od50,.func (PySem.W.fnOf "_law_any" "_law_any" (defArgs Z3r) (defBody Z3r) (defScope Z3r) .none kV50 dc50 pm50 an50 cd50 ct50),sl50⟩) (c50:PySem.W.codeIn K cd50 "_law_any" = true) (k50:PySem.W.keepIn K (.ref f50)=true)
  (a51:PySem.W.nsIn K mainGlobals "_law_first" = some (some (.ref f51))) (l51:K.lookup f51=some ⟨oc51,od51,.func (PySem.W.fnOf "_law_first" "_law_first" (defArgs Z2i) (defBody Z2i) (defScope Z2i) .none kV51 dc51 pm51 an51 cd51 ct51),sl51⟩) (c51:PySem.W.codeIn K cd51 "_law_first" = true) (k51:PySem.W.keepIn K (.ref f51)=true)
  (a52:PySem.W.nsIn K mainGlobals "_law_rising" = some (some (.ref f52))) (l52:K.lookup f52=some ⟨oc52,od52,.func (PySem.W.fnOf "_law_rising" "_law_rising" (defArgs Z2j) (defBody Z2j) (defScope Z2j) .none kV52 dc52 pm52 an52 cd52 ct52),sl52⟩) (c52:PySem.W.codeIn K cd52 "_law_rising" = true) (k52:PySem.W.keepIn K (.ref f52)=true)
  (a53:PySem.W.nsIn K mainGlobals "_law_count" = some (some (.ref f53))) (l53:K.lookup f53=some ⟨oc53,od53,.func (PySem.W.fnOf "_law_count" "_law_count" (defArgs Z2O) (defBody Z2O) (defScope Z2O) .none kV53 dc53 pm53 an53 cd53 ct53),sl53⟩) (c53:PySem.W.codeIn K cd53 "_law_count" = true) (k53:PySem.W.keepIn K (.ref f53)=true)
  (a54:PySem.W.nsIn K mainGlobals "_law_paper" = some (some (.ref f54))) (l54:K.lookup f54=some ⟨oc54,od54,.func (PySem.W.fnOf "_law_paper" "_law_paper" (defArgs Z2k) (defBody Z2k) (defScope Z2k) .none kV54 dc54 pm54 an54 cd54 ct54),sl54⟩) (c54:PySem.W.codeIn K cd54 "_law_paper" = true) (k54:PySem.W.keepIn K (.ref f54)=true)
  (a55:PySem.W.nsIn K mainGlobals "law" = some (some (.ref f55))) (l55:K.lookup f55=some ⟨oc55,od55,.func (PySem.W.fnOf "law" "law" (defArgs Z1G) (defBody Z1G) (defScope Z1G) .none kV55 dc55 pm55 an55 cd55 ct55),sl55⟩) (c55:PySem.W.codeIn K cd55 "law" = true) (k55:PySem.W.keepIn K (.ref f55)=true)
  (z0:PySem.W.nsIn K mainGlobals "len" = some none)
  (z1:PySem.W.nsIn K mainGlobals "range" = some none)
  (z2:PySem.W.nsIn K mainGlobals "list" = some none)
  (z3:PySem.W.nsIn K mainGlobals "isinstance" = some none)
  (z4:PySem.W.nsIn K mainGlobals "int" = some none)
  (z5:PySem.W.nsIn K mainGlobals "bool" = some none)
  (z6:PySem.W.nsIn K mainGlobals "str" = some none)
  (z7:PySem.W.nsIn K mainGlobals "tuple" = some none)
  (z8:PySem.W.nsIn K mainGlobals "abs" = some none)
  (z9:PySem.W.nsIn K mainGlobals "all" = some none)
  (z10:PySem.W.nsIn K mainGlobals "sorted" = some none)
  (z11:PySem.W.nsIn K mainGlobals "enumerate" = some none)
  (z12:PySem.W.nsIn K mainGlobals "any" = some none)
  : ∃fd:FuncData,(∀(s:Shared)(v:Value),BindsTo s fd ⟨[v],[]⟩ [("_law_script", v)])/\∀base:Heap,K.In base->base.Ns mainGlobals mg->FnOk l.prog w K mg base CX0 11 fa fd ["_law_script"] (spT K 1 lawSp):=by
 have e:=hfa.symm.trans (PySem.W.mg_of X G a55)
 cases e
 have F0:=fun_mk (st:=Z3b) l0 c0 k0
 have F1:=fun_mk (st:=Z3c) l1 c1 k1
 have F2:=fun_mk (st:=Z3d) l2 c2 k2
 have F3:=fun_mk (st:=Z1U) l3 c3 k3
 have F4:=fun_mk (st:=Z3e) l4 c4 k4
 have F5:=fun_mk (st:=Z3P) l5 c5 k5
 have F6:=fun_mk (st:=Z2b) l6 c6 k6
 have F7:=fun_mk (st:=Z2K) l7 c7 k7
 have F8:=fun_mk (st:=Z3f) l8 c8 k8
 have F9:=fun_mk (st:=Z3Q) l9 c9 k9
 have F10:=fun_mk (st:=Z4x) l10 c10 k10
 have F11:=fun_mk (st:=Z3g) l11 c11 k11
 have F12:=fun_mk (st:=Z2L) l12 c12 k12
 have F13:=fun_mk (st:=Z2r) l13 c13 k13
 have F14:=fun_mk (st:=Z2c) l14 c14 k14
 have F15:=fun_mk (st:=Z1B) l15 c15 k15
 have F16:=fun_mk (st:=Z0G) l16 c16 k16
 have F17:=fun_mk (st:=Z1V) l17 c17 k17
 have F18:=fun_mk (st:=Z2M) l18 c18 k18
 have F19:=fun_mk (st:=Z1C) l19 c19 k19
 have F20:=fun_mk (st:=Z1D) l20 c20 k20
 have F21:=fun_mk (st:=Z2d) l21 c21 k21
 have F22:=fun_mk (st:=Z0f) l22 c22 k22
 have F23:=fun_mk (st:=Z1b) l23 c23 k23
 have F24:=fun_mk (st:=Z0m) l24 c24 k24
 have F25:=fun_mk (st:=Z1E) l25 c25 k25
 have F26:=fun_mk (st:=Z11) l26 c26 k26
 have F27:=fun_mk (st:=Z0I) l27 c27 k27
 have F28:=fun_mk (st:=Z0K) l28 c28 k28
 have F29:=fun_mk (st:=Z1k) l29 c29 k29
 have F30:=fun_mk (st:=Z0V) l30 c30 k30
 have F31:=fun_mk (st:=Z1F) l31 c31 k31
 have F32:=fun_mk (st:=Z12) l32 c32 k32
 have F33:=fun_mk (st:=Z1l) l33 c33 k33
 have F34:=fun_mk (st:=Z1u) l34 c34 k34
 have F35:=fun_mk (st:=Z1m) l35 c35 k35
 have F36:=fun_mk (st:=Z1c) l36 c36 k36
 have F37:=fun_mk (st:=Z0H) l37 c37 k37
 have F38:=fun_mk (st:=Z0L) l38 c38 k38
 have F39:=fun_mk (st:=Z0g) l39 c39 k39
 have F40:=fun_mk (st:=Z1W) l40 c40 k40
 have F41:=fun_mk (st:=Z2N) l41 c41 k41
 have F42:=fun_mk (st:=Z2f) l42 c42 k42
 have F43:=fun_mk (st:=Z2g) l43 c43 k43
 have F44:=fun_mk (st:=Z13) l44 c44 k44
 have F45:=fun_mk (st:=Z0j) l45 c45 k45
 have F46:=fun_mk (st:=Z0k) l46 c46 k46
 have F47:=fun_mk (st:=Z0o) l47 c47 k47
 have F48:=fun_mk (st:=Z0t) l48 c48 k48
 have F49:=fun_mk (st:=Z0p) l49 c49 k49
 have F50:=fun_mk (st:=Z3r) l50 c50 k50
 have F51:=fun_mk (st:=Z2i) l51 c51 k51
 have F52:=fun_mk (st:=Z2j) l52 c52 k52
 have F53:=fun_mk (st:=Z2O) l53 c53 k53
 have F54:=fun_mk (st:=Z2k) l54 c54 k54
 have F55:=fun_mk (st:=Z1G) l55 c55 k55
 have z_len:=PySem.W.mg_none_of X G z0
 have z_range:=PySem.W.mg_none_of X G z1
 have z_list:=PySem.W.mg_none_of X G z2
 have z_isinstance:=PySem.W.mg_none_of X G z3
 have z_int:=PySem.W.mg_none_of X G z4
 have z_bool:=PySem.W.mg_none_of X G z5
 have z_str:=PySem.W.mg_none_of X G z6
 have z_tuple:=PySem.W.mg_none_of X G z7
 have z_abs:=PySem.W.mg_none_of X G z8
 have z_all:=PySem.W.mg_none_of X G z9
 have z_sorted:=PySem.W.mg_none_of X G z10
 have z_enumerate:=PySem.W.mg_none_of X G z11
 have z_any:=PySem.W.mg_none_of X G z12
 refine⟨PySem.W.fnOf "law" "law" (defArgs Z1G) (defBody Z1G) (defScope Z1G) .none kV55 dc55 pm55 an55 cd55 ct55,fun s v=>.of_eq rfl,fun base _ _=>?_⟩
 have Z4c:=Z7u (P:=l.prog) (w:=w) (base:=base) F0 (PySem.W.mg_of X G a0) z_len
 have Z1a:=Z7v (P:=l.prog) (w:=w) (base:=base) F1 (PySem.W.mg_of X G a1) Z4c z_len
 have Z3n:=Z7w (P:=l.prog) (w:=w) (base:=base) F2 (PySem.W.mg_of X G a2) Z1a
 have Z5e:=Z7a (P:=l.prog) (w:=w) (base:=base) F3 (PySem.W.mg_of X G a3) Z1a Z3n z_range z_list z_len
 have Z63:=Z7x (P:=l.prog) (w:=w) (base:=base) F4 (PySem.W.mg_of X G a4) Z1a Z3n z_range z_list z_len
 have Z6K:=Z7H (P:=l.prog) (w:=w) (base:=base) F5 (PySem.W.mg_of X G a5) Z1a z_range
 have Z38:=Z6L (P:=l.prog) (w:=w) (base:=base) F6 (PySem.W.mg_of X G a6)
 have Z3A:=Z7b (P:=l.prog) (w:=w) (base:=base) F7 (PySem.W.mg_of X G a7)
 have Z4d:=Z7y (P:=l.prog) (w:=w) (base:=base) F8 (PySem.W.mg_of X G a8) Z38 Z3A
 have Z6J:=Z7I (P:=l.prog) (w:=w) (base:=base) F9 (PySem.W.mg_of X G a9)
 have Z6j:=Z7M (P:=l.prog) (w:=w) (base:=base) F10 (PySem.W.mg_of X G a10)
 have Z62:=Z7A (P:=l.prog) (w:=w) (base:=base) F11 (PySem.W.mg_of X G a11) Z4d Z3A Z6J Z38 Z6j z_len
 have Z5c:=Z7c (P:=l.prog) (w:=w) (base:=base) F12 (PySem.W.mg_of X G a12) Z4d Z6j z_len
 have Z64:=Z7B (P:=l.prog) (w:=w) (base:=base) F13 (PySem.W.mg_of X G a13) Z1a Z6K Z62 Z5c Z3n z_range z_len
 have Z4w:=Z6M (P:=l.prog) (w:=w) (base:=base) F14 (PySem.W.mg_of X G a14) Z4c Z63 Z64
 have Z2p:=Z65 (P:=l.prog) (w:=w) (base:=base) F15 (PySem.W.mg_of X G a15) z_isinstance z_int z_bool
 have Z0y:=Z4y (P:=l.prog) (w:=w) (base:=base) F16 (PySem.W.mg_of X G a16) Z2p
 have Z40:=Z6p (P:=l.prog) (w:=w) (base:=base) F17 (PySem.W.mg_of X G a17) z_isinstance z_str
 have Z5d:=Z7d (P:=l.prog) (w:=w) (base:=base) F18 (PySem.W.mg_of X G a18) Z0y
 have Z2q:=Z66 (P:=l.prog) (w:=w) (base:=base) F19 (PySem.W.mg_of X G a19)
 have Z1s:=Z67 (P:=l.prog) (w:=w) (base:=base) F20 (PySem.W.mg_of X G a20) Z2q
 have Z29:=Z6N (P:=l.prog) (w:=w) (base:=base) F21 (PySem.W.mg_of X G a21)
 have Z1I:=Z3F (P:=l.prog) (w:=w) (base:=base) F22 (PySem.W.mg_of X G a22) Z1s Z29
 have Z3D:=Z68 (P:=l.prog) (w:=w) (base:=base) F23 (PySem.W.mg_of X G a23) z_tuple
 have Z1P:=Z3S (P:=l.prog) (w:=w) (base:=base) F24 (PySem.W.mg_of X G a24) z_abs
 have Z0O:=Z69 (P:=l.prog) (w:=w) (base:=base) F25 (PySem.W.mg_of X G a25) Z2p Z1P
 have Z31:=Z5m (P:=l.prog) (w:=w) (base:=base) F26 (PySem.W.mg_of X G a26) Z0O
 have Z1J:=Z5n (P:=l.prog) (w:=w) (base:=base) F27 (PySem.W.mg_of X G a27) Z31 z_range z_tuple
 have Z1t:=Z4P (P:=l.prog) (w:=w) (base:=base) F28 (PySem.W.mg_of X G a28) Z0O
 have Z1Z:=Z5E (P:=l.prog) (w:=w) (base:=base) F29 (PySem.W.mg_of X G a29) Z0O
 have Z20:=Z5F (P:=l.prog) (w:=w) (base:=base) F30 (PySem.W.mg_of X G a30) Z1t Z1Z z_range
 have Z3B:=Z6a (P:=l.prog) (w:=w) (base:=base) F31 (PySem.W.mg_of X G a31) Z0O
 have Z1K:=Z5o (P:=l.prog) (w:=w) (base:=base) F32 (PySem.W.mg_of X G a32) Z1s Z29 Z1J Z2q Z20 Z3B
 have Z3p:=Z5G (P:=l.prog) (w:=w) (base:=base) F33 (PySem.W.mg_of X G a33) Z1I Z3D Z1K
 have Z2P:=Z6q (P:=l.prog) (w:=w) (base:=base) F34 (PySem.W.mg_of X G a34) z_all
 have Z3o:=Z5H (P:=l.prog) (w:=w) (base:=base) F35 (PySem.W.mg_of X G a35) Z1t Z1Z
 have Z3E:=Z6b (P:=l.prog) (w:=w) (base:=base) F36 (PySem.W.mg_of X G a36) Z3o z_range z_tuple
 have Z2y:=Z4z (P:=l.prog) (w:=w) (base:=base) F37 (PySem.W.mg_of X G a37) Z1s Z1J Z20 Z29
 have Z2R:=Z4Q (P:=l.prog) (w:=w) (base:=base) F38 (PySem.W.mg_of X G a38) Z2y Z1K Z2P
 have Z2z:=Z4A (P:=l.prog) (w:=w) (base:=base) F39 (PySem.W.mg_of X G a39) Z3E Z2R z_sorted
 have Z2Q:=Z6r (P:=l.prog) (w:=w) (base:=base) F40 (PySem.W.mg_of X G a40) Z0y Z40 Z5d Z3p Z2P Z2z
 have Z3C:=Z7e (P:=l.prog) (w:=w) (base:=base) F41 (PySem.W.mg_of X G a41) Z2Q z_len z_range
 have Z5p:=Z7f (P:=l.prog) (w:=w) (base:=base) F42 (PySem.W.mg_of X G a42) Z1a z_range z_len
 have Z5g:=Z7g (P:=l.prog) (w:=w) (base:=base) F43 (PySem.W.mg_of X G a43) Z1a Z5e Z4w Z3C Z5p
 have Z32:=Z5q (P:=l.prog) (w:=w) (base:=base) F44 (PySem.W.mg_of X G a44) Z0y z_list
 have Z2a:=Z4m (P:=l.prog) (w:=w) (base:=base) F45 (PySem.W.mg_of X G a45) Z2Q z_enumerate
 have Z1A:=Z4n (P:=l.prog) (w:=w) (base:=base) F46 (PySem.W.mg_of X G a46) z_all z_any
 have Z2A:=Z4D (P:=l.prog) (w:=w) (base:=base) F47 (PySem.W.mg_of X G a47) z_range
 have Z3q:=Z5I (P:=l.prog) (w:=w) (base:=base) F48 (PySem.W.mg_of X G a48) Z1A Z2A z_len z_range z_list
 have Z2x:=Z4E (P:=l.prog) (w:=w) (base:=base) F49 (PySem.W.mg_of X G a49) Z32 Z2a Z3q
 have Z5b:=Z7J (P:=l.prog) (w:=w) (base:=base) F50 (PySem.W.mg_of X G a50)
 have Z3a:=Z7h (P:=l.prog) (w:=w) (base:=base) F51 (PySem.W.mg_of X G a51) Z5b
 have Z39:=Z6O (P:=l.prog) (w:=w) (base:=base) F52 (PySem.W.mg_of X G a52)
 have Z5f:=Z7i (P:=l.prog) (w:=w) (base:=base) F53 (PySem.W.mg_of X G a53) z_range
 have Z5h:=Z7j (P:=l.prog) (w:=w) (base:=base) F54 (PySem.W.mg_of X G a54) Z5f Z39 Z3a z_len z_sorted z_range
 exact(Z7K (P:=l.prog) (w:=w) (base:=base) F55 Z5g Z3C Z2x Z3a Z5b Z39 Z5h z_len z_range z_list).ok
end TL
open PySem PySem.W PyProof.Rows
def PySem.W.Fast.tw12488669337287775767:Nat:=0
def PySem.W.Fast.tw462196537046870352:Nat:=0
def PySem.W.Fast.tw13576741068227218623:Nat:=0
def PySem.W.Fast.tw6117056283373350969:Nat:=0
def PySem.W.Fast.tw10158253893839198761:Nat:=0
def PySem.W.Fast.tw5546198385463014733:Nat:=0
def PySem.W.Fast.tw15174320220596601718:Nat:=0
def PySem.W.Fast.tw16708422702943167405:Nat:=0
def PySem.W.Fast.tw7978682328199024201:Nat:=0
def PySem.W.Fast.tw13964872133207014139:Nat:=0
def PySem.W.Fast.tw15948677168319007107:Nat:=0
def PySem.W.Fast.tw1680828581783385647:Nat:=0
def PySem.W.Fast.tw17056449353968771800:Nat:=0
def PySem.W.Fast.tw6938013674406743582:Nat:=0
def PySem.W.Fast.tw7842587049010731486:Nat:=0
def PySem.W.Fast.tw3117834015231105202:Nat:=0
def PySem.W.Fast.tw14130688295379687364:Nat:=0
def PySem.W.Fast.tw5771069678440542486:Nat:=0
def PySem.W.Fast.tw2407523474253800724:Nat:=0
def PySem.W.Fast.tw6590142897649576571:Nat:=0
def PySem.W.Fast.tw2922683489777317969:Nat:=0
def PySem.W.Fast.tw2945578697186199736:Nat:=0
def PySem.W.Fast.tw9712597254537209575:Nat:=0
def PySem.W.Fast.tw10626269106529691464:Nat:=0
def PySem.W.Fast.tw13260526449187393350:Nat:=0
def PySem.W.Fast.tw6519344557016167457:Nat:=0
def PySem.W.Fast.tw7644882258816237671:Nat:=0
def PySem.W.Fast.tw12521202947556761772:Nat:=0
def PySem.W.Fast.tw4600373008629242119:Nat:=0
def PySem.W.Fast.tw3354260504807722639:Nat:=0
def PySem.W.Fast.tw18018795074764872171:Nat:=0
def PySem.W.Fast.tw8041533065189619898:Nat:=0
def PySem.W.Fast.tw17420823415130443672:Nat:=0
def PySem.W.Fast.tw7177257352562496448:Nat:=0
def PySem.W.Fast.tw2671180292733402583:Nat:=0
def PySem.W.Fast.tw10334027754437206463:Nat:=0
def PySem.W.Fast.tw12327615527642029166:Nat:=0
def PySem.W.Fast.tw2213025225637620815:Nat:=0
def PySem.W.Fast.tw5996720902366395952:Nat:=0
def PySem.W.Fast.tw3822827542483784389:Nat:=0
def PySem.W.Fast.tw10288024382085025223:Nat:=0
def PySem.W.Fast.tw3249320308206878546:Nat:=0
def PySem.W.Fast.tw13328639544380315275:Nat:=0
def PySem.W.Fast.tw11357588679665643641:Nat:=0
def PySem.W.Fast.tw15996184634554564347:Nat:=0
def PySem.W.Fast.tw9031908141795543768:Nat:=0
def PySem.W.Fast.tw15273853260145703610:Nat:=0
def PySem.W.Fast.tw14321525683180227100:Nat:=0
def PySem.W.Fast.tw226877440116831580:Nat:=0
def PySem.W.Fast.tw4123798825647312417:Nat:=0
def PySem.W.Fast.tw7537686271860678149:Nat:=0
def PySem.W.Fast.tw877206517967723223:Nat:=0
def PySem.W.Fast.tw270192662304088357:Nat:=0
def PySem.W.Fast.tw2735702311181070774:Nat:=0
def PySem.W.Fast.tw6734585319531564656:Nat:=0
def PySem.W.Fast.tw10706427283840862467:Nat:=0
def PySem.W.Fast.tw1206321617351246688:Nat:=0
def PySem.W.Fast.tw15151447613725331251:Nat:=0
def PySem.W.Fast.tw12404893367511740207:Nat:=0
def PySem.W.Fast.tw3452492964466731884:Nat:=0
def PySem.W.Fast.tw9112894023075691731:Nat:=0
def PySem.W.Fast.tw4743855344906139040:Nat:=0
def PySem.W.Fast.tw11837023747273124244:Nat:=0
def PySem.W.Fast.tw553689601293433703:Nat:=0
def PySem.W.Fast.tw10212259714273444588:Nat:=0
def PySem.W.Fast.tw13777607804707748658:Nat:=0
def PySem.W.Fast.tw10737806855685586564:Nat:=0
def PySem.W.Fast.tw4137911908350422362:Nat:=0
def PySem.W.Fast.tw15677710989127482300:Nat:=0
def PySem.W.Fast.tw1418159724118758182:Nat:=0
def PySem.W.Fast.tw11557421438924182008:Nat:=0
def PySem.W.Fast.tw7329910612145382862:Nat:=0
def PySem.W.Fast.tw4410507256314916411:Nat:=0
def PySem.W.Fast.tw16339258555242225298:Nat:=0
def PySem.W.Fast.tw8649943850525727925:Nat:=0
def PySem.W.Fast.tw15466684861158961517:Nat:=0
def PySem.W.Fast.tw4984304375594760062:Nat:=0
def PySem.W.Fast.tw14059180453370828566:Nat:=0
def PySem.W.Fast.tw1581519893473718650:Nat:=0
def PySem.W.Fast.tw2928371972395671799:Nat:=0
def PySem.W.Fast.tw3812840443675005385:Nat:=0
def PySem.W.Fast.tw3395185595978414551:Nat:=0
def PySem.W.Fast.tw8538240931065989970:Nat:=0
def PySem.W.Fast.tw6763998950994338541:Nat:=0
def PySem.W.Fast.tw4154600975966900186:Nat:=0
def PySem.W.Fast.tw8423397306190105076:Nat:=0
set_option maxRecDepth 100000 in
set_option maxHeartbeats 0 in
theorem PySem.Challenge.cw_dialyard_k64_whole_dials_and_their_paper_holds : PySem.Challenge.rw_dialyard_k64_whole_dials_and_their_paper.Holds := by
 w_on;o_law;k_head;(case hw=>w_witness2)
 k_fill
 refine TL.walk (l:=PySem.Challenge.rw_dialyard_k64_whole_dials_and_their_paper) (x := "_law_script") (k:=11) rfl rfl ⟨rfl,by decide,by decide⟩ (fun w h Y=>PySem.W.kIn_of Y) ?F
 case F =>
  intro w mg fa h KX G hmg
  refine' TL.all_mk KX G hmg ?a0 ?l0 ?c0 ?k0 ?a1 ?l1 ?c1 ?k1 ?a2 ?l2 ?c2 ?k2 ?a3 ?l3 ?c3 ?k3 ?a4 ?l4 ?c4 ?k4 ?a5 ?l5 ?c5 ?k5 ?a6 ?l6 ?c6 ?k6 ?a7 ?l7 ?c7 ?k7 ?a8 ?l8 ?c8 ?k8 ?a9 ?l9 ?c9 ?k9 ?a10 ?l10 ?c10 ?k10 ?a11 ?l11 ?c11 ?k11 ?a12 ?l12 ?c12 ?k12 ?a13 ?l13 ?c13 ?k13 ?a14 ?l14 ?c14 ?k14 ?a15 ?l15 ?c15 ?k15 ?a16 ?l16 ?c16 ?k16 ?a17 ?l17 ?c17 ?k17 ?a18 ?l18 ?c18 ?k18 ?a19 ?l19 ?c19 ?k19 ?a20 ?l20 ?c20 ?k20 ?a21 ?l21 ?c21 ?k21 ?a22 ?l22 ?c22 ?k22 ?a23 ?l23 ?c23 ?k23 ?a24 ?l24 ?c24 ?k24 ?a25 ?l25 ?c25 ?k25 ?a26 ?l26 ?c26 ?k26 ?a27 ?l27 ?c27 ?k27 ?a28 ?l28 ?c28 ?k28 ?a29 ?l29 ?c29 ?k29 ?a30 ?l30 ?c30 ?k30 ?a31 ?l31 ?c31 ?k31 ?a32 ?l32 ?c32 ?k32 ?a33 ?l33 ?c33 ?k33 ?a34 ?l34 ?c34 ?k34 ?a35 ?l35 ?c35 ?k35 ?a36 ?l36 ?c36 ?k36 ?a37 ?l37 ?c37 ?k37 ?a38 ?l38 ?c38 ?k38 ?a39 ?l39 ?c39 ?k39 ?a40 ?l40 ?c40 ?k40 ?a41 ?l41 ?c41 ?k41 ?a42 ?l42 ?c42 ?k42 ?a43 ?l43 ?c43 ?k43 ?a44 ?l44 ?c44 ?k44 ?a45 ?l45 ?c45 ?k45 ?a46 ?l46 ?c46 ?k46 ?a47 ?l47 ?c47 ?k47 ?a48 ?l48 ?c48 ?k48 ?a49 ?l49 ?c49 ?k49 ?a50 ?l50 ?c50 ?k50 ?a51 ?l51 ?c51 ?k51 ?a52 ?l52 ?c52 ?k52 ?a53 ?l53 ?c53 ?k53 ?a54 ?l54 ?c54 ?k54 ?a55 ?l55 ?c55 ?k55 ?z0 ?z1 ?z2 ?z3 ?z4 ?z5 ?z6 ?z7 ?z8 ?z9 ?z10 ?z11 ?z12
  (case a0=>k_is)
  (case l0=>k_is)
  (case c0=>k_is)
  (case k0=>k_is)
  (case a1=>k_is)
  (case l1=>k_is)
  (case c1=>k_is)
  (case k1=>k_is)
  (case a2=>k_is)
  (case l2=>k_is)
  (case c2=>k_is)
  (case k2=>k_is)
  (case a3=>k_is)
  (case l3=>k_is)
  (case c3=>k_is)
  (case k3=>k_is)
  (case a4=>k_is)
  (case l4=>k_is)
  (case c4=>k_is)
  (case k4=>k_is)
  (case a5=>k_is)
  (case l5=>k_is)
  (case c5=>k_is)
  (case k5=>k_is)
  (case a6=>k_is)
  (case l6=>k_is)
  (case c6=>k_is)
  (case k6=>k_is)
  (case a7=>k_is)
  (case l7=>k_is)
  (case c7=>k_is)
  (case k7=>k_is)
  (case a8=>k_is)
  (case l8=>k_is)
  (case c8=>k_is)
  (case k8=>k_is)
  (case a9=>k_is)
  (case l9=>k_is)
  (case c9=>k_is)
  (case k9=>k_is)
  (case a10=>k_is)
  (case l10=>k_is)
  (case c10=>k_is)
  (case k10=>k_is)
  (case a11=>k_is)
  (case l11=>k_is)
  (case c11=>k_is)
  (case k11=>k_is)
  (case a12=>k_is)
  (case l12=>k_is)
  (case c12=>k_is)
  (case k12=>k_is)
  (case a13=>k_is)
  (case l13=>k_is)
  (case c13=>k_is)
  (case k13=>k_is)
  (case a14=>k_is)
  (case l14=>k_is)
  (case c14=>k_is)
  (case k14=>k_is)
  (case a15=>k_is)
  (case l15=>k_is)
  (case c15=>k_is)
  (case k15=>k_is)
  (case a16=>k_is)
  (case l16=>k_is)
  (case c16=>k_is)
  (case k16=>k_is)
  (case a17=>k_is)
  (case l17=>k_is)
  (case c17=>k_is)
  (case k17=>k_is)
  (case a18=>k_is)
  (case l18=>k_is)
  (case c18=>k_is)
  (case k18=>k_is)
  (case a19=>k_is)
  (case l19=>k_is)
  (case c19=>k_is)
  (case k19=>k_is)
  (case a20=>k_is)
  (case l20=>k_is)
  (case c20=>k_is)
  (case k20=>k_is)
  (case a21=>k_is)
  (case l21=>k_is)
  (case c21=>k_is)
  (case k21=>k_is)
  (case a22=>k_is)
  (case l22=>k_is)
  (case c22=>k_is)
  (case k22=>k_is)
  (case a23=>k_is)
  (case l23=>k_is)
  (case c23=>k_is)
  (case k23=>k_is)
  (case a24=>k_is)
  (case l24=>k_is)
  (case c24=>k_is)
  (case k24=>k_is)
  (case a25=>k_is)
  (case l25=>k_is)
  (case c25=>k_is)
  (case k25=>k_is)
  (case a26=>k_is)
  (case l26=>k_is)
  (case c26=>k_is)
  (case k26=>k_is)
  (case a27=>k_is)
  (case l27=>k_is)
  (case c27=>k_is)
  (case k27=>k_is)
  (case a28=>k_is)
  (case l28=>k_is)
  (case c28=>k_is)
  (case k28=>k_is)
  (case a29=>k_is)
  (case l29=>k_is)
  (case c29=>k_is)
  (case k29=>k_is)
  (case a30=>k_is)
  (case l30=>k_is)
  (case c30=>k_is)
  (case k30=>k_is)
  (case a31=>k_is)
  (case l31=>k_is)
  (case c31=>k_is)
  (case k31=>k_is)
  (case a32=>k_is)
  (case l32=>k_is)
  (case c32=>k_is)
  (case k32=>k_is)
  (case a33=>k_is)
  (case l33=>k_is)
  (case c33=>k_is)
  (case k33=>k_is)
  (case a34=>k_is)
  (case l34=>k_is)
  (case c34=>k_is)
  (case k34=>k_is)
  (case a35=>k_is)
  (case l35=>k_is)
  (case c35=>k_is)
  (case k35=>k_is)
  (case a36=>k_is)
  (case l36=>k_is)
  (case c36=>k_is)
  (case k36=>k_is)
  (case a37=>k_is)
  (case l37=>k_is)
  (case c37=>k_is)
  (case k37=>k_is)
  (case a38=>k_is)
  (case l38=>k_is)
  (case c38=>k_is)
  (case k38=>k_is)
  (case a39=>k_is)
  (case l39=>k_is)
  (case c39=>k_is)
  (case k39=>k_is)
  (case a40=>k_is)
  (case l40=>k_is)
  (case c40=>k_is)
  (case k40=>k_is)
  (case a41=>k_is)
  (case l41=>k_is)
  (case c41=>k_is)
  (case k41=>k_is)
  (case a42=>k_is)
  (case l42=>k_is)
  (case c42=>k_is)
  (case k42=>k_is)
  (case a43=>k_is)
  (case l43=>k_is)
  (case c43=>k_is)
  (case k43=>k_is)
  (case a44=>k_is)
  (case l44=>k_is)
  (case c44=>k_is)
  (case k44=>k_is)
  (case a45=>k_is)
  (case l45=>k_is)
  (case c45=>k_is)
  (case k45=>k_is)
  (case a46=>k_is)
  (case l46=>k_is)
  (case c46=>k_is)
  (case k46=>k_is)
  (case a47=>k_is)
  (case l47=>k_is)
  (case c47=>k_is)
  (case k47=>k_is)
  (case a48=>k_is)
  (case l48=>k_is)
  (case c48=>k_is)
  (case k48=>k_is)
  (case a49=>k_is)
  (case l49=>k_is)
  (case c49=>k_is)
  (case k49=>k_is)
  (case a50=>k_is)
  (case l50=>k_is)
  (case c50=>k_is)
  (case k50=>k_is)
  (case a51=>k_is)
  (case l51=>k_is)
  (case c51=>k_is)
  (case k51=>k_is)
  (case a52=>k_is)
  (case l52=>k_is)
  (case c52=>k_is)
  (case k52=>k_is)
  (case a53=>k_is)
  (case l53=>k_is)
  (case c53=>k_is)
  (case k53=>k_is)
  (case a54=>k_is)
  (case l54=>k_is)
  (case c54=>k_is)
  (case k54=>k_is)
  (case a55=>k_is)
  (case l55=>k_is)
  (case c55=>k_is)
  (case k55=>k_is)
  (case z0=>k_is)
  (case z1=>k_is)
  (case z2=>k_is)
  (case z3=>k_is)
  (case z4=>k_is)
  (case z5=>k_is)
  (case z6=>k_is)
  (case z7=>k_is)
  (case z8=>k_is)
  (case z9=>k_is)
  (case z10=>k_is)
  (case z11=>k_is)
  (case z12=>k_is)
