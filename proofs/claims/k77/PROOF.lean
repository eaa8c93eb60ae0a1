import PyProof.Rows.All
import Wide.All
import OpenK.AllK
import Wide.FinOn
import Lean
import PyProof.EqAt
import PyProof.EqKinds
import PyProof.TupleCall
import PySem.Challenge.RW_dialyard_k77_whole_lit_by_parts
set_option Elab.async false
set_option linter.all false
set_option maxRecDepth 100000
set_option maxHeartbeats 4000000
namespace L2
open PySem PySem.Spec PyProof.Rows
abbrev Key:=Sum Int Str
def keyIs:Key->Value->Bool
 | .inl k,v=>Value.isInt k v
 | .inr x,v=>Value.isStrOf x v
def keyH(w:World):Key->Int
 | .inl k=>hashInt k
 | .inr x=>hashStr w x
theorem keyIs_shape:∀{k:Key}{v:Value},keyIs k v=true->(∃i t,k=Sum.inl i/\v=Value.int i t)∨(∃x t,k=Sum.inr x/\v=Value.str x t)
 | .inl i,v,h=>by
  obtain⟨t,e⟩:=Value.isInt_shape (k:=i) (v:=v) h
  exact .inl ⟨i,t,rfl,e⟩
 | .inr x,v,h=>by
  obtain⟨t,e⟩:=Value.isStrOf_shape (x:=x) (v:=v) h
  exact .inr ⟨x,t,rfl,e⟩
theorem key_ll(a b:Int):decide ((Sum.inl a:Key)=Sum.inl b)=(a==b):=by
 by_cases e:a=b
 ·subst e;simp
 ·have h:¬ (Sum.inl a:Key)=Sum.inl b:=fun q=>e (Sum.inl.inj q)
  rw[decide_eq_false h]
  exact(beq_eq_false_iff_ne.mpr e).symm
theorem key_rr(a b:Str):decide ((Sum.inr a:Key)=Sum.inr b)=decide (a=b):=by
 by_cases e:a=b
 ·subst e;simp
 ·have h:¬ (Sum.inr a:Key)=Sum.inr b:=fun q=>e (Sum.inr.inj q)
  rw[decide_eq_false h,decide_eq_false e]
theorem key_lr(a:Int)(b:Str):decide ((Sum.inl a:Key)=Sum.inr b)=false:=decide_eq_false (fun q=>nomatch q)
theorem key_rl(a:Str)(b:Int):decide ((Sum.inr a:Key)=Sum.inl b)=false:=decide_eq_false (fun q=>nomatch q)
def mixKind(prog:Program)(w:World):PySem.KeyKind prog w Key where
 is:=keyIs
 hash:=keyH w
 inj:=fun v a b ha hb=>by
  rcases keyIs_shape ha with ⟨i,t,rfl,rfl⟩|⟨x,t,rfl,rfl⟩
  ·rcases keyIs_shape hb with ⟨j,u,rfl,e⟩|⟨y,u,rfl,e⟩
   ·injection e with e1 _;rw[e1]
   ·exact nomatch e
  ·rcases keyIs_shape hb with ⟨j,u,rfl,e⟩|⟨y,u,rfl,e⟩
   ·exact nomatch e
   ·injection e with e1 _;rw[e1]
 byValue:=fun k v h=>by
  rcases keyIs_shape h with ⟨i,t,rfl,rfl⟩|⟨x,t,rfl,rfl⟩<;>rfl
 pyHash:=fun hv h=>by
  rcases keyIs_shape hv with ⟨i,t,rfl,rfl⟩|⟨x,t,rfl,rfl⟩
  ·exact wpAny_pyHash_int h
  ·exact wpAny_pyHash_str h
 eqBool:=fun hu hv h=>by
  rcases keyIs_shape hu with ⟨i,t,rfl,rfl⟩|⟨x,t,rfl,rfl⟩
  ·rcases keyIs_shape hv with ⟨j,u,rfl,rfl⟩|⟨y,u,rfl,rfl⟩
   ·rw[key_ll]at h;exact wpAny_eqBool_int h
   ·rw[key_lr]at h;exact SeqAt.EqAt.int_str i t y u _ _ _ _ h
  ·rcases keyIs_shape hv with ⟨j,u,rfl,rfl⟩|⟨y,u,rfl,rfl⟩
   ·rw[key_rl]at h;exact SeqAt.EqAt.str_int x t j u _ _ _ _ h
   ·rw[key_rr]at h;exact wpAny_eqBool_str h
 «strs»:=fun k x t v h=>by
  rcases keyIs_shape h with ⟨i,u,rfl,e⟩|⟨y,u,rfl,e⟩
  ·exact nomatch e
  ·injection e with e1 _
   subst e1
   cases v<;>rfl
end L2
namespace L2
open PySem PySem.Spec PyProof.Rows
inductive V where
 | non|bl (b:Bool)|int (i:Int)|str (x:Str)|byt (b:Array UInt8)|flt (b:UInt64)|ref (a:Addr)|ty (n:String)
 deriving DecidableEq
def RelV:V->Value->Prop
 | .non,u=>u=Value.none
 | .bl b,u=>u=Value.bool b
 | .int i,u=>∃t,u=Value.int i t
 | .str x,u=>∃t,u=Value.str x t
 | .byt b,u=>∃t,u=Value.bytes b t
 | .flt b,u=>∃t,u=Value.float b t
 | .ref a,u=>u=Value.ref a
 | .ty n,u=>u=Value.type n
abbrev Vals:List V->List Value->Prop:=Paired RelV
theorem Vals.length{xs:List V}{us:List Value}(r:Vals xs us):xs.length=us.length:=Paired.length r
theorem Vals.get:∀{xs:List V}{us:List Value}{i:Nat}{x:V},Vals xs us->xs[i]?=some x->∃u,us[i]?=some u/\RelV x u
 | _,_,_,_,.nil,e=>by simp at e
 | _,_,0,_,.cons r _,e=>by simp at e;subst e;exact⟨_,rfl,r⟩
 | _,_,i + 1,x,.cons _ t,e=>by
  obtain⟨u,h1,h2⟩:=Vals.get (i:=i) (x:=x) t (by simpa using e)
  exact⟨u,by simpa using h1,h2⟩
theorem Vals.set{x:V}{u:Value}(r:RelV x u):∀{xs:List V}{us:List Value}(i:Nat),Vals xs us->Vals (xs.set i x) (us.set i u)
 | _,_,_,.nil=>.nil
 | _,_,0,.cons _ t=>.cons r t
 | _,_,i + 1,.cons q t=>.cons q (Vals.set r i t)
theorem Vals.append:∀{xs ys:List V}{us ws:List Value},Vals xs us->Vals ys ws->Vals (xs++ys) (us++ws)
 | _,_,_,_,.nil,s=>s
 | _,_,_,_,.cons r t,s=>.cons r (Vals.append t s)
theorem Vals.take:∀{xs:List V}{us:List Value}(n:Nat),Vals xs us->Vals (xs.take n) (us.take n)
 | _,_,0,_=>.nil
 | _,_,_ + 1,.nil=>.nil
 | _,_,n + 1,.cons r t=>.cons r (Vals.take n t)
theorem Vals.drop:∀{xs:List V}{us:List Value}(n:Nat),Vals xs us->Vals (xs.drop n) (us.drop n)
 | _,_,0,r=>r
 | _,_,_ + 1,.nil=>.nil
 | _,_,n + 1,.cons _ t=>Vals.drop n t
def RelO:Option V->Option Value->Prop
 | some v,some u=>RelV v u
 | none,none=>True
 | _,_=>False
def KV{κ:Type}:List (κ×V)->List (κ×Value)->Prop:=Paired fun (p:κ×V) (q:κ×Value)=>p.1=q.1/\RelV p.2 q.2
def kV:Key->V
 | .inl i=>.int i
 | .inr x=>.str x
inductive HO where
 | lst (xs:List V)
 | tup (xs:List V)
 | dK (kvs:List (Key×V))|dT (kvs:List (List Key×V))
 | set (S:Int->Bool) (n:Nat)
 | ins (C dx:Addr) (fs:List (Str×V))
 | own (x:Addr)
 | xd (fs:List (Str×V))
 | met (f x:Addr)
 | rng (lo hi:Int)
 | frz (o:Obj) (u:HO)
 | tbl (ps:Array Value)
 | ext (φ:Heap->Prop)
abbrev Hp:=Addr->Option HO
def upd(H:Hp)(a:Addr)(o:HO):Hp:=fun b=>if b=a then some o else H b
theorem upd_same{H:Hp}{a:Addr}{o:HO}:upd H a o a=some o:=by unfold upd;rw[if_pos rfl]
theorem upd_ne{H:Hp}{a b:Addr}{o:HO}(h:b≠a):upd H a o b=H b:=by unfold upd;rw[if_neg h]
theorem upd_upd{H:Hp}{a:Addr}{o u:HO}:upd (upd H a o) a u=upd H a u:=by
 funext b;unfold upd;split<;>rfl
theorem ne_of_none{H:Hp}{a b:Addr}{o:HO}(h:H a=some o)(h':H b=none):a≠b:=by
 intro e;subst e;rw[h]at h';cases h'
section
variable (P:Program) (w:World)
def ObjOk(H:Hp)(h:Heap)(a:Addr):HO->Prop
 | .lst xs=>xs.length<=sizeLine/\∃(its:List Value) (n:Nat),Vals xs its/\h.get? a=some {cls:=.type "list", data:=.seq its.toArray n}
 | .tup xs=>xs.length<=sizeLine/\∃its:List Value,Vals xs its/\IsTup h a its.toArray
 | .dK kvs=>kvs.length<=sizeLine/\(a==sysModules)=false/\∃vs,KV kvs vs/\h.DictOf (mixKind P w) a vs
 | .dT kvs=>kvs.length<=sizeLine/\(a==sysModules)=false/\∃xs:List (List Key×Addr×Value),
   Paired (fun (p:List Key×V) (q:List Key×Addr×Value)=>p.1=q.1/\H q.2.1=some (.tup (p.1.map kV))/\RelV p.2 q.2.2) kvs xs ∧
   ∃o es ep,h.get? a=some o/\o.ExactDict/\o.data=.dict es ep/\es.toList=xs.map (entryOfKey (tupleKind (mixKind P w)))/\(xs.map (·.1)).Nodup
 | .set S n=>h.SetOf (intKind P w) a S n
 | .ins C dx fs=>H dx=some (.own a)/\fs.length<=1000/\dx≠a/\h.get? a=some (PySem.W.instObj C dx) ∧
   ∃mA,h.Ns1 dx mA/\(∀f,RelO (fs.lookup f) (mA f))/\PySem.Within mA (fs.map (·.1))
 | .own _=>∃o,h.get? a=some o
 | .xd fs=>∃mA,h.Ns1 a mA/\∀f,RelO (fs.lookup f) (mA f)
 | .rng lo hi=>∃t u v,h.get? a=some {cls:=.type "range", data:=.fields #[.int lo t,.int hi u,.int 1 v]}
 | .frz o u=>h.get? a=some o/\ObjOk H h a u
 | .tbl ps=>h.get? a=some {cls:=.none,data:=.fields ps}
 | .met f x=>h.get? a=some (PySem.W.methodObj (.ref f) (.ref x))
 | .ext φ=>φ h/\(∃o,h.get? a=some o)/\∀h1 h2:Heap,φ h1->(∀o,h1.get? a=some o->h2.get? a=some o)->φ h2
def HOk(H:Hp)(h:Heap):Prop:=∀a o,H a=some o->ObjOk P w H h a o
end
section
variable {P:Program} {w:World} {H H':Hp} {h h':Heap} {a:Addr} {o:HO}
theorem ObjOk.lt(x:ObjOk P w H h a o):a < h.objs.size:=by
 cases o with
 | lst xs=>obtain⟨_,_,_,_,e⟩:=x;exact Heap.lt_size e
 | tup xs=>obtain⟨_,_,_,p⟩:=x;exact p.lt
 | dK kvs=>obtain⟨_,_,_,_,o,_,_,e,_⟩:=x;exact Heap.lt_size e
 | dT kvs=>obtain⟨_,_,_,_,o,_,_,e,_⟩:=x;exact Heap.lt_size e
 | set S n=>obtain⟨o,_,_,_,e,_⟩:=x;exact Heap.lt_size e
 | ins C dx fs=>obtain⟨_,_,_,e,_⟩:=x;exact Heap.lt_size e
 | own y=>obtain⟨_,e⟩:=x;exact Heap.lt_size e
 | xd fs=>obtain⟨_,⟨_,_,_,e,_⟩,_⟩:=x;exact Heap.lt_size e
 | rng lo hi=>obtain⟨_,_,_,e⟩:=x;exact Heap.lt_size e
 | frz ob u=>obtain⟨e,_⟩:=x;exact Heap.lt_size e
 | tbl ps=>exact Heap.lt_size (show h.get? a=some _ from x)
 | met f y=>exact Heap.lt_size (show h.get? a=some _ from x)
 | ext φ=>obtain⟨_,⟨_,e⟩,_⟩:=x;exact Heap.lt_size e
theorem Paired.mapP{α β:Type}{F G:α->β->Prop}:∀{l₁:List α}{l₂:List β},Paired F l₁ l₂->(∀a b,F a b->G a b)->Paired G l₁ l₂
 | _,_,.nil,_=>.nil
 | _,_,.cons r t,f=>.cons (f _ _ r) (Paired.mapP t f)
theorem ObjOk.stay(x:ObjOk P w H h a o)(k:∀b u,(b=a∨H b=some (.own a))->h.get? b=some u->h'.get? b=some u)
  (ho:∀b,H b=some (.own a)->H' b=some (.own a)) (ht:∀b xs,H b=some (.tup xs)->H' b=some (.tup xs)):ObjOk P w H' h' a o:=by
 induction o with
 | lst xs=>obtain⟨z,its,n,r,e⟩:=x;exact⟨z,its,n,r,k _ _ (.inl rfl) e⟩
 | tup xs=>obtain⟨z,its,r,ob,e,c⟩:=x;exact⟨z,its,r,ob,k _ _ (.inl rfl) e,c⟩
 | dK kvs=>obtain⟨z,y,vs,r,ob,es,ep,e,c⟩:=x;exact⟨z,y,vs,r,ob,es,ep,k _ _ (.inl rfl) e,c⟩
 | dT kvs =>
  obtain⟨z,y,xs,r,ob,es,ep,e,c⟩:=x
  exact⟨z,y,xs,Paired.mapP r fun p q z=>⟨z.1,ht _ _ z.2.1,z.2.2⟩,ob,es,ep,k _ _ (.inl rfl) e,c⟩
 | set S n=>obtain⟨ob,es,ep,t,e,c⟩:=x;exact⟨ob,es,ep,t,k _ _ (.inl rfl) e,c⟩
 | ins C dx fs =>
  obtain⟨d,z,ne,e,mA,⟨od,es,ep,e2,c⟩,r⟩:=x
  exact⟨ho _ d,z,ne,k _ _ (.inl rfl) e,mA,⟨od,es,ep,k _ _ (.inr d) e2,c⟩,r⟩
 | own y=>obtain⟨ob,e⟩:=x;exact⟨ob,k _ _ (.inl rfl) e⟩
 | xd fs=>obtain⟨mA,⟨od,es,ep,e,c⟩,r⟩:=x;exact⟨mA,⟨od,es,ep,k _ _ (.inl rfl) e,c⟩,r⟩
 | rng lo hi=>obtain⟨t,u,v,e⟩:=x;exact⟨t,u,v,k _ _ (.inl rfl) e⟩
 | frz ob u ih=>obtain⟨e,q⟩:=x;exact⟨k _ _ (.inl rfl) e,ih q⟩
 | tbl ps =>
  have e:h.get? a=some {cls:=.none,data:=.fields ps}:=x
  show h'.get? a=some {cls:=.none,data:=.fields ps}
  exact k a _ (.inl rfl) e
 | met f y =>
  have e:h.get? a=some (PySem.W.methodObj (.ref f) (.ref y)):=x
  show h'.get? a=some (PySem.W.methodObj (.ref f) (.ref y))
  exact k a _ (.inl rfl) e
 | ext φ=>obtain⟨p,⟨o,e⟩,st⟩:=x;exact⟨st _ _ p fun o q=>k _ _ (.inl rfl) q,⟨o,k _ _ (.inl rfl) e⟩,st⟩
theorem HOk.lt(x:HOk P w H h)(e:H a=some o):a < h.objs.size:=(x a o e).lt
theorem HOk.fresh(x:HOk P w H h)(e:h.objs.size<=a):H a=none:=by
 cases q:H a with
 | none=>rfl
 | some u=>exact absurd (Nat.lt_of_lt_of_le (x.lt q) e) (Nat.lt_irrefl _)
theorem HOk.kept(x:HOk P w H h)(k:∀b u,h.get? b=some u->h'.get? b=some u):HOk P w H h':=fun a o e =>
 (x a o e).stay (fun b u _ q=>k b u q) (fun _ q=>q) fun _ _ q=>q
theorem HOk.laid(x:HOk P w H h)(k:∀b u,h.get? b=some u->h'.get? b=some u)(hp:h.objs.size<=a)(new:ObjOk P w (upd H a o) h' a o):HOk P w (upd H a o) h':=fun b u e=>by
 have hn:=x.fresh hp
 by_cases hb:b=a
 ·subst hb;rw[upd_same]at e;cases e;exact new
 ·rw[upd_ne hb]at e
  exact(x b u e).stay (fun c v _ q=>k c v q) (fun c q=>by rw[upd_ne (ne_of_none q hn)];exact q) fun c xs q=>by rw[upd_ne (ne_of_none q hn)];exact q
end
def Rd(H:Hp)(a:Addr)(u:HO):Prop:=H a=some u∨∃o,H a=some (.frz o u)
theorem Rd.of{H:Hp}{a:Addr}{u:HO}(h:H a=some u):Rd H a u:=.inl h
theorem Rd.ok{P:Program}{w:World}{H:Hp}{h:Heap}{a:Addr}{u:HO}(r:Rd H a u)(x:HOk P w H h):ObjOk P w H h a u:=by
 rcases r with r|⟨o,r⟩
 ·exact x a u r
 ·obtain⟨_,q⟩:=x a _ r
  exact q
def Mut:Option HO->Prop
 | some (.lst _)=>True
 | some (.dK _)=>True
 | some (.dT _)=>True
 | some (.set _ _)=>True
 | some (.ins _ _ _)=>True
 | some (.ext _)=>True
 | _=>False
section
variable {P:Program} {w:World} {H:Hp} {h h':Heap} {x e:Addr} {o':HO}
theorem HOk.write(ok:HOk P w H h)(mu:Mut (H x))(he:e=x∨H e=some (.own x))(k:∀b u,b≠e->h.get? b=some u->h'.get? b=some u)(heo:∃u,h'.get? e=some u)
  (new:ObjOk P w (upd H x o') h' x o'):HOk P w (upd H x o') h':=fun b u q=>by
 have nown:∀c y,H c=some (.own y)->c≠x:=fun c y r z=>by subst z;rw[r]at mu;exact mu
 have ntup:∀c xs,H c=some (.tup xs)->c≠x:=fun c xs r z=>by subst z;rw[r]at mu;exact mu
 by_cases hb:b=x
 ·subst hb;rw[upd_same]at q;cases q;exact new
 ·rw[upd_ne hb]at q
  by_cases hbe:b=e
  ·have q':H b=some (.own x):=by
    rcases he with z|z
    ·exact absurd (hbe.trans z) hb
    ·rw[hbe];exact z
   rw[q]at q';cases q'
   obtain⟨v,hv⟩:=heo
   exact⟨v,by rw[hbe];exact hv⟩
  ·refine(ok b u q).stay (fun c v hc r=>k c v ?_ r) (fun c r=>by rw[upd_ne (nown c b r)];exact r) fun c xs r=>by rw[upd_ne (ntup c xs r)];exact r
   rcases hc with rfl|hc
   ·exact hbe
   ·rintro rfl
    rcases he with z|z
    ·exact nown c b hc z
    ·rw[hc]at z;cases z;exact hb rfl
end
structure Un(fs ex:List Addr)(H H':Hp)(h h':Heap):Prop where
 keep:∀b o,h.get? b=some o->H b=none->b∉fs->b∉ex->h'.get? b=some o
 slot:∀b o,h.get? b=some o->H b=none->b∈fs->b∉ex->∃sl,h'.get? b=some {o with slots:=sl}
 free:∀b o,h.get? b=some o->H b=none->b∉ex->H' b=none
 there:∀b o,h.get? b=some o->b∉ex->∃o',h'.get? b=some o'
 tups:∀b xs,H b=some (.tup xs)->H' b=some (.tup xs)
 frzs:∀b o u,H b=some (.frz o u)->H' b=some (.frz o u)
 tbls:∀b ps,H b=some (.tbl ps)->∃more,H' b=some (.tbl (ps++more))
section
variable {fs fs' ex ex':List Addr} {H H1 H2:Hp} {h h1 h2 h':Heap} {a x e:Addr} {o:HO}
theorem Un.any(u:Un fs ex H H1 h h1){b:Addr}{ob:Obj}(q:h.get? b=some ob)(n:H b=none)(hx:b∉ex):∃sl,h1.get? b=some {ob with slots:=sl}:=by
 by_cases hb:b∈fs
 ·exact u.slot b ob q n hb hx
 ·exact⟨ob.slots,u.keep b ob q n hb hx⟩
theorem Un.trans(a:Un fs ex H H1 h h1)(b:Un fs ex H1 H2 h1 h2):Un fs ex H H2 h h2 where
 keep:=fun c ob q n hc hx=>b.keep c ob (a.keep c ob q n hc hx) (a.free c ob q n hx) hc hx
 slot:=fun c ob q n hc hx=>by
  obtain⟨sl,e1⟩:=a.slot c ob q n hc hx
  obtain⟨sl',e2⟩:=b.slot c _ e1 (a.free c ob q n hx) hc hx
  exact⟨sl',e2⟩
 free:=fun c ob q n hx=>by
  obtain⟨o',e1⟩:=a.there c ob q hx
  exact b.free c o' e1 (a.free c ob q n hx) hx
 there:=fun c ob q hx=>by
  obtain⟨o',e1⟩:=a.there c ob q hx
  exact b.there c o' e1 hx
 tups:=fun c xs q=>b.tups c xs (a.tups c xs q)
 frzs:=fun c ob xs q=>b.frzs c ob xs (a.frzs c ob xs q)
 tbls:=fun c ps q=>by
  obtain⟨m1,e1⟩:=a.tbls c ps q
  obtain⟨m2,e2⟩:=b.tbls c _ e1
  exact⟨m1++m2,by rw[e2,Array.append_assoc]⟩
theorem Un.kept(k:∀b u,h.get? b=some u->h'.get? b=some u):Un fs ex H H h h' :=
 ⟨fun b ob q _ _ _=>k b ob q,fun b ob q _ _ _=>⟨ob.slots,k b ob q⟩,fun _ _ _ n _=>n,fun b ob q _=>⟨ob,k b ob q⟩,fun _ _ q=>q,fun _ _ _ q=>q,fun _ ps q=>⟨#[],by rw[q];simp⟩⟩
theorem Un.refl:Un fs ex H H h h:=Un.kept fun _ _ q=>q
theorem Un.laid(k:∀b u,h.get? b=some u->h'.get? b=some u)(hp:h.objs.size<=a)(hn:H a=none):Un fs ex H (upd H a o) h h' where
 keep:=fun b u q _ _ _=>k b u q
 slot:=fun b u q _ _ _=>⟨u.slots,k b u q⟩
 free:=fun b u q n _=>by rw[upd_ne (Nat.ne_of_lt (Nat.lt_of_lt_of_le (Heap.lt_size q) hp))];exact n
 there:=fun b u q _=>⟨u,k b u q⟩
 tups:=fun b xs q=>by rw[upd_ne (ne_of_none q hn)];exact q
 frzs:=fun b u xs q=>by rw[upd_ne (ne_of_none q hn)];exact q
 tbls:=fun b ps q=>⟨#[],by rw[upd_ne (ne_of_none q hn),q];simp⟩
theorem Un.write(mu:Mut (H x))(he:e=x∨H e=some (.own x))(k:∀b u,b≠e->h.get? b=some u->h'.get? b=some u)(heo:∃u,h'.get? e=some u):Un fs ex H (upd H x o) h h':=by
 have hx:∀b,H b=none->b≠x:=fun b n z=>by subst z;rw[n]at mu;exact mu
 have hb:∀b,H b=none->b≠e:=fun b n z=>by
  subst z
  rcases he with r|r
  ·exact hx b n r
  ·rw[n]at r;cases r
 have hm:∀b u,H b=some u->¬ Mut (some u)->b≠x:=fun b u q nm z=>by subst z;rw[q]at mu;exact nm mu
 refine⟨fun b u q n _ _=>k b u (hb b n) q,fun b u q n _ _=>⟨u.slots,k b u (hb b n) q⟩,fun b u q n _=>by rw[upd_ne (hx b n)];exact n,fun b u q _=>?_,
  fun b xs q=>by rw[upd_ne (hm b _ q fun z=>z)];exact q,fun b u xs q=>by rw[upd_ne (hm b _ q fun z=>z)];exact q,fun b ps q=>⟨#[],by rw[upd_ne (hm b _ q fun z=>z),q];simp⟩⟩
 by_cases hbe:b=e
 ·subst hbe;exact heo
 ·exact⟨u,k b u hbe q⟩
theorem Un.mono(u:Un fs ex H H1 h h1)(hs:∀b∈fs,b∈fs')(hx:∀b∈ex,b∈ex'):Un fs' ex' H H1 h h1 :=
 ⟨fun b ob q n hb he=>u.keep b ob q n (fun z=>hb (hs b z)) fun z=>he (hx b z),fun _ _ q n _ he=>u.any q n fun z=>he (hx _ z),fun b ob q n he=>u.free b ob q n fun z=>he (hx b z),fun b ob q he=>u.there b ob q fun z=>he (hx b z),u.tups,u.frzs,u.tbls⟩
end
def trk(h:Heap)(H:Hp):List Addr:=(List.range h.objs.size).filter fun a=>(H a).isSome
def hidT(h:Heap)(H:Hp):Heap:=PySem.W.hideAll h (trk h H)
theorem hidT_size(h:Heap)(H:Hp):(hidT h H).objs.size=h.objs.size:=PySem.W.hideAll_size _ _
theorem hidT_get{h:Heap}{H:Hp}{b:Addr}{o:Obj}(e:h.get? b=some o)(n:H b=none):(hidT h H).get? b=some o :=
 PySem.W.hideAll_get _ e fun hm=>by
  have q:(H b).isSome=true:=(List.mem_filter.mp hm).2
  rw[n]at q;simp at q
theorem of_hidT{h:Heap}{H:Hp}{b:Addr}{o:Obj}(e:(hidT h H).get? b=some o):h.get? b=some o/\H b=none:=by
 have e':h.get? b=some o:=PySem.W.of_hideAll (trk h H) e
 refine⟨e',?_⟩
 cases q:H b with
 | none=>rfl
 | some x =>
  have hm:b∈trk h H:=List.mem_filter.mpr ⟨List.mem_range.mpr (Heap.lt_size e'),by simp[q]⟩
  have z:(hidT h H).get? b=none:=PySem.W.hideAll_none (trk h H) hm
  rw[z]at e;cases e
def allNews(g h:Heap)(L:Addr):List (Addr×Obj):=(List.range h.objs.size).filterMap fun a=>if a=L∨(g.get? a).isSome=true then none else (h.get? a).map fun o=>(a,o)
def rest(g h:Heap)(L d:Addr):List (Addr×Obj):=(allNews g h L).filter fun p=>decide (p.1≠d)
end L2
namespace L2
open PySem PySem.Spec PyProof.Rows
structure Mod(K:PySem.W.Frag)(mg:Str->Option Value)(base:Heap):Prop where
 kin:K.In base
 glob:base.Ns mainGlobals mg
 blt:∃mb,base.Ns builtinsNs mb/\∀x:Str,x ≠ "__name__" -> mb x=bootBuiltins x
 nolimit:base.NoLimit
structure Cx where
 prog:Program
 w:World
 K:PySem.W.Frag
 mg:Str->Option Value
 base:Heap
 A:Around
 N:List Str
 s₀:Shared
 H₀:Hp
 env:Env
 outer:List Env
 stack:List Env
 ex:List Addr
 fn:Str->Bool
 calm:Bool
 pn:List (Addr×Obj)
 xe:Value->Shared->Prop
def frs(l:List Env):List Addr:=l.filterMap (·.frame)
abbrev Cx.fs(X:Cx):List Addr:=frs X.outer
def Vis(sc:Scope)(x:Str):Prop:=sc.names.lookup x=some .local∨sc.names.lookup x=some .cell∨sc.names.lookup x=some .free
def Loc(sc:Scope)(x:Str):Prop:=sc.names.lookup x=some .local∨sc.names.lookup x=some .cell
def Look(env:Env)(h:Heap)(m:Str->Option Value)(x:Str)(u:Value):Prop :=
 (env.kindOf x=some .local/\m x=some u)∨((env.kindOf x=some .cell∨env.kindOf x=some .free)/\∃c,env.cells.lookup x=some c/\h.IsCell c (some u))
structure Cx.Ok(X:Cx):Prop where
 mod:Mod X.K X.mg X.base
 kind:X.env.scope.kind=.function
 glob:X.env.globals=mainGlobals
 blt:X.env.builtins=builtinsNs
 above:X.s₀.heap.objs.size<=X.env.locals
 inj:∀x y c,X.env.cells.lookup x=some c->X.env.cells.lookup y=some c->x=y
 has:∀x,(X.env.kindOf x=some .cell∨X.env.kindOf x=some .free)->∃c,X.env.cells.lookup x=some c
 cab:∀x c,X.fn x=true->X.env.cells.lookup x=some c->X.s₀.heap.objs.size<=c
 hd:X.calm=true->X.A.handled=none
 frames:X.A.frames=some X.stack
 stk:X.stack=X.outer∨(X.stack=X.env::X.outer/\X.env.frame=some X.env.locals)
 exf:∀b∈X.ex,b≠X.env.locals/\∀x c,X.env.cells.lookup x=some c->c≠b
 bs:∀b o,X.base.get? b=some o->X.s₀.heap.get? b=some o/\X.H₀ b=none
 bsz:X.base.objs.size<=X.s₀.heap.objs.size
 noex:∀b o,X.base.get? b=some o->b∉X.ex
 exfs:∀b∈X.ex,b∉X.fs
 funs:X.s₀.heap.FunFrames X.base X.outer
 frf:∀b∈X.fs,X.H₀ b=none
structure Inv(X:Cx)(pins:List (Addr×Obj))(σ:List (Option V))(H:Hp)(s:Shared):Prop where
 ok:X.Ok
 os:s.os=X.s₀.os
 bare:AllBare s.gens
 base:Un X.fs X.ex X.H₀ H X.s₀.heap s.heap
 loc:∃m,s.heap.Ns X.env.locals m/\∀(i:Nat)(x:Str)(v:V),X.N[i]?=some x->σ[i]?=some (some v)->Vis X.env.scope x->∃u,RelV v u/\Look X.env s.heap m x u
 cell:∀x c,X.env.cells.lookup x=some c->∃v,s.heap.IsCell c v
 free:H X.env.locals=none
 freeC:∀x c,X.env.cells.lookup x=some c->H c=none
 pin:∀p∈X.pn++pins,s.heap.get? p.1=some p.2/\H p.1=none/\p.1≠X.env.locals/\p.1∉X.fs/\∀v,p.2.data ≠ .cell v
 hok:HOk X.prog X.w H s.heap
 len:σ.length=X.N.length
section
variable {X:Cx} {pins:List (Addr×Obj)} {σ:List (Option V)} {H H':Hp} {s:Shared} {h':Heap}
theorem Cx.Ok.nofr(ok:X.Ok){b:Addr}{o:Obj}(e:X.base.get? b=some o):b∉X.fs:=fun hb=>by
 have:=(ok.funs.mem hb).1
 rw[e]at this;cases this
theorem Inv.bs(I:Inv X pins σ H s):∀b o,X.base.get? b=some o->s.heap.get? b=some o/\H b=none:=fun b o e =>
 ⟨I.base.keep b o (I.ok.bs b o e).1 (I.ok.bs b o e).2 (I.ok.nofr e) (I.ok.noex b o e),I.base.free b o (I.ok.bs b o e).1 (I.ok.bs b o e).2 (I.ok.noex b o e)⟩
theorem Inv.bk(I:Inv X pins σ H s):∀b o,X.base.get? b=some o->s.heap.get? b=some o:=fun b o e=>(I.bs b o e).1
theorem Inv.mod(I:Inv X pins σ H s):Mod X.K X.mg X.base:=I.ok.mod
theorem Inv.kIn(I:Inv X pins σ H s):X.K.In s.heap:=I.ok.mod.kin.keeps I.bk
theorem Inv.nolimit(I:Inv X pins σ H s):s.heap.NoLimit:=I.ok.mod.nolimit.keeps I.bk
theorem Inv.lt(I:Inv X pins σ H s):X.env.locals < s.heap.objs.size:=let ⟨_,hn,_⟩:=I.loc;hn.lt
theorem Inv.sz(I:Inv X pins σ H s):X.s₀.heap.objs.size<=s.heap.objs.size:=Nat.le_trans I.ok.above (Nat.le_of_lt I.lt)
theorem Inv.nofs(I:Inv X pins σ H s){a:Addr}(h:s.heap.objs.size<=a):a∉X.fs:=fun hb=>by
 obtain⟨_,o,ho,_⟩:=I.ok.funs.mem hb
 exact absurd (Nat.lt_of_lt_of_le (Heap.lt_size ho) (Nat.le_trans I.sz h)) (Nat.lt_irrefl _)
theorem Inv.cne(I:Inv X pins σ H s):∀x c,X.env.cells.lookup x=some c->c≠X.env.locals:=fun x c e z=>by
 obtain⟨v,o,ho,hd⟩:=I.cell x c e
 obtain⟨m,⟨o',es,ep,ho',hd',_⟩,_⟩:=I.loc
 rw[z,ho']at ho;cases ho;rw[hd']at hd;cases hd
theorem Inv.funs(I:Inv X pins σ H s):s.heap.FunFrames X.base X.outer:=by
 have all:∀(l:List Env),(∀b∈frs l,b∈X.fs)->X.s₀.heap.FunFrames X.base l->s.heap.FunFrames X.base l:=by
  intro l
  induction l with
  | nil=>intro _ _;trivial
  | cons env r ih =>
   intro hs hl
   obtain⟨hk,⟨L,o,hf,hn,ho,hd⟩,hr⟩:=hl
   have hL:L∈X.fs:=hs L (by unfold frs;rw[List.filterMap_cons,hf];exact List.mem_cons_self)
   obtain⟨sl,e⟩:=I.base.slot L o ho (I.ok.frf L hL) hL fun z=>I.ok.exfs L z hL
   exact⟨hk,⟨L,_,hf,hn,e,hd⟩,ih (fun b hb=>hs b (by unfold frs;rw[List.filterMap_cons,hf];exact List.mem_cons_of_mem _ hb)) hr⟩
 exact all X.outer (fun _ hb=>hb) I.ok.funs
theorem Inv.stack(I:Inv X pins σ H s):s.heap.FunFrames X.base X.stack:=by
 rcases I.ok.stk with e|⟨e,hf⟩
 ·rw[e];exact I.funs
 ·rw[e]
  obtain⟨m,hn,_⟩:=I.loc
  refine .cons (by rw[I.ok.kind];decide) hf hn ?_ I.funs
  exact Heap.get?_none_of_le (Nat.le_trans I.ok.bsz I.ok.above)
theorem Inv.stkSub(I:Inv X pins σ H s):∀b∈frs X.stack,b∈X.env.locals::X.fs:=fun b hb=>by
 rcases I.ok.stk with e|⟨e,hf⟩
 ·rw[e]at hb;exact List.mem_cons_of_mem _ hb
 ·rw[e]at hb
  unfold frs at hb
  rw[List.filterMap_cons,hf]at hb
  exact hb
theorem Inv.stkFree(I:Inv X pins σ H s):∀b∈frs X.stack,H b=none:=fun b hb=>by
 rcases List.mem_cons.mp (I.stkSub b hb) with e|hb
 ·rw[e];exact I.free
 ·obtain⟨_,o,ho,_⟩:=I.ok.funs.mem hb
  exact I.base.free b o ho (I.ok.frf b hb) fun z=>I.ok.exfs b z hb
theorem Inv.step{g':Array GenState}{t':Nat}{d':Drawn}{ch:List Addr}(I:Inv X pins σ H s)
  (hch:∀b∈ch,(b∈X.ex∨X.s₀.heap.objs.size<=b)/\b≠X.env.locals/\(∀x c,X.env.cells.lookup x=some c->c≠b)/\∀p∈X.pn++pins,p.1≠b)
  (keep:∀b o,b≠X.env.locals->b∉X.fs->b∉ch->s.heap.get? b=some o->H b=none->h'.get? b=some o)
  (slot:∀b o,b≠X.env.locals->b∈X.fs->b∉ch->s.heap.get? b=some o->H b=none->∃sl,h'.get? b=some {o with slots:=sl}) (free:∀b o,b∉ch->s.heap.get? b=some o->H b=none->H' b=none)
  (there:∀b o,b∉ch->s.heap.get? b=some o->∃o',h'.get? b=some o')
  (tups:∀b xs,H b=some (.tup xs)->H' b=some (.tup xs)) (frzs:∀b o u,H b=some (.frz o u)->H' b=some (.frz o u)) (tbls:∀b ps,H b=some (.tbl ps)->∃more,H' b=some (.tbl (ps++more)))
  (ns:∀m,s.heap.Ns X.env.locals m->h'.Ns X.env.locals m) (hok:HOk X.prog X.w H' h') (hg:AllBare g') :
  Inv X pins σ H' {s with heap:=h',gens:=g',drawn:=d',toks:=t' }:=by
 have neL:∀b o,X.s₀.heap.get? b=some o->b≠X.env.locals:=fun b o e=>Nat.ne_of_lt (Nat.lt_of_lt_of_le (Heap.lt_size e) I.ok.above)
 have neC:∀b o,X.s₀.heap.get? b=some o->b∉X.ex->b∉ch:=fun b o e hx hb=>by
  rcases (hch b hb).1 with z|z
  ·exact hx z
  ·exact absurd (Nat.lt_of_lt_of_le (Heap.lt_size e) z) (Nat.lt_irrefl _)
 have cellK:∀x c,X.env.cells.lookup x=some c->∀v,s.heap.IsCell c v->h'.IsCell c v:=fun x c e v ⟨o,ho,hd⟩=>by
  have nch:c∉ch:=fun z=>(hch c z).2.2.1 x c e rfl
  by_cases hc:c∈X.fs
  ·obtain⟨sl,q⟩:=slot c o (I.cne x c e) hc nch ho (I.freeC x c e)
   exact⟨_,q,hd⟩
  ·exact⟨o,keep c o (I.cne x c e) hc nch ho (I.freeC x c e),hd⟩
 refine⟨I.ok,I.os,hg,⟨fun b o e n hb hx=>?_,fun b o e n hb hx=>?_,fun b o e n hx=>?_,fun b o e hx=>?_,fun b xs e=>tups b xs (I.base.tups b xs e),fun b o xs e=>frzs b o xs (I.base.frzs b o xs e),fun b ps e=>?_⟩,?_,fun x c e=>?_,?_,fun x c e=>?_,fun p hp=>?_,hok,I.len⟩
 ·exact keep b o (neL b o e) hb (neC b o e hx) (I.base.keep b o e n hb hx) (I.base.free b o e n hx)
 ·obtain⟨sl,e1⟩:=I.base.slot b o e n hb hx
  obtain⟨sl',e2⟩:=slot b _ (neL b o e) hb (neC b o e hx) e1 (I.base.free b o e n hx)
  exact⟨sl',e2⟩
 ·obtain⟨o',e1⟩:=I.base.there b o e hx
  exact free b o' (neC b o e hx) e1 (I.base.free b o e n hx)
 ·obtain⟨o',e1⟩:=I.base.there b o e hx
  exact there b o' (neC b o e hx) e1
 ·obtain⟨m1,e1⟩:=I.base.tbls b ps e
  obtain⟨m2,e2⟩:=tbls b _ e1
  exact⟨m1++m2,by rw[e2,Array.append_assoc]⟩
 ·obtain⟨m,hn,hl⟩:=I.loc
  refine⟨m,ns m hn,fun i x v e1 e2 e3=>?_⟩
  obtain⟨u,r,l⟩:=hl i x v e1 e2 e3
  refine⟨u,r,?_⟩
  rcases l with l|⟨k,c,e,z⟩
  ·exact .inl l
  ·exact .inr ⟨k,c,e,cellK x c e _ z⟩
 ·obtain⟨v,z⟩:=I.cell x c e
  exact⟨v,cellK x c e v z⟩
 ·obtain⟨m,⟨o,_,_,ho,_⟩,_⟩:=I.loc
  exact free _ o (fun z=>(hch _ z).2.1 rfl) ho I.free
 ·obtain⟨v,o,ho,hd⟩:=I.cell x c e
  exact free c o (fun z=>(hch c z).2.2.1 x c e rfl) ho (I.freeC x c e)
 ·obtain⟨e,n,ne,nf,d⟩:=I.pin p hp
  have nch:p.1∉ch:=fun z=>(hch p.1 z).2.2.2 p hp rfl
  exact⟨keep p.1 p.2 ne nf nch e n,free p.1 p.2 nch e n,ne,nf,d⟩
theorem Inv.un{t':Nat}(I:Inv X pins σ H s)(u:Un X.fs [] H H' s.heap h')(hok:HOk X.prog X.w H' h'):Inv X pins σ H' {s with heap:=h',toks:=t' }:=by
 obtain⟨m,⟨o,es,ep,ho,r⟩,_⟩:=id I.loc
 obtain⟨sl,hL⟩:=u.any ho I.free (by simp)
 exact I.step (g':=s.gens) (d':=s.drawn) (ch:=[]) (fun _ z=>nomatch z) (fun b o _ hb _ e n=>u.keep b o e n hb (by simp)) (fun b o _ hb _ e n=>u.slot b o e n hb (by simp)) (fun b o _ e n=>u.free b o e n (by simp)) (fun b o _ e=>u.there b o e (by simp)) u.tups u.frzs u.tbls (fun m' hm=>by
  obtain⟨o',es',ep',ho',r'⟩:=hm
  rw[ho]at ho';cases ho'
  exact⟨_,es',ep',hL,r'⟩) hok I.bare
theorem Inv.call{g':Array GenState}{t':Nat}{d':Drawn}{ch:List Addr}(I:Inv X pins σ H s)(u:Un (frs X.stack) ch H H' s.heap h')(hok:HOk X.prog X.w H' h')(hg:AllBare g')
  (hch:∀b∈ch,(b∈X.ex∨X.s₀.heap.objs.size<=b)/\b≠X.env.locals/\(∀x c,X.env.cells.lookup x=some c->c≠b)/\∀p∈X.pn++pins,p.1≠b) :
  Inv X pins σ H' {s with heap:=h',gens:=g',drawn:=d',toks:=t' }:=by
 obtain⟨m,⟨o,es,ep,ho,r⟩,_⟩:=id I.loc
 obtain⟨sl,hL⟩:=u.any ho I.free fun z=>(hch _ z).2.1 rfl
 exact I.step (ch:=ch) hch (fun b o hL hb hc e n=>u.keep b o e n (fun z=>(List.mem_cons.mp (I.stkSub b z)).elim hL hb) hc) (fun b o _ _ hc e n=>u.any e n hc) (fun b o hc e n=>u.free b o e n hc) (fun b o hc e=>u.there b o e hc) u.tups u.frzs u.tbls (fun m' hm=>by
  obtain⟨o',es',ep',ho',r'⟩:=hm
  rw[ho]at ho';cases ho'
  exact⟨_,es',ep',hL,r'⟩) hok hg
theorem Inv.turned{t':Nat}{it:Addr}(I:Inv X pins σ H s)(k:∀b o,b≠it->s.heap.get? b=some o->h'.get? b=some o)(hn:H it=none)(hL:it≠X.env.locals)
  (h1:it∈X.ex∨X.s₀.heap.objs.size<=it) (h2:∀x c,X.env.cells.lookup x=some c->c≠it) (h3:∀p∈X.pn++pins,p.1≠it):Inv X pins σ H {s with heap:=h',toks:=t' }:=by
 have nit:∀b u,H b=some u->b≠it:=fun b u e z=>by rw[z,hn]at e;cases e
 refine I.step (g':=s.gens) (d':=s.drawn) (ch:=[it]) (fun b hb=>?_) (fun b o _ _ hc e _=>k b o (fun z=>hc (by simp[z])) e) (fun b o _ _ hc e _=>⟨o.slots,k b o (fun z=>hc (by simp[z])) e⟩) (fun _ _ _ _ n=>n)
  (fun b o hc e=>⟨o,k b o (fun z=>hc (by simp[z])) e⟩) (fun _ _ e=>e) (fun _ _ _ e=>e) (fun b ps e=>⟨#[],by rw[e];simp⟩) (fun m hm=>?_) (fun b u e=>?_) I.bare
 ·have e:b=it:=by simpa using hb
  subst e
  exact⟨h1,hL,h2,h3⟩
 ·obtain⟨o,es,ep,ho,r⟩:=hm
  exact⟨o,es,ep,k _ o (Ne.symm hL) ho,r⟩
 ·refine(I.hok b u e).stay (fun c v hc q=>k c v ?_ q) (fun _ q=>q) fun _ _ q=>q
  rcases hc with z|z
  ·rw[z];exact nit b u e
  ·exact nit c _ z
theorem Inv.tok(I:Inv X pins σ H s)(t:Nat):Inv X pins σ H {s with toks:=t}:=I.un (h':=s.heap) (t':=t) Un.refl I.hok
theorem Inv.kept{t':Nat}(I:Inv X pins σ H s)(k:∀b u,s.heap.get? b=some u->h'.get? b=some u):Inv X pins σ H {s with heap:=h',toks:=t' }:=I.un (Un.kept k) (I.hok.kept k)
theorem Inv.laid{a:Addr}{o:HO}{t':Nat}(I:Inv X pins σ H s)(k:∀b u,s.heap.get? b=some u->h'.get? b=some u)(hp:s.heap.objs.size<=a)(new:ObjOk X.prog X.w (upd H a o) h' a o) :
  Inv X pins σ (upd H a o) {s with heap:=h',toks:=t' }:=I.un (Un.laid k hp (I.hok.fresh hp)) (I.hok.laid k hp new)
theorem Inv.write{x e:Addr}{o:HO}{t':Nat}(I:Inv X pins σ H s)(mu:Mut (H x))(he:e=x∨H e=some (.own x))(k:∀b u,b≠e->s.heap.get? b=some u->h'.get? b=some u)(heo:∃u,h'.get? e=some u)
  (new:ObjOk X.prog X.w (upd H x o) h' x o):Inv X pins σ (upd H x o) {s with heap:=h',toks:=t' }:=I.un (Un.write mu he k heo) (I.hok.write mu he k heo new)
theorem Inv.pins_of{pins':List (Addr×Obj)}(I:Inv X pins σ H s)(h:∀p∈pins',s.heap.get? p.1=some p.2/\H p.1=none/\p.1≠X.env.locals/\p.1∉X.fs/\∀v,p.2.data ≠ .cell v):Inv X pins' σ H s :=
 ⟨I.ok,I.os,I.bare,I.base,I.loc,I.cell,I.free,I.freeC,fun p hp=>(List.mem_append.mp hp).elim (fun z=>I.pin p (List.mem_append_left _ z)) (h p),I.hok,I.len⟩
theorem nodup_ix{N:List Str}(hN:N.Nodup){i j:Nat}{x:Str}(a:N[i]?=some x)(b:N[j]?=some x):i=j:=by
 obtain⟨h1,e1⟩:=List.getElem?_eq_some_iff.mp a
 obtain⟨h2,e2⟩:=List.getElem?_eq_some_iff.mp b
 exact(List.getElem_inj hN).mp (e1.trans e2.symm)
theorem store_ok2{M:Model}{A:Around}{E:Value->Shared->Prop}{i:Nat}{x:Str}{v:V}{u:Value}{Q:Unit->Shared->Prop}(I:Inv X pins σ H s)(hN:X.N.Nodup)(hi:X.N[i]?=some x)(hx:Loc X.env.scope x)(r:RelV v u)
  (h:∀s',Inv X pins (σ.set i (some v)) H s'->(∃a,Heap.SameBut a s.heap s'.heap/\(a=X.env.locals∨X.env.cells.lookup x=some a))->Q () s') (hf:X.fn x=true∨X.env.scope.names.lookup x=some .local:=by first|exact .inl rfl|exact .inr rfl|assumption):wpAny M A (storeName X.env x u) Q E s:=by
 obtain⟨m,hn,hl⟩:=id I.loc
 have hcls:(X.env.scope.kind == .class||(X.env.scope.kind == .module&&X.env.locals != X.env.globals))=false:=by rw[I.ok.kind];rfl
 have hiσ:i < σ.length:=by rw[I.len];exact(List.getElem?_eq_some_iff.mp hi).1
 have cne:=I.cne
 have tracked:∀{a:Addr}{h':Heap},(∃o,s.heap.get? a=some o/\H a=none)->Heap.SameBut a s.heap h'->HOk X.prog X.w H h':=fun {a h'} ha hs b ob e=>by
  obtain⟨_,_,hfree⟩:=ha
  refine(I.hok b ob e).stay (fun c w' hc q=>(hs.2 c ?_).trans q) (fun _ q=>q) fun _ _ q=>q
  rintro rfl
  rcases hc with rfl|hc
  ·rw[hfree]at e;cases e
  ·rw[hfree]at hc;cases hc
 rcases hx with hk|hk
 ·refine wpAny_storeName_local hk hn (fun h' hn' hs=>?_) hcls
  obtain⟨oL,_,_,hoL,_⟩:=id hn
  refine h _ ⟨I.ok,I.os,I.bare,⟨fun b o e n hb hx=>?_,fun b o e n hb hx=>?_,I.base.free,fun b o e hx=>?_,I.base.tups,I.base.frzs,I.base.tbls⟩,⟨_,hn',fun j y v' e1 e2 e3=>?_⟩,fun y c e=>?_,I.free,I.freeC,fun p hp=>?_,tracked ⟨oL,hoL,I.free⟩ hs,by simpa using I.len⟩ ⟨_,hs,.inl rfl⟩
  ·exact(hs.2 b (Nat.ne_of_lt (Nat.lt_of_lt_of_le (Heap.lt_size e) I.ok.above))).trans (I.base.keep b o e n hb hx)
  ·obtain⟨sl,e1⟩:=I.base.slot b o e n hb hx
   exact⟨sl,(hs.2 b (Nat.ne_of_lt (Nat.lt_of_lt_of_le (Heap.lt_size e) I.ok.above))).trans e1⟩
  ·obtain⟨o',e1⟩:=I.base.there b o e hx
   exact⟨o',(hs.2 b (Nat.ne_of_lt (Nat.lt_of_lt_of_le (Heap.lt_size e) I.ok.above))).trans e1⟩
  ·by_cases hj:j=i
   ·subst hj
    rw[hi]at e1;cases e1
    rw[List.getElem?_set_self hiσ]at e2
    cases e2
    exact⟨u,r,.inl ⟨hk,by simp⟩⟩
   ·rw[List.getElem?_set_ne (Ne.symm hj)]at e2
    obtain⟨u',r',q⟩:=hl j y v' e1 e2 e3
    refine⟨u',r',?_⟩
    rcases q with ⟨k,e⟩|⟨k,c,e,z⟩
    ·refine .inl ⟨k,?_⟩
     have:y≠x:=fun e=>hj (nodup_ix hN e1 (e ▸ hi))
     simp[this,e]
    ·exact .inr ⟨k,c,e,z.sameBut hs (cne y c e)⟩
  ·obtain⟨w',z⟩:=I.cell y c e
   exact⟨w',z.sameBut hs (cne y c e)⟩
  ·obtain⟨e,n,ne,nf,d⟩:=I.pin p hp
   exact⟨(hs.2 p.1 ne).trans e,n,ne,nf,d⟩
 ·have hfn:X.fn x=true:=by
   rcases hf with z|z
   ·exact z
   ·rw[z]at hk;cases hk
  obtain⟨c,hc⟩:=I.ok.has x (.inl hk)
  obtain⟨w',z⟩:=I.cell x c hc
  refine wpAny_storeName_cell I.ok.kind hk hc z (fun h' hc' hs=>?_)
  obtain⟨oc,hoc,hocd⟩:=id z
  refine h {s with heap:=h' } ⟨I.ok,I.os,I.bare,⟨fun b o e n hb hx=>?_,fun b o e n hb hx=>?_,I.base.free,fun b o e hx=>?_,I.base.tups,I.base.frzs,I.base.tbls⟩,⟨m,hn.sameBut hs (Ne.symm (cne x c hc)),fun j y v' e1 e2 e3=>?_⟩,fun y c' e=>?_,I.free,I.freeC,fun p hp=>?_,tracked ⟨oc,hoc,I.freeC x c hc⟩ hs,by simpa using I.len⟩ ⟨c,hs,.inr hc⟩
  ·exact(hs.2 b (Nat.ne_of_lt (Nat.lt_of_lt_of_le (Heap.lt_size e) (I.ok.cab x c hfn hc)))).trans (I.base.keep b o e n hb hx)
  ·obtain⟨sl,e1⟩:=I.base.slot b o e n hb hx
   exact⟨sl,(hs.2 b (Nat.ne_of_lt (Nat.lt_of_lt_of_le (Heap.lt_size e) (I.ok.cab x c hfn hc)))).trans e1⟩
  ·obtain⟨o',e1⟩:=I.base.there b o e hx
   exact⟨o',(hs.2 b (Nat.ne_of_lt (Nat.lt_of_lt_of_le (Heap.lt_size e) (I.ok.cab x c hfn hc)))).trans e1⟩
  ·by_cases hj:j=i
   ·subst hj
    rw[hi]at e1;cases e1
    rw[List.getElem?_set_self hiσ]at e2
    cases e2
    exact⟨u,r,.inr ⟨.inl hk,c,hc,hc'⟩⟩
   ·rw[List.getElem?_set_ne (Ne.symm hj)]at e2
    obtain⟨u',r',q⟩:=hl j y v' e1 e2 e3
    refine⟨u',r',?_⟩
    rcases q with q|⟨k,c',e,z'⟩
    ·exact .inl q
    ·refine .inr ⟨k,c',e,z'.sameBut hs ?_⟩
     rintro rfl
     exact hj (nodup_ix hN e1 (I.ok.inj _ _ _ e hc ▸ hi))
  ·by_cases hcc:c'=c
   ·subst hcc;exact⟨_,hc'⟩
   ·obtain⟨w2,z2⟩:=I.cell y c' e
    exact⟨w2,z2.sameBut hs hcc⟩
  ·obtain⟨e,n,ne,nf,d⟩:=I.pin p hp
   refine⟨(hs.2 p.1 ?_).trans e,n,ne,nf,d⟩
   intro q
   rw[q,hoc]at e
   have q':oc=p.2:=Option.some.inj e
   exact d w' (by rw[← q'];exact hocd)
theorem store_ok{M:Model}{A:Around}{E:Value->Shared->Prop}{i:Nat}{x:Str}{v:V}{u:Value}{Q:Unit->Shared->Prop}(I:Inv X pins σ H s)(hN:X.N.Nodup)(hi:X.N[i]?=some x)(hx:Loc X.env.scope x)(r:RelV v u)
  (h:∀s',Inv X pins (σ.set i (some v)) H s'->Q () s') (hf:X.fn x=true∨X.env.scope.names.lookup x=some .local:=by first|exact .inl rfl|exact .inr rfl|assumption):wpAny M A (storeName X.env x u) Q E s :=
 store_ok2 I hN hi hx r (fun s' I' _=>h s' I') hf
theorem Inv.call'{s':Shared}{ch:List Addr}(I:Inv X pins σ H s)(ho:s'.os=s.os)(u:Un (frs X.stack) ch H H' s.heap s'.heap)(hok:HOk X.prog X.w H' s'.heap)(hg:AllBare s'.gens)
  (hch:∀b∈ch,(b∈X.ex∨X.s₀.heap.objs.size<=b)/\b≠X.env.locals/\(∀x c,X.env.cells.lookup x=some c->c≠b)/\∀p∈X.pn++pins,p.1≠b):Inv X pins σ H' s':=by
 obtain⟨h',g',d',t',o'⟩:=s'
 have e:o'=s.os:=ho
 subst e
 exact I.call (g':=g') (t':=t') (d':=d') u hok hg hch
end
abbrev XK:=Value->Option Addr->Hp->Prop
abbrev St:=List (Option V)
abbrev VK:=V->Hp->Prop
abbrev TE:=St->Hp->VK->Prop
abbrev TT:=St->Hp->(Bool->Hp->Prop)->Prop
abbrev TA:=St->Hp->(List V->Hp->Prop)->Prop
structure Ends where
 nx:St->Hp->Prop
 rt:VK
 bk:St->Hp->Prop:=fun _ _=>False
 ct:St->Hp->Prop:=fun _ _=>False
abbrev TS:=Ends->St->Hp->Prop
def EP(X:Cx)(pins:List (Addr×Obj))(σ:St)(Q:VK)(u:Value)(s':Shared):Prop:=∃v H',Inv X pins σ H' s'/\RelV v u/\Q v H'
def TP(X:Cx)(pins:List (Addr×Obj))(σ:St)(Q:Bool->Hp->Prop)(b:Bool)(s':Shared):Prop:=∃H',Inv X pins σ H' s'/\Q b H'
def AP(X:Cx)(pins:List (Addr×Obj))(σ:St)(Q:List V->Hp->Prop)(us:List Value)(s':Shared):Prop:=∃vs H',Inv X pins σ H' s'/\Vals vs us/\Q vs H'
def SP(X:Cx)(pins:List (Addr×Obj))(D:Ends)(f:Flow)(s':Shared):Prop :=
 match f with
 | .next=>∃σ' H',Inv X pins σ' H' s'/\D.nx σ' H'
 | .brk=>∃σ' H',Inv X pins σ' H' s'/\D.bk σ' H'
 | .cont=>∃σ' H',Inv X pins σ' H' s'/\D.ct σ' H'
 | .ret u=>∃v σ' H',Inv X pins σ' H' s'/\RelV v u/\D.rt v H'
def PE(X:Cx)(e:Expr)(t:TE):Prop :=
 ∀(pins:List (Addr×Obj))(s:Shared)(σ:St)(H:Hp)(Q:VK),Inv X pins σ H s->t σ H Q->wpAny (model X.prog X.w) X.A (eval e X.env) (EP X pins σ Q) X.xe s
def PT(X:Cx)(e:Expr)(t:TT):Prop :=
 ∀(pins:List (Addr×Obj))(s:Shared)(σ:St)(H:Hp)(Q:Bool->Hp->Prop),Inv X pins σ H s->t σ H Q->wpAny (model X.prog X.w) X.A (isTrue e X.env (eval e X.env)) (TP X pins σ Q) X.xe s
def PW(X:Cx)(e:Expr)(t:TT):Prop :=
 ∀(whole:Sem Value)(pins:List (Addr×Obj))(s:Shared)(σ:St)(H:Hp)(Q:Bool->Hp->Prop),Inv X pins σ H s->t σ H Q->wpAny (model X.prog X.w) X.A (isTrue e X.env whole) (TP X pins σ Q) X.xe s
theorem PW.pt{X:Cx}{e:Expr}{t:TT}(h:PW X e t):PT X e t:=h _
def PA(X:Cx)(es:List Expr)(t:TA):Prop :=
 ∀(pos:Pos)(pins:List (Addr×Obj))(s:Shared)(σ:St)(H:Hp)(Q:List V->Hp->Prop),Inv X pins σ H s->t σ H Q->wpAny (model X.prog X.w) X.A (spliced (backTo pos (starEach es X.env))) (AP X pins σ Q) X.xe s
def PS(X:Cx)(st:Stmt)(t:TS):Prop :=
 ∀(pins:List (Addr×Obj))(s:Shared)(σ:St)(H:Hp)(D:Ends),Inv X pins σ H s->t D σ H->wpAny (model X.prog X.w) X.A (exec st X.env) (SP X pins D) X.xe s
def PSs(X:Cx)(st:List Stmt)(t:TS):Prop :=
 ∀(pins:List (Addr×Obj))(s:Shared)(σ:St)(H:Hp)(D:Ends),Inv X pins σ H s->t D σ H->wpAny (model X.prog X.w) X.A (execs st X.env) (SP X pins D) X.xe s
theorem thn{α:Type}{t:Sem α}{Q Q':α->Shared->Prop}{M:Model}{A:Around}{E:Value->Shared->Prop}{s:Shared}(h:wpAny M A t Q E s)(hQ:∀a s,Q a s->Q' a s):wpAny M A t Q' E s:=wpAny_mono h hQ fun _ _ x=>x
end L2
namespace L2
open PySem PySem.Spec PyProof.Rows
section
variable {X:Cx}
def tVar(i:Nat):TE:=fun σ H Q=>∃v,σ[i]?=some (some v)/\Q v H
def tC(v:V):TE:=fun _ H Q=>Q v H
theorem pe_var{i:Nat}{x:Str}{pos:Pos}(hN:X.N[i]?=some x)(hv:Vis X.env.scope x) (hd:(x==("__debug__" : Str))=false:=by decide) (hcd:(x==("__classdict__" : Str))=false:=by decide):PE X (.Name x pos) (tVar i):=by
 intro pins s σ H Q I h
 obtain⟨v,e,h⟩:=h
 obtain⟨m,hn,hl⟩:=I.loc
 obtain⟨u,r,l⟩:=hl i x v hN e hv
 have fin:EP X pins σ Q u s:=⟨v,H,I,r,h⟩
 rcases l with ⟨hk,hm⟩|⟨hk,c,hc,hcell⟩
 ·exact wpAny_Name (wpAny_loadName_local I.ok.kind hk hn hm fin) hd
 ·rcases hk with hk|hk
  ·exact wpAny_Name (wpAny_loadName_cell I.ok.kind hk hc hcell fin) hd
  ·exact wpAny_Name (wpAny_loadName_free I.ok.kind hk hc hcell fin hcd) hd
theorem pe_int{i j pos}:PE X (.Constant (.int i) j pos) (tC (.int i)):=fun _ _ _ H _ I h=>wpAny_Constant_int ⟨.int i,H,I.tok _,⟨_,rfl⟩,h⟩
theorem pe_bl{b j pos}:PE X (.Constant (.bool b) j pos) (tC (.bl b)):=fun _ _ _ H _ I h=>Constant_bool ⟨.bl b,H,I,rfl,h⟩
theorem pe_non{j pos}:PE X (.Constant .none j pos) (tC .non):=fun _ _ _ H _ I h=>Constant_none ⟨.non,H,I,rfl,h⟩
theorem pe_str{x j pos}:PE X (.Constant (.str x) j pos) (tC (.str x)):=fun _ _ _ H _ I h=>Calls.Constant_str ⟨.str x,H,I.tok _,⟨_,rfl⟩,h⟩
def Gl(X:Cx)(x:Str):Prop:=X.env.kindOf x=some .globalImplicit
theorem ld_glob{E:Value->Shared->Prop}{pins:List (Addr×Obj)}{s:Shared}{σ:St}{H:Hp}{x:Str}{u:Value}{pos:Pos}{Q:Value->Shared->Prop}(I:Inv X pins σ H s)(hg:Gl X x)(hm:X.mg x=some u)(h:Q u s)
  (hd:(x==("__debug__" : Str))=false:=by decide):wpAny (model X.prog X.w) X.A (eval (.Name x pos) X.env) Q E s :=
 Calls.Name_function_global I.ok.kind hg (Calls.loadGlobal_global (by rw[I.ok.glob];exact I.mod.glob.keeps I.bk) hm h) hd
theorem ld_blt{E:Value->Shared->Prop}{pins:List (Addr×Obj)}{s:Shared}{σ:St}{H:Hp}{x:Str}{u:Value}{pos:Pos}{Q:Value->Shared->Prop}(I:Inv X pins σ H s)(hg:Gl X x)(hm:X.mg x=none)(hv:bootBuiltins x=some u)(h:Q u s)
  (hn:x ≠ "__name__" := by decide) (hd:(x==("__debug__" : Str))=false:=by decide):wpAny (model X.prog X.w) X.A (eval (.Name x pos) X.env) Q E s:=by
 obtain⟨mb,h1,h2⟩:=I.mod.blt
 exact Calls.Name_function_global I.ok.kind hg (Calls.loadGlobal_builtin (by rw[I.ok.glob];exact I.mod.glob.keeps I.bk) hm (by rw[I.ok.blt];exact h1.keeps I.bk) ((h2 x hn).trans hv) h) hd
theorem pe_glob{x:Str}{v:V}{u:Value}{pos:Pos}(hg:Gl X x)(hm:X.mg x=some u)(r:RelV v u) (hd:(x==("__debug__" : Str))=false:=by decide):PE X (.Name x pos) (tC v) :=
 fun _ _ _ H _ I h=>ld_glob I hg hm ⟨v,H,I,r,h⟩ hd
theorem pe_bltn{x:Str}{v:V}{u:Value}{pos:Pos}(hg:Gl X x)(hm:X.mg x=none)(hv:bootBuiltins x=some u)(r:RelV v u) (hn:x ≠ "__name__" := by decide) (hd:(x==("__debug__" : Str))=false:=by decide):PE X (.Name x pos) (tC v) :=
 fun _ _ _ H _ I h=>ld_blt I hg hm hv ⟨v,H,I,r,h⟩ hn hd
variable {a b:Expr} {ta tb:TE} {pos:Pos}
def tB(t:TE):TT:=fun σ H Q=>t σ H fun x H1=>∃c,x=.bl c/\Q c H1
theorem pt_val{e:Expr}{t:TE}(h:PE X e t)(he:∀whole,isTrue e X.env whole=(do let v ← whole;standAt e.pos;holding [v] (truthy v)):=by intro _;rfl):PT X e (tB t):=by
 intro pins s σ H Q I hw
 refine isTrue_plain (thn (h pins s σ H _ I hw) fun v s1 ⟨x,H1,I1,r1,q1⟩=>?_) (he _)
 obtain⟨d,rfl,q⟩:=q1
 cases r1
 exact wpAny_truthy_bool ⟨H1,I1,q⟩
variable {tA tB':TT} {rest:List Expr}
def tOr(t u:TT):TT:=fun σ H Q=>t σ H fun c H1=>if c=true then Q true H1 else u σ H1 Q
def tNot(t:TT):TT:=fun σ H Q=>t σ H fun c H1=>Q (!c) H1
theorem pw_or1(ha:PT X a tA):PW X (.BoolOp .Or [a] pos) tA:=by
 intro wh pins s σ H Q I h
 refine isTrue_or (thn (ha pins s σ H Q I h) fun c s1 e=>?_)
 cases c with
 | false=>exact isTrue_or_nil e
 | true=>exact e
theorem pw_or(ha:PT X a tA)(hb:PW X (.BoolOp .Or (b::rest) pos) tB'):PW X (.BoolOp .Or (a::b::rest) pos) (tOr tA tB'):=by
 intro wh pins s σ H Q I h
 refine isTrue_or (thn (ha pins s σ H _ I h) fun c s1 ⟨H1,I1,q1⟩=>?_)
 cases c with
 | true=>exact⟨H1,I1,q1⟩
 | false=>exact hb wh pins s1 σ H1 Q I1 q1
theorem pt_not(ha:PT X a tA):PT X (.UnaryOp .Not a pos) (tNot tA):=by
 intro pins s σ H Q I h
 exact isTrue_not (ha pins s σ H (fun c H1=>Q (!c) H1) I h)
def tAndV(ta tb:TE):TE:=fun σ H Q=>ta σ H fun x H1=>∃c,x=.bl c/\if c=true then tb σ H1 Q else Q (.bl false) H1
def tNotV(ta:TE):TE:=fun σ H Q=>ta σ H fun x H1=>∃c,x=.bl c/\Q (.bl (!c)) H1
theorem pe_one{op}{t:TE}(h:PE X a t):PE X (.BoolOp op [a] pos) t:=fun pins s σ H Q I hw=>BoolOp_one (h pins s σ H Q I hw)
theorem pe_and(ha:PE X a ta)(hb:PE X (.BoolOp .And (b::rest) pos) tb):PE X (.BoolOp .And (a::b::rest) pos) (tAndV ta tb):=by
 intro pins s σ H Q I h
 refine BoolOp_and (thn (ha pins s σ H _ I h) fun v s1 ⟨x,H1,I1,r1,q1⟩=>?_)
 obtain⟨c,rfl,q1⟩:=q1
 cases r1
 refine wpAny_truthy_bool ?_
 cases c with
 | true=>exact hb pins s1 σ H1 Q I1 q1
 | false=>exact⟨.bl false,H1,I1,rfl,q1⟩
theorem pe_not(ha:PE X a ta):PE X (.UnaryOp .Not a pos) (tNotV ta):=by
 intro pins s σ H Q I h
 refine UnaryOp_ (thn (ha pins s σ H _ I h) fun v s1 ⟨x,H1,I1,r1,q1⟩=>?_)
 obtain⟨c,rfl,q1⟩:=q1
 cases r1
 exact not_of (wpAny_truthy_bool ⟨.bl (!c),H1,I1,rfl,q1⟩)
end
end L2
namespace L2
open PySem PySem.Spec PyProof.Rows
def SqL(K:PySem.W.Frag)(H:Hp)(a:Addr)(xs:List V):Prop :=
 Rd H a (.lst xs) ∨
  ∃(o:Obj) (its:Array Value) (n:Nat),K.lookup a=some o/\o.cls=.type "list" /\ o.dict=none/\o.data=.seq its n/\its.size<=sizeLine/\Vals xs its.toList
def SqT(K:PySem.W.Frag)(H:Hp)(a:Addr)(xs:List V):Prop :=
 Rd H a (.tup xs) ∨
  ∃(o:Obj) (its:Array Value) (n:Nat),K.lookup a=some o/\o.cls=.type "tuple" /\ o.data=.seq its n/\its.size<=sizeLine/\Vals xs its.toList
def absV:Value->Option V
 | .none=>some .non
 | .bool b=>some (.bl b)
 | .int i _=>some (.int i)
 | .str x _=>some (.str x)
 | .bytes b _=>some (.byt b)
 | .float b _=>some (.flt b)
 | .ref a=>some (.ref a)
 | .type n=>some (.ty n)
 | _=>none
theorem RelV.abs{x:V}{u:Value}(r:RelV x u):absV u=some x:=by
 cases x with
 | non=>cases r;rfl
 | bl _=>cases r;rfl
 | int _=>obtain⟨t,rfl⟩:=r;rfl
 | str _=>obtain⟨t,rfl⟩:=r;rfl
 | byt _=>obtain⟨t,rfl⟩:=r;rfl
 | flt _=>obtain⟨t,rfl⟩:=r;rfl
 | ref _=>cases r;rfl
 | ty _=>cases r;rfl
theorem RelV.inj{x y:V}{u:Value}(r:RelV x u)(q:RelV y u):x=y:=Option.some.inj (r.abs.symm.trans q.abs)
theorem Vals.inj:∀{xs ys:List V}{us:List Value},Vals xs us->Vals ys us->xs=ys
 | _,_,_,.nil,.nil=>rfl
 | _,_,_,.cons r t,.cons r' t'=>by rw[r.inj r',Vals.inj t t']
section
variable {X:Cx} {pins:List (Addr×Obj)} {σ:St} {H:Hp} {s:Shared} {a:Addr} {xs ys:List V}
theorem SqL.of{K:PySem.W.Frag}(h:H a=some (.lst xs)):SqL K H a xs:=.inl (.inl h)
theorem SqT.of{K:PySem.W.Frag}(h:H a=some (.tup xs)):SqT K H a xs:=.inl (.inl h)
theorem Inv.list(I:Inv X pins σ H s)(h:SqL X.K H a xs):∃its:List Value,Vals xs its/\PlainL s.heap a its.toArray/\xs.length<=sizeLine:=by
 rcases h with h|⟨o,its,n,hk,hc,hd,hs,hz,r⟩
 ·obtain⟨z,its,n,r,e⟩:=h.ok I.hok
  exact⟨its,r,⟨_,n,e,rfl,rfl,rfl⟩,z⟩
 ·refine⟨its.toList,r,⟨o,n,I.kIn a o hk,hc,hd,by simpa using hs⟩,?_⟩
  have e:=r.length
  simp only[Array.length_toList]at e
  omega
theorem Inv.tuple(I:Inv X pins σ H s)(h:SqT X.K H a xs):∃its:List Value,Vals xs its/\IsTup s.heap a its.toArray/\xs.length<=sizeLine:=by
 rcases h with h|⟨o,its,n,hk,hc,hs,hz,r⟩
 ·obtain⟨z,its,r,p⟩:=h.ok I.hok
  exact⟨its,r,p,z⟩
 ·refine⟨its.toList,r,⟨o,I.kIn a o hk,hc,n,by simpa using hs⟩,?_⟩
  have e:=r.length
  simp only[Array.length_toList]at e
  omega
theorem Inv.list_inj(I:Inv X pins σ H s)(h:SqL X.K H a xs)(h':SqL X.K H a ys):xs=ys:=by
 obtain⟨its,r,⟨o,n,e,_,_,d⟩,_⟩:=I.list h
 obtain⟨its',r',⟨o',n',e',_,_,d'⟩,_⟩:=I.list h'
 rw[e]at e';cases e'
 rw[d]at d'
 injection d' with d1 _
 have:its=its':=by simpa using congrArg Array.toList d1
 subst this
 exact r.inj r'
theorem Inv.tuple_inj(I:Inv X pins σ H s)(h:SqT X.K H a xs)(h':SqT X.K H a ys):xs=ys:=by
 obtain⟨its,r,⟨o,e,_,n,d⟩,_⟩:=I.tuple h
 obtain⟨its',r',⟨o',e',_,n',d'⟩,_⟩:=I.tuple h'
 rw[e]at e';cases e'
 rw[d]at d'
 injection d' with d1 _
 have:its=its':=by simpa using congrArg Array.toList d1
 subst this
 exact r.inj r'
end
abbrev Cx.wish(X:Cx)(E:Value->Shared->Prop):Cx:={X with xe:=E}
abbrev Cx.nox(X:Cx):Cx:=X.wish fun _ _=>False
theorem Cx.Ok.wish{X:Cx}(ok:X.Ok)(E:Value->Shared->Prop):(X.wish E).Ok :=
 ⟨ok.mod,ok.kind,ok.glob,ok.blt,ok.above,ok.inj,ok.has,ok.cab,ok.hd,ok.frames,ok.stk,ok.exf,ok.bs,ok.bsz,ok.noex,ok.exfs,ok.funs,ok.frf⟩
theorem Cx.Ok.unwish{X:Cx}{E:Value->Shared->Prop}(ok:(X.wish E).Ok):X.Ok :=
 ⟨ok.mod,ok.kind,ok.glob,ok.blt,ok.above,ok.inj,ok.has,ok.cab,ok.hd,ok.frames,ok.stk,ok.exf,ok.bs,ok.bsz,ok.noex,ok.exfs,ok.funs,ok.frf⟩
section
variable {X:Cx} {pins:List (Addr×Obj)} {σ:St} {H:Hp} {s:Shared} {E:Value->Shared->Prop}
theorem Inv.wish(I:Inv X pins σ H s)(E:Value->Shared->Prop):Inv (X.wish E) pins σ H s:=⟨I.ok.wish E,I.os,I.bare,I.base,I.loc,I.cell,I.free,I.freeC,I.pin,I.hok,I.len⟩
theorem Inv.unwish(I:Inv (X.wish E) pins σ H s):Inv X pins σ H s:=⟨I.ok.unwish,I.os,I.bare,I.base,I.loc,I.cell,I.free,I.freeC,I.pin,I.hok,I.len⟩
theorem SP.unwish{D:Ends}{f:Flow}{s':Shared}(h:SP (X.wish E) pins D f s'):SP X pins D f s':=by
 cases f with
 | next=>obtain⟨σ',H',I,q⟩:=h;exact⟨σ',H',I.unwish,q⟩
 | brk=>obtain⟨σ',H',I,q⟩:=h;exact⟨σ',H',I.unwish,q⟩
 | cont=>obtain⟨σ',H',I,q⟩:=h;exact⟨σ',H',I.unwish,q⟩
 | ret u=>obtain⟨v,σ',H',I,r,q⟩:=h;exact⟨v,σ',H',I.unwish,r,q⟩
theorem PE.nox{e:Expr}{t:TE}(h:PE X.nox e t):PE X e t:=fun pins s σ H Q I hw =>
 wpAny_mono (h pins s σ H Q (I.wish _) hw) (fun _ _ ⟨v,H',I',r,q⟩=>⟨v,H',I'.unwish,r,q⟩) fun _ _ z=>False.elim z
theorem PT.nox{e:Expr}{t:TT}(h:PT X.nox e t):PT X e t:=fun pins s σ H Q I hw =>
 wpAny_mono (h pins s σ H Q (I.wish _) hw) (fun _ _ ⟨H',I',q⟩=>⟨H',I'.unwish,q⟩) fun _ _ z=>False.elim z
theorem PSs.nox{st:List Stmt}{t:TS}(h:PSs X.nox st t):PSs X st t:=fun pins s σ H D I hw =>
 wpAny_mono (h pins s σ H D (I.wish _) hw) (fun _ _ q=>q.unwish) fun _ _ z=>False.elim z
end
section
variable {X:Cx} {st:Stmt} {rest:List Stmt} {t u:TS} {e:Expr} {te:TE} {pos:Pos}
def tNext:TS:=fun D σ H=>D.nx σ H
def tSeq(t u:TS):TS:=fun D σ H=>t {D with nx:=u D} σ H
theorem pss_nil:PSs X [] tNext:=fun _ _ σ H _ I h=>wpAny_execs_nil ⟨σ,H,I,h⟩
theorem pss_cons(h1:PS X st t)(h2:PSs X rest u):PSs X (st::rest) (tSeq t u):=by
 intro pins s σ H D I h
 refine wpAny_execs_cons (thn (h1 pins s σ H {D with nx:=u D} I h) fun f s1 q=>?_)
 cases f with
 | next =>
  obtain⟨σ',H',I',q⟩:=q
  exact h2 pins s1 σ' H' D I' q
 | ret v=>exact q
 | brk=>exact q
 | cont=>exact q
theorem pss_one(h1:PS X st t):PSs X [st] t:=by
 intro pins s σ H D I h
 refine wpAny_execs_cons (thn (h1 pins s σ H D I h) fun f s1 q=>?_)
 cases f with
 | next=>exact wpAny_execs_nil q
 | ret v=>exact q
 | brk=>exact q
 | cont=>exact q
theorem Inv.quiet{pins:List (Addr×Obj)}{σ:St}{H:Hp}{s:Shared}(I:Inv X pins σ H s):interactive X.env=false:=by simp[interactive,I.ok.kind]
def tDrop(te:TE):TS:=fun D σ H=>te σ H fun _ H1=>D.nx σ H1
theorem ps_expr(he:PE X e te)(hs:swapsWith e none pos.line X.env=pure false:=by rfl):PS X (.Expr e pos) (tDrop te):=by
 intro pins s σ H D I h
 exact wpAny_Expr_any (thn (he pins s σ H _ I h) fun v s1 ⟨x,H1,I1,r1,q1⟩=>⟨σ,H1,I1,q1⟩) I.quiet hs
def tRet(te:TE):TS:=fun D σ H=>te σ H D.rt
theorem ps_ret(he:PE X e te):PS X (.Return (some e) pos) (tRet te):=by
 intro pins s σ H D I h
 exact wpAny_Return_some (thn (he pins s σ H _ I h) fun v s1 ⟨x,H1,I1,r1,q1⟩=>⟨x,σ,H1,I1,r1,q1⟩)
def tIfS(c:TT)(t u:TS):TS:=fun D σ H=>c σ H fun b H1=>if b=true then t D σ H1 else u D σ H1
theorem ps_if{c:Expr}{a b:List Stmt}{tc:TT}(hc:PT X c tc)(ha:PSs X a t)(hb:PSs X b u):PS X (.If c a b pos) (tIfS tc t u):=by
 intro pins s σ H D I h
 refine wpAny_If (thn (hc pins s σ H _ I h) fun d s1 ⟨H1,I1,q1⟩=>?_)
 cases d with
 | true=>exact ha pins s1 σ H1 D I1 q1
 | false=>exact hb pins s1 σ H1 D I1 q1
def tNever:TS:=fun _ _ _=>False
theorem ps_never:PS X st tNever:=fun _ _ _ _ _ _ h=>h.elim
end
abbrev TG:=V->St->Hp->(St->Hp->Prop)->Prop
abbrev TGs:=List V->St->Hp->(St->Hp->Prop)->Prop
def PG(X:Cx)(target:Expr)(t:TG):Prop :=
 ∀(pins:List (Addr×Obj))(s:Shared)(σ:St)(H:Hp)(v:V)(u:Value)(Q:St->Hp->Prop),Inv X pins σ H s->RelV v u->t v σ H Q →
  wpAny (model X.prog X.w) X.A (assign target X.env u) (fun _ s'=>∃σ' H',Inv X pins σ' H' s'/\Q σ' H') X.xe s
def PGs(X:Cx)(ts:List Expr)(t:TGs):Prop :=
 ∀(pins:List (Addr×Obj))(s:Shared)(σ:St)(H:Hp)(vs:List V)(us:List Value)(Q:St->Hp->Prop),Inv X pins σ H s->Vals vs us->t vs σ H Q →
  wpAny (model X.prog X.w) X.A (assignInOrder ((assignEach ts X.env).map (·.2)) us) (fun _ s'=>∃σ' H',Inv X pins σ' H' s'/\Q σ' H') X.xe s
section
variable {X:Cx} {pos:Pos}
def gName(i:Nat):TG:=fun v σ H Q=>Q (σ.set i (some v)) H
theorem pg_name{i:Nat}{x:Str}(hN:X.N.Nodup)(hi:X.N[i]?=some x)(hx:Loc X.env.scope x)(hf:X.fn x=true∨X.env.scope.names.lookup x=some .local:=by first|exact .inl rfl|exact .inr rfl|assumption):PG X (.Name x pos) (gName i):=by
 intro pins s σ H v u Q I r h
 exact wpAny_assign_Name (store_ok I hN hi hx r (fun s' I'=>⟨_,H,I',h⟩) hf)
def gNil:TGs:=fun vs σ H Q=>vs=[]/\Q σ H
def gCons(t:TG)(u:TGs):TGs:=fun vs σ H Q=>∃v r,vs=v::r/\t v σ H fun σ' H'=>u r σ' H' Q
theorem pgs_nil:PGs X [] gNil:=by
 intro pins s σ H vs us Q I r h
 obtain⟨e,h⟩:=h
 subst e
 cases r
 exact assignInOrder_nil ⟨σ,H,I,h⟩
theorem pgs_cons{e:Expr}{es:List Expr}{t:TG}{u:TGs}(h1:PG X e t)(h2:PGs X es u)
  (hs:(assignEach (e::es) X.env).map (·.2)=assign e X.env::(assignEach es X.env).map (·.2):=by rfl):PGs X (e::es) (gCons t u):=by
 intro pins s σ H vs us Q I r h
 obtain⟨v,vr,e1,h⟩:=h
 subst e1
 cases r with
 | cons r rr =>
  rw[hs]
  refine assignInOrder_cons (thn (h1 pins s σ H _ _ _ I r h) fun _ s1 ⟨σ1,H1,I1,q1⟩=>?_)
  exact h2 pins s1 σ1 H1 _ _ Q I1 rr q1
def tAsg(te:TE)(g:TG):TS:=fun D σ H=>te σ H fun x H1=>g x σ H1 D.nx
theorem ps_asg{tg e:Expr}{te:TE}{g:TG}(he:PE X e te)(hg:PG X tg g)(hs:swapsWithSole [tg] e pos.line X.env=pure false:=by rfl)(hw:swappedStores [tg] e X.env=pure none:=by rfl)
  (h1:(assignEach [tg] X.env).map (·.2)=[assign tg X.env]:=by rfl):PS X (.Assign [tg] e pos) (tAsg te g):=by
 intro pins s σ H D I h
 refine wpAny_Assign_stores (thn (he pins s σ H _ I h) fun v s1 ⟨x,H1,I1,r1,q1⟩=>?_) hs hw
 rw[h1]
 exact thn (hg pins s1 σ H1 x v _ I1 r1 q1) fun _ s2 q=>q
theorem ps_set{i:Nat}{x:Str}{e:Expr}{te:TE}{pos':Pos}(hN:X.N.Nodup)(hi:X.N[i]?=some x)(hx:Loc X.env.scope x)(he:PE X e te)(hs:swapsWith e (some (.Name x pos')) pos.line X.env=pure false:=by rfl)(hf:X.fn x=true∨X.env.scope.names.lookup x=some .local:=by first|exact .inl rfl|exact .inr rfl|assumption) :
  PS X (.Assign [.Name x pos'] e pos) (tAsg te (gName i)):=by
 intro pins s σ H D I h
 refine wpAny_Assign_Name (thn (he pins s σ H _ I h) fun v s1 ⟨y,H1,I1,r1,q1⟩=>?_) hs
 exact store_ok I1 hN hi hx r1 (fun s2 I2=>⟨_,H1,I2,q1⟩) hf
def tPar(i j:Nat)(ta:TA):TS:=fun D σ H=>ta σ H fun vs H1=>∃v w,vs=[v,w]/\D.nx ((σ.set i (some v)).set j (some w)) H1
theorem ps_par{i j:Nat}{x y:Str}{a b:Expr}{ta:TA}{px py pt:Pos}{kt k2 pt2}(hc:X.calm=true)(hN:X.N.Nodup)(hi:X.N[i]?=some x)(hj:X.N[j]?=some y)(hij:i≠j)
  (hx:X.env.scope.names.lookup x=some .local) (hy:X.env.scope.names.lookup y=some .local) (ha:PA X [a,b] ta)
  (hw:swappedStores [.Tuple [.Name x px,.Name y py] kt pt] (.Tuple [a,b] k2 pt2) X.env=pure (some [x,y]))
  (hs:swapsWithSole [.Tuple [.Name x px,.Name y py] kt pt] (.Tuple [a,b] k2 pt2) pos.line X.env=pure false:=by rfl) :
  PS X (.Assign [.Tuple [.Name x px,.Name y py] kt pt] (.Tuple [a,b] k2 pt2) pos) (tPar i j ta):=by
 intro pins s σ H D I h
 rw[exec_Assign_arm]
 refine wpAny_bind (wpAny_standAt ?_)
 rw[hs]
 refine wpAny_bind (wpAny_pure ?_)
 rw[if_neg (by decide)]
 refine wpAny_bind (Tuple_ (thn (ha _ pins s σ H _ I h) fun us s1 ⟨vs,H1,I1,r1,q1⟩=>?_))
 obtain⟨v,w,e1,q1⟩:=q1
 subst e1
 obtain⟨u1,u2,rfl,rv,rw'⟩:∃u1 u2,us=[u1,u2]/\RelV v u1/\RelV w u2:=by
  cases r1 with
  | cons p q =>
   cases q with
   | cons p' q' =>
    cases q'
    exact⟨_,_,rfl,p,p'⟩
 refine wpAny_newObj_type ?_ (by show 2<=sizeLine;decide)
 have I2:Inv X pins σ H1 {s1 with heap:=s1.heap.push {cls:=.type "tuple", data:=.seq [u1,u2].toArray} }:=I1.kept (t':=s1.toks) fun b o e=>Heap.get?_push_of_some _ e
 rw[hw]
 refine wpAny_bind (wpAny_pure ?_)
 show wpAny (model X.prog X.w) X.A (do rule "assign.swapped-stores"; let items ← unpackItems (.ref s1.heap.objs.size) 2 none;assignInOrder [fun v=>bindName X.env y v,fun v=>bindName X.env x v] items.reverse;pure Flow.next) _ _ _
 refine wpAny_bind (wpAny_rule (wpAny_bind (unpackItems_tuple (items:=#[u1,u2]) (I.ok.hd hc) (IsTup.new s1.heap _) fun h' hx'=>?_)))
 have I3:=I2.kept (h':=h') (t':=s1.toks) fun b o e=>hx' b o (Nat.ne_of_lt (Heap.lt_size e)) e
 show wpAny _ _ (assignInOrder [fun v=>bindName X.env y v,fun v=>bindName X.env x v] [u2,u1] >>= fun _=>pure Flow.next) _ _ _
 refine wpAny_bind (assignInOrder_cons (wpAny_bindName (store_ok I3 hN hj (.inl hy) rw' (fun s2 I4=>?_) (.inr hy))))
 refine assignInOrder_cons (wpAny_bindName (store_ok I4 hN hi (.inl hx) rv (fun s3 I5=>assignInOrder_nil (wpAny_pure ?_)) (.inr hx)))
 rw[List.set_comm _ _ (Ne.symm hij)]at I5
 exact⟨_,H1,I5,q1⟩
end
section
variable {X:Cx} {pos:Pos}
def tWhile(c:TT)(tb:TS):TS:=fun D σ H=>∃W:Nat->St->Hp->Prop,(∃m,W m σ H)/\∀m σ H,W m σ H →
 c σ H fun b H1=>if b=true then ∃N:St->Hp->Prop,(∀σ' H',N σ' H'->∃m',m' < m/\W m' σ' H')/\tb {D with nx:=N,ct:=N,bk:=D.nx} σ H1 else D.nx σ H1
theorem ps_while{c:Expr}{body:List Stmt}{tc:TT}{tb:TS}(hp:PassesOwn (model X.prog X.w) X.A X.env X.xe)(hc:PT X c tc)(hb:PSs X body tb):PS X (.While c body [] pos) (tWhile tc tb):=by
 intro pins s σ H D I h
 obtain⟨W,⟨m0,w0⟩,turn⟩:=h
 refine wpAny_While (codeAny_whileLoop (fun n s'=>∃σ' H',Inv X pins σ' H' s'/\W n σ' H') ?_ m0 ⟨σ,H,I,w0⟩)
 rintro n s1 ⟨σ1,H1,I1,w1⟩
 refine wpAny_passesOwn hp (thn (hc pins s1 σ1 H1 _ I1 (turn n σ1 H1 w1)) fun b s2 ⟨H2,I2,q2⟩=>?_)
 cases b with
 | true =>
  obtain⟨N,hN,q2⟩:=q2
  rw[if_pos rfl]
  refine wpAny_passesOwn hp (thn (hb pins s2 σ1 H2 _ I2 q2) fun f s3 q3=>?_)
  cases f with
  | next =>
   obtain⟨σ3,H3,I3,n3⟩:=q3
   obtain⟨m',hm,w3⟩:=hN σ3 H3 n3
   exact⟨m',hm,σ3,H3,I3,w3⟩
  | cont =>
   obtain⟨σ3,H3,I3,n3⟩:=q3
   obtain⟨m',hm,w3⟩:=hN σ3 H3 n3
   exact⟨m',hm,σ3,H3,I3,w3⟩
  | brk=>exact q3
  | ret v=>exact q3
 | false =>
  rw[if_neg Bool.false_ne_true]
  exact wpAny_execs_nil ⟨σ1,H2,I2,q2⟩
end
structure It where
 go:Nat->Hp->Prop
 yld:Nat->Hp->V->Hp->Prop
 stop:Nat->Hp->Prop
def FpOk(X:Cx)(pins:List (Addr×Obj))(H:Hp)(b:Addr):Prop :=
 H b=none/\b≠X.env.locals/\b∉X.fs/\(b∈X.ex∨X.s₀.heap.objs.size<=b)/\(∀x c,X.env.cells.lookup x=some c->c≠b)/\∀p∈X.pn++pins,p.1≠b
theorem Inv.fpOk{X:Cx}{pins:List (Addr×Obj)}{σ:St}{H H':Hp}{s:Shared}{b:Addr}(I:Inv X pins σ H s)(hb:s.heap.objs.size<=b)(hn:H' b=none):FpOk X pins H' b:=by
 refine⟨hn,Nat.ne_of_gt (Nat.lt_of_lt_of_le I.lt hb),I.nofs hb,.inr (Nat.le_trans I.sz hb),fun x c e z=>?_,fun p hp z=>?_⟩
 ·obtain⟨v,q⟩:=I.cell x c e
  exact absurd (Nat.lt_of_lt_of_le q.lt (by rw[z];exact hb)) (Nat.lt_irrefl _)
 ·exact absurd (Nat.lt_of_lt_of_le (Heap.lt_size (I.pin p hp).1) (by rw[z];exact hb)) (Nat.lt_irrefl _)
structure Turn(P:Program)(w:World)(K:PySem.W.Frag)(tg:Expr)(J:It)(fp:List Addr)(it:Addr)(tn:Nat->Heap->Prop):Prop where
 mem:it∈fp
 obj:∀i h,tn i h->∀b∈fp,∃o,h.get? b=some o/\∀v,o.data ≠ .cell v
 keep:∀i h h',tn i h->(∀b∈fp,∀o,h.get? b=some o->h'.get? b=some o)->tn i h'
 item:∀(X:Cx),X.prog=P->X.w=w->X.K=K->X.calm=true->∀(i:Nat)(pins:List (Addr×Obj))(s:Shared)(σ:St)(H:Hp)(E:Value->Shared->Prop),Inv X pins σ H s->(∀b∈fp,FpOk X pins H b)->tn i s.heap->J.go i H →
  wpAny (model P w) X.A (pyNext (.ref it)) (fun r s1=>∃u,r=some u ∧
   wpAny (model P w) X.A (letOwnedTupleGo tg (.ref it) u) (fun _ s2=>∃x H',Inv X pins σ H' s2/\RelV x u/\J.yld i H x H'/\tn (i + 1) s2.heap/\∀b∈fp,H' b=none) E s1) E s
 done:∀(X:Cx),X.prog=P->X.w=w->X.K=K->X.calm=true->∀(i:Nat)(pins:List (Addr×Obj))(s:Shared)(σ:St)(H:Hp)(E:Value->Shared->Prop),Inv X pins σ H s->(∀b∈fp,FpOk X pins H b)->tn i s.heap->J.stop i H →
  wpAny (model P w) X.A (pyNext (.ref it)) (fun r s1=>r=none/\Inv X pins σ H s1) E s
 self:∀(A:Around)(i:Nat)(s:Shared)(Q:Value->Shared->Prop)(E:Value->Shared->Prop),tn i s.heap->Q (.ref it) s->wpAny (model P w) A (pyIter (.ref it)) Q E s
abbrev TI:=St->Hp->(It->Hp->Prop)->Prop
def PIE(X:Cx)(pins:List (Addr×Obj))(σ:St)(tg:Expr)(R:It->Hp->Prop)(itv:Value)(s2:Shared):Prop :=
 ∃(it:Addr) (fp:List Addr) (tn:Nat->Heap->Prop) (J:It) (H':Hp),itv=.ref it/\Inv X pins σ H' s2/\Turn X.prog X.w X.K tg J fp it tn/\tn 0 s2.heap/\(∀b∈fp,FpOk X pins H' b)/\R J H'
def PI(X:Cx)(tg iter:Expr)(wi:TI):Prop :=
 ∀(pins:List (Addr×Obj))(s:Shared)(σ:St)(H:Hp)(R:It->Hp->Prop),Inv X pins σ H s->wi σ H R →
  wpAny (model X.prog X.w) X.A (eval iter X.env) (fun v s1=>wpAny (model X.prog X.w) X.A (pyIter v) (PIE X pins σ tg R) X.xe s1) X.xe s
theorem go_of {M:Model} {A:Around} {E:Value->Shared->Prop} {s:Shared} {tg:Expr} {it:Addr} {u:Value} {o:Obj} {n:String} {vs:Array Value} {Q:Unit->Shared->Prop} (ho:s.heap.get? it=some o) (hc:o.cls=.type n) (hd:o.data=.fields vs)
    (hn:["enumerate", "zip", "dict_itemiterator", "dict_reverseitemiterator", "odict_iterator", "itertools.zip_longest", "itertools.pairwise"].contains n=false) (hQ:Q () s):wpAny M A (letOwnedTupleGo tg (.ref it) u) Q E s:=by
  unfold letOwnedTupleGo
  cases tg <;> first
    | exact wpAny_pure hQ
    | (cases u<;>first
        | exact wpAny_pure hQ
        | (refine wpAny_bind (wpAny_load ho ?_)
           rw[hc,hd]
           show wpAny M A (if (["enumerate", "zip", "dict_itemiterator", "dict_reverseitemiterator", "odict_iterator", "itertools.zip_longest", "itertools.pairwise"].contains n&&vs[0]?==some (rawInt _))=true then _ else _) Q E s
           rw[if_neg (by intro h;rw[hn,Bool.false_and]at h;cases h)]
           exact wpAny_pure hQ))
def Itl(K:PySem.W.Frag)(a:Addr):It :=
 ⟨fun i H=>∃xs x,SqL K H a xs/\xs[i]?=some x,fun i H x H'=>H'=H/\∀xs,SqL K H a xs->xs[i]?=some x,fun i H=>∃xs,SqL K H a xs/\xs.length<=i⟩
def Itt(K:PySem.W.Frag)(a:Addr):It :=
 ⟨fun i H=>∃xs x,SqT K H a xs/\xs[i]?=some x,fun i H x H'=>H'=H/\∀xs,SqT K H a xs->xs[i]?=some x,fun i H=>∃xs,SqT K H a xs/\xs.length<=i⟩
def Itr(lo:Int)(n:Nat):It:=⟨fun i _=>i < n,fun i H x H'=>H'=H/\x=.int (lo + i),fun i _=>n<=i⟩
theorem turn_list{P:Program}{w:World}{K:PySem.W.Frag}{tg:Expr}(a it:Addr):Turn P w K tg (Itl K a) [it] it (fun i h=>h.IsListIter it a i) where
 mem:=by simp
 obj:=fun i h st b hb=>by
  have e:b=it:=by simpa using hb
  subst e
  obtain⟨o,e,c,d⟩:=st
  exact⟨o,e,fun v z=>by rw[d]at z;cases z⟩
 keep:=fun i h h' st k=>st.at fun o e=>k it (by simp) o e
 item:=by
  intro X hP hw hK hc i pins s σ H E I hf st hg
  subst hP hw hK
  obtain⟨xs,x,hq,hx⟩:=hg
  obtain⟨its,rv,p,hz⟩:=I.list hq
  obtain⟨u,hu,ru⟩:=rv.get hx
  obtain⟨f0,f1,f2,f3,f4,f5⟩:=hf it (by simp)
  refine wpAny_pyNext_list_item st p.isList (x:=u) (by simpa using hu) fun h' st' sb=>?_
  have I1:Inv X pins σ H {s with heap:=h' }:=I.turned (t':=s.toks) (fun b o hb e=>(sb.2 b hb).trans e) f0 f1 f3 f4 f5
  obtain⟨o,e,c,d⟩:=id st'
  exact⟨u,rfl,go_of (s:={s with heap:=h' }) e c d (by decide) ⟨x,H,I1,ru,⟨rfl,fun ys hy=>by rw[I.list_inj hy hq];exact hx⟩,st',fun b hb=>(hf b hb).1⟩⟩
 done:=by
  intro X hP hw hK hc i pins s σ H E I hf st hg
  subst hP hw hK
  obtain⟨xs,hq,hx⟩:=hg
  obtain⟨its,rv,p,hz⟩:=I.list hq
  obtain⟨f0,f1,f2,f3,f4,f5⟩:=hf it (by simp)
  have hl:=rv.length
  exact wpAny_pyNext_list_end (I.ok.hd hc) st p.isList (by simp;omega) fun h' eb=>⟨rfl,I.turned (t':=s.toks) (fun b o hb e=>eb b o hb e) f0 f1 f3 f4 f5⟩
 self:=fun _ _ _ _ _ st h=>wpAny_pyIter_listiter st h
theorem turn_tuple{P:Program}{w:World}{K:PySem.W.Frag}{tg:Expr}(a it:Addr):Turn P w K tg (Itt K a) [it] it (fun i h=>h.IsTupleIter it a i) where
 mem:=by simp
 obj:=fun i h st b hb=>by
  have e:b=it:=by simpa using hb
  subst e
  obtain⟨o,e,c,d⟩:=st
  exact⟨o,e,fun v z=>by rw[d]at z;cases z⟩
 keep:=fun i h h' st k=>st.at fun o e=>k it (by simp) o e
 item:=by
  intro X hP hw hK hc i pins s σ H E I hf st hg
  subst hP hw hK
  obtain⟨xs,x,hq,hx⟩:=hg
  obtain⟨its,rv,p,hz⟩:=I.tuple hq
  obtain⟨u,hu,ru⟩:=rv.get hx
  obtain⟨f0,f1,f2,f3,f4,f5⟩:=hf it (by simp)
  refine wpAny_pyNext_tuple_item st (show s.heap.IsTuple a its.toArray from p) (x:=u) (by simpa using hu) fun h' st' sb=>?_
  have I1:Inv X pins σ H {s with heap:=h' }:=I.turned (t':=s.toks) (fun b o hb e=>(sb.2 b hb).trans e) f0 f1 f3 f4 f5
  obtain⟨o,e,c,d⟩:=id st'
  exact⟨u,rfl,go_of (s:={s with heap:=h' }) e c d (by decide) ⟨x,H,I1,ru,⟨rfl,fun ys hy=>by rw[I.tuple_inj hy hq];exact hx⟩,st',fun b hb=>(hf b hb).1⟩⟩
 done:=by
  intro X hP hw hK hc i pins s σ H E I hf st hg
  subst hP hw hK
  obtain⟨xs,hq,hx⟩:=hg
  obtain⟨its,rv,p,hz⟩:=I.tuple hq
  obtain⟨f0,f1,f2,f3,f4,f5⟩:=hf it (by simp)
  have hl:=rv.length
  exact wpAny_pyNext_tuple_end (I.ok.hd hc) st (show s.heap.IsTuple a its.toArray from p) (by simp;omega) fun h' eb=>⟨rfl,I.turned (t':=s.toks) (fun b o hb e=>eb b o hb e) f0 f1 f3 f4 f5⟩
 self:=fun _ _ _ _ _ st h=>wpAny_pyIter_tupleiter st h
theorem turn_range{P:Program}{w:World}{K:PySem.W.Frag}{tg:Expr}(it:Addr)(lo:Int)(n:Nat):Turn P w K tg (Itr lo n) [it] it (fun i h=>IsRangeIter h it (lo + (i:Nat) * 1) ((n:Int) - (i:Nat)) 1) where
 mem:=by simp
 obj:=fun i h st b hb=>by
  have e:b=it:=by simpa using hb
  subst e
  exact⟨_,st,fun v z=>by
   have z':Data.fields _=Data.cell v:=z
   cases z'⟩
 keep:=fun i h h' st k=>k it (by simp) _ st
 item:=by
  intro X hP hw hK hc i pins s σ H E I hf st hg
  subst hP hw hK
  obtain⟨f0,f1,f2,f3,f4,f5⟩:=hf it (by simp)
  have W:=Walks.range (prog:=X.prog) (w:=X.w) (I.ok.hd hc) it lo 1 n
  refine W.item i s _ _ hg st fun v h' tk hv st' kk=>?_
  obtain⟨t,rfl⟩:=hv
  have I1:Inv X pins σ H {s with heap:=h',toks:=tk}:=I.turned (fun b o hb e=>kk b o (by simpa using hb) e) f0 f1 f3 f4 f5
  refine⟨_,rfl,go_of (s:={s with heap:=h',toks:=tk}) (n := "range_iterator") st' rfl rfl (by decide) ⟨.int (lo + i),H,I1,⟨t,?_⟩,⟨rfl,rfl⟩,st',fun b hb=>(hf b hb).1⟩⟩
  rw[Int.mul_one]
 done:=by
  intro X hP hw hK hc i pins s σ H E I hf st hg
  subst hP hw hK
  obtain⟨f0,f1,f2,f3,f4,f5⟩:=hf it (by simp)
  exact wpAny_pyNext_range_end (I.ok.hd hc) st (by have:n<=i:=hg;omega) fun h' eb=>⟨rfl,I.turned (t':=s.toks) (fun b o hb e=>eb b o hb e) f0 f1 f3 f4 f5⟩
 self:=fun _ _ _ _ _ st h=>wpAny_pyIter_rangeiter st h
end L2
namespace L2
open PySem PySem.Spec PyProof.Rows
section
variable {X:Cx} {tg:Expr}
theorem range_it{pins:List (Addr×Obj)}{σ:St}{H:Hp}{s:Shared}{R:It->Hp->Prop}{E:Value->Shared->Prop}{lo hi:Int}{t u v:Tok}{tk:Nat}(I:Inv X pins σ H s)(h1:-(2 ^ 62)<=lo)(h2:lo < 2 ^ 62)(h3:-(2 ^ 62)<=hi)(h4:hi < 2 ^ 62)
  (q:R (Itr lo (hi - lo).toNat) H):wpAny (model X.prog X.w) X.A (pyIter (.ref s.heap.objs.size)) (PIE X pins σ tg R) E {s with heap:=s.heap.push {cls:=.type "range", data:=.fields #[.int lo t,.int hi u,.int 1 v]},toks:=tk}:=by
 refine wpAny_pyIter_range (IsRange.new ..) (small_one h1 h2 h3 h4) ?_
 have I1:Inv X pins σ H {s with heap:=s.heap.push {cls:=.type "range", data:=.fields #[.int lo t,.int hi u,.int 1 v]},toks:=tk}:=I.kept fun b o e=>Heap.get?_push_of_some _ e
 refine⟨(s.heap.push {cls:=.type "range", data:=.fields #[.int lo t,.int hi u,.int 1 v]}).objs.size,[(s.heap.push {cls:=.type "range", data:=.fields #[.int lo t,.int hi u,.int 1 v]}).objs.size],_,_,H,rfl,
  I1.kept (t':=tk) fun b o e=>Heap.get?_push_of_some _ e,turn_range _ lo (hi - lo).toNat,?_,fun b hb=>?_,q⟩
 ·have e1:lo + ((0:Nat):Int) * 1=lo:=by simp
  have e2:(((hi - lo).toNat:Nat):Int) - ((0:Nat):Int)=Builtin.Range.rangeSize lo hi 1:=by rw[rangeSize_one];split<;>omega
  show IsRangeIter _ _ (lo + ((0:Nat):Int) * 1) ((((hi - lo).toNat:Nat):Int) - ((0:Nat):Int)) 1
  rw[e1,e2]
  exact Heap.get?_push_size _ rfl
 ·have e:b=(s.heap.push {cls:=.type "range", data:=.fields #[.int lo t,.int hi u,.int 1 v]}).objs.size:=by simpa using hb
  subst e
  exact I1.fpOk (Nat.le_refl _) (I1.hok.fresh (Nat.le_refl _))
def iRng1(ta:TA):TI:=fun σ H R=>ta σ H fun vs H1=>∃j:Int,vs=[.int j] /\ -(2 ^ 62)<=j/\j < 2 ^ 62/\R (Itr 0 j.toNat) H1
def iRng2(ta:TA):TI:=fun σ H R=>ta σ H fun vs H1=>∃i j:Int,vs=[.int i,.int j]/\(-(2 ^ 62)<=i/\i < 2 ^ 62 /\ -(2 ^ 62)<=j/\j < 2 ^ 62)/\R (Itr i (j - i).toNat) H1
theorem pi_range1{a:Expr}{ta:TA}{p pos:Pos} (hg:Gl X "range") (hm:X.mg "range" = none) (ha:PA X [a] ta) (hs:starEach [a] X.env=[(false,eval a X.env)]:=by rfl):PI X tg (.Call (.Name "range" p) [a] [] pos) (iRng1 ta):=by
 intro pins s σ H R I h
 refine Call_ (ld_blt I hg hm boot_range (PyProof.Rows.callWith_type1 (thn (ha pos pins s σ H _ I h) fun us s1 ⟨vs,H1,I1,r1,q1⟩=>?_) hs rfl))
 obtain⟨j,e,q1,q2,q⟩:=q1
 subst e
 cases r1 with
 | cons r rr =>
  cases rr
  obtain⟨t,rfl⟩:=r
  exact call_range_1 (range_it I1 (by omega) (by omega) q1 q2 (by simpa using q))
theorem pi_range2{a b:Expr}{ta:TA}{p pos:Pos} (hg:Gl X "range") (hm:X.mg "range" = none) (ha:PA X [a,b] ta) (hs:starEach [a,b] X.env=[(false,eval a X.env),(false,eval b X.env)]:=by rfl) (hs2:starEach [b] X.env=[(false,eval b X.env)]:=by rfl) :
  PI X tg (.Call (.Name "range" p) [a,b] [] pos) (iRng2 ta):=by
 intro pins s σ H R I h
 refine Call_ (ld_blt I hg hm boot_range (PyProof.Rows.callWith_type1 (thn (ha pos pins s σ H _ I h) fun us s1 ⟨vs,H1,I1,r1,q1⟩=>?_) (by rw[hs,hs2]) (by rw[hs2];rfl)))
 obtain⟨i,j,e,⟨q1,q2,q3,q4⟩,q⟩:=q1
 subst e
 cases r1 with
 | cons r rr =>
  cases rr with
  | cons r' rr =>
   cases rr
   obtain⟨t,rfl⟩:=r
   obtain⟨t',rfl⟩:=r'
   exact call_range_2 (range_it I1 q1 q2 q3 q4 q)
def tFor(wi:TI)(g:TG)(tb:TS):TS:=fun D σ H=>wi σ H fun J H1=>∃W:Nat->Nat->St->Hp->Prop,(∃m,W 0 m σ H1)/\∀i m σ H,W i m σ H →
 (J.stop i H/\D.nx σ H)∨(J.go i H/\∃N:St->Hp->Prop,(∀σ' H',N σ' H'->∃m',m' < m/\W (i + 1) m' σ' H')/\∀x H',J.yld i H x H'->g x σ H' fun σ2 H2=>tb {D with nx:=N,ct:=N,bk:=D.nx} σ2 H2)
def pinsAt(fp:List Addr)(h:Heap):List (Addr×Obj):=fp.filterMap fun b=>(h.get? b).map fun o=>(b,o)
theorem mem_pinsAt{fp:List Addr}{h:Heap}{b:Addr}{o:Obj}(hb:b∈fp)(e:h.get? b=some o):(b,o)∈pinsAt fp h:=List.mem_filterMap.mpr ⟨b,hb,by rw[e];rfl⟩
theorem of_pinsAt{fp:List Addr}{h:Heap}{p:Addr×Obj}(hp:p∈pinsAt fp h):p.1∈fp/\h.get? p.1=some p.2:=by
 obtain⟨b,hb,e⟩:=List.mem_filterMap.mp hp
 cases q:h.get? b with
 | none=>rw[q]at e;cases e
 | some o =>
  rw[q]at e
  have e':(b,o)=p:=Option.some.inj e
  subst e'
  exact⟨hb,q⟩
theorem Inv.pinned{pins:List (Addr×Obj)}{σ:St}{H:Hp}{s:Shared}{fp:List Addr}(I:Inv X pins σ H s)(hf:∀b∈fp,FpOk X pins H b)(ho:∀b∈fp,∃o,s.heap.get? b=some o/\∀v,o.data ≠ .cell v):Inv X (pins++pinsAt fp s.heap) σ H s :=
 I.pins_of fun p hp=>(List.mem_append.mp hp).elim (fun z=>I.pin p (List.mem_append_right _ z)) fun z=>by
  obtain⟨hb,e⟩:=of_pinsAt z
  obtain⟨f0,f1,f2,_⟩:=hf p.1 hb
  obtain⟨o,e',d⟩:=ho p.1 hb
  rw[e]at e';cases e'
  exact⟨e,f0,f1,f2,d⟩
theorem Inv.unpinned{pins pl:List (Addr×Obj)}{σ:St}{H:Hp}{s:Shared}(I:Inv X (pins++pl) σ H s):Inv X pins σ H s:=I.pins_of fun p hp=>I.pin p (List.mem_append_right _ (List.mem_append_left _ hp))
theorem ps_for{iter:Expr}{body:List Stmt}{wi:TI}{g:TG}{tb:TS}{pos:Pos}(hp:PassesOwn (model X.prog X.w) X.A X.env X.xe)(hc:X.calm=true)(hi:PI X tg iter wi)(hg:PG X tg g)(hb:PSs X body tb)
  (hs:∀x,foldedSetIterable iter X.env x=pure x:=by intro _;rfl):PS X (.For tg iter body [] pos) (tFor wi g tb):=by
 intro pins s σ H D I h
 refine wpAny_For (thn (hi pins s σ H _ I h) fun v s1 h1=>thn h1 fun itv s2 h2=>?_) hs
 obtain⟨it,fp,tn,J,H2,e,I2,T,st2,f2,W,⟨m0,w0⟩,turn⟩:=h2
 subst e
 have stat:∀{H':Hp},(∀b∈fp,H' b=none)->∀b∈fp,FpOk X pins H' b:=fun hn b hb=>⟨hn b hb,(f2 b hb).2⟩
 refine codeAny_forLoop_any (fun n s'=>∃i σ' H',Inv X pins σ' H' s'/\tn i s'.heap/\(∀b∈fp,H' b=none)/\W i n σ' H') ?_ m0 ⟨0,σ,H2,I2,st2,fun b hb=>(f2 b hb).1,w0⟩
 rintro n s3 ⟨i,σ3,H3,I3,st3,fr3,w3⟩
 rcases turn i n σ3 H3 w3 with ⟨stop,qn⟩|⟨go,N,hN,step⟩
 ·refine wpAny_passesOwn hp (thn (T.done X rfl rfl rfl hc i pins s3 σ3 H3 X.xe I3 (stat fr3) st3 stop) fun r s4 ⟨hr,I4⟩=>?_)
  subst hr
  exact wpAny_execs_nil ⟨σ3,H3,I4,qn⟩
 ·refine wpAny_passesOwn hp (thn (T.item X rfl rfl rfl hc i pins s3 σ3 H3 X.xe I3 (stat fr3) st3 go) fun r s4 ⟨u,hr,h4⟩=>?_)
  subst hr
  refine wpAny_passesOwn hp (thn h4 fun _ s5 ⟨x,H5,I5,r5,y5,st5,fr5⟩=>?_)
  have I5':=I5.pinned (stat fr5) (T.obj _ _ st5)
  refine wpAny_passesOwn hp (thn (hg _ s5 σ3 H5 x u _ I5' r5 (step x H5 y5)) fun _ s6 ⟨σ6,H6,I6,q6⟩=>?_)
  refine wpAny_passesOwn hp (thn (hb _ s6 σ6 H6 _ I6 q6) fun f s7 q7=>?_)
  have again:∀{σ7:St}{H7:Hp},Inv X (pins++pinsAt fp s5.heap) σ7 H7 s7->N σ7 H7->∃m,m < n/\∃i σ' H',Inv X pins σ' H' s7/\tn i s7.heap/\(∀b∈fp,H' b=none)/\W i m σ' H':=fun {σ7 H7} I7 n7=>by
   obtain⟨m',hm,w7⟩:=hN σ7 H7 n7
   refine⟨m',hm,i + 1,σ7,H7,I7.unpinned,T.keep _ _ _ st5 fun b hb o e=>(I7.pin (b,o) (List.mem_append_right _ (List.mem_append_right _ (mem_pinsAt hb e)))).1,fun b hb=>?_,w7⟩
   obtain⟨o,e,d⟩:=T.obj _ _ st5 b hb
   exact(I7.pin (b,o) (List.mem_append_right _ (List.mem_append_right _ (mem_pinsAt hb e)))).2.1
  cases f with
  | next=>obtain⟨σ7,H7,I7,n7⟩:=q7;exact again I7 n7
  | cont=>obtain⟨σ7,H7,I7,n7⟩:=q7;exact again I7 n7
  | brk=>obtain⟨σ7,H7,I7,q7⟩:=q7;exact⟨σ7,H7,I7.unpinned,q7⟩
  | ret v=>obtain⟨x7,σ7,H7,I7,r7,q7⟩:=q7;exact⟨x7,σ7,H7,I7.unpinned,r7,q7⟩
end
end L2
namespace L2
open PySem PySem.Spec PyProof.Rows
abbrev R2:=V->V->Hp->VK->Prop
def OpR(X:Cx)(f:Value->Value->Sem Value)(r:R2):Prop :=
 ∀(pins:List (Addr×Obj))(s:Shared)(σ:St)(H:Hp)(x y:V)(v u:Value)(Q:VK),Inv X pins σ H s->RelV x v->RelV y u->r x y H Q →
  wpAny (model X.prog X.w) X.A (f v u) (EP X pins σ Q) X.xe s
def UnR(X:Cx)(f:Value->Sem Value)(r:V->Hp->VK->Prop):Prop :=
 ∀(pins:List (Addr×Obj))(s:Shared)(σ:St)(H:Hp)(x:V)(v:Value)(Q:VK),Inv X pins σ H s->RelV x v->r x H Q →
  wpAny (model X.prog X.w) X.A (f v) (EP X pins σ Q) X.xe s
def CallR(X:Cx)(f:Value)(r:List V->Hp->VK->Prop):Prop :=
 ∀(pins:List (Addr×Obj))(s:Shared)(σ:St)(H:Hp)(xs:List V)(us:List Value)(Q:VK),Inv X pins σ H s->Vals xs us->r xs H Q →
  wpAny (model X.prog X.w) X.A (call f us) (EP X pins σ Q) X.xe s
def TruR(X:Cx)(r:V->Hp->(Bool->Hp->Prop)->Prop):Prop :=
 ∀(pins:List (Addr×Obj))(s:Shared)(σ:St)(H:Hp)(x:V)(v:Value)(Q:Bool->Hp->Prop),Inv X pins σ H s->RelV x v->r x H Q →
  wpAny (model X.prog X.w) X.A (truthy v) (TP X pins σ Q) X.xe s
def tOp(r:R2)(ta tb:TE):TE:=fun σ H Q=>ta σ H fun x H1=>tb σ H1 fun y H2=>r x y H2 Q
def tUn(r:V->Hp->VK->Prop)(ta:TE):TE:=fun σ H Q=>ta σ H fun x H1=>r x H1 Q
def rI(C:Int->Int->Prop)(g:Int->Int->V):R2:=fun x y H Q=>∃i j,x=.int i/\y=.int j/\C i j/\Q (g i j) H
def rI0(g:Int->Int->V):R2:=fun x y H Q=>∃i j,x=.int i/\y=.int j/\Q (g i j) H
def rU(g:Int->V):V->Hp->VK->Prop:=fun x H Q=>∃i,x=.int i/\Q (g i) H
section
variable {X:Cx} {a b c:Expr} {ta tb tc:TE} {pos:Pos}
theorem binT(ha:PE X a ta)(hb:PE X b tb){pins:List (Addr×Obj)}{s:Shared}{σ:St}{H:Hp}{R:V->V->Hp->Prop}(I:Inv X pins σ H s)
  (h:ta σ H fun x H1=>tb σ H1 fun y H2=>R x y H2) {Q:Value->Shared->Prop} {f:Value->Value->Sem Value}
  (hf:∀v u s2 x y H2,Inv X pins σ H2 s2->RelV x v->RelV y u->R x y H2->wpAny (model X.prog X.w) X.A (f v u) Q X.xe s2) :
  wpAny (model X.prog X.w) X.A (eval a X.env) (fun v s₁=>wpAny (model X.prog X.w) X.A (eval b X.env) (fun u s₂=>wpAny (model X.prog X.w) X.A (f v u) Q X.xe s₂) X.xe s₁) X.xe s:=by
 refine thn (ha pins s σ H _ I h) fun v s1 ⟨x,H1,I1,r1,q1⟩=>?_
 refine thn (hb pins s1 σ H1 _ I1 q1) fun u s2 ⟨y,H2,I2,r2,q2⟩=>?_
 exact hf v u s2 x y H2 I2 r1 r2 q2
theorem pe_op{op:Operator}{r:R2}(ho:OpR X (binaryOp op) r)(ha:PE X a ta)(hb:PE X b tb):PE X (.BinOp a op b pos) (tOp r ta tb):=by
 intro pins s σ H Q I h
 exact wpAny_BinOp (binT ha hb I h fun v u s2 x y H2 I2 rx ry q=>ho pins s2 σ H2 x y v u Q I2 rx ry q)
theorem pe_un{op:UnaryOp}{r:V->Hp->VK->Prop}(ho:UnR X (unaryOp op) r)(ha:PE X a ta):PE X (.UnaryOp op a pos) (tUn r ta):=by
 intro pins s σ H Q I h
 exact UnaryOp_ (thn (ha pins s σ H _ I h) fun v s1 ⟨x,H1,I1,r1,q1⟩=>ho pins s1 σ H1 x v Q I1 r1 q1)
theorem opI{f:Value->Value->Sem Value}{C:Int->Int->Prop}{g:Int->Int->Int}
  (rule:∀(i j:Int)(t u:Tok)(s:Shared)(Q:Value->Shared->Prop)(E:Value->Shared->Prop),C i j->Q (.int (g i j) s.toks) {s with toks:=s.toks + 1}->wpAny (model X.prog X.w) X.A (f (.int i t) (.int j u)) Q E s) :
  OpR X f (rI C fun i j=>.int (g i j)):=by
 intro pins s σ H x y v u Q I rx ry h
 obtain⟨i,j,rfl,rfl,hc,q⟩:=h
 obtain⟨t,rfl⟩:=rx
 obtain⟨t',rfl⟩:=ry
 exact rule i j t t' s _ _ hc ⟨.int (g i j),H,I.tok _,⟨_,rfl⟩,q⟩
theorem opI0{f:Value->Value->Sem Value}{g:Int->Int->Int}
  (rule:∀(i j:Int)(t u:Tok)(s:Shared)(Q:Value->Shared->Prop)(E:Value->Shared->Prop),Q (.int (g i j) s.toks) {s with toks:=s.toks + 1}->wpAny (model X.prog X.w) X.A (f (.int i t) (.int j u)) Q E s) :
  OpR X f (rI0 fun i j=>.int (g i j)):=by
 intro pins s σ H x y v u Q I rx ry h
 obtain⟨i,j,rfl,rfl,q⟩:=h
 obtain⟨t,rfl⟩:=rx
 obtain⟨t',rfl⟩:=ry
 exact rule i j t t' s _ _ ⟨.int (g i j),H,I.tok _,⟨_,rfl⟩,q⟩
theorem opB0{f:Value->Value->Sem Value}{g:Int->Int->Bool}
  (rule:∀(i j:Int)(t u:Tok)(s:Shared)(Q:Value->Shared->Prop)(E:Value->Shared->Prop),Q (.bool (g i j)) s->wpAny (model X.prog X.w) X.A (f (.int i t) (.int j u)) Q E s) :
  OpR X f (rI0 fun i j=>.bl (g i j)):=by
 intro pins s σ H x y v u Q I rx ry h
 obtain⟨i,j,rfl,rfl,q⟩:=h
 obtain⟨t,rfl⟩:=rx
 obtain⟨t',rfl⟩:=ry
 exact rule i j t t' s _ _ ⟨.bl (g i j),H,I,rfl,q⟩
def CPow(i j:Int):Prop:=0<=j/\j<=1000000/\i.natAbs < 2 ^ 64
def CMul(i j:Int):Prop:=(-(2 ^ 64) < i/\i < 2 ^ 64)∨(-(2 ^ 64) < j/\j < 2 ^ 64)
theorem CMul.ok{i j:Int}(h:CMul i j):IntMulOk i j:=by
 rcases h with ⟨h1,h2⟩|⟨h1,h2⟩
 ·exact .of_left (intBits_le_64 h1 h2)
 ·exact .of_right (intBits_le_64 h1 h2)
theorem op_add:OpR X (binaryOp .Add) (rI0 fun i j=>.int (i + j)):=opI0 fun _ _ _ _ _ _ _ q=>add_int q
theorem op_sub:OpR X (binaryOp .Sub) (rI0 fun i j=>.int (i - j)):=opI0 fun _ _ _ _ _ _ _ q=>sub_int q
theorem op_modN:OpR X (binaryOp .Mod) (rI (fun _ j=>j≠0) fun i j=>.int (i.fmod j)):=opI fun _ _ _ _ _ _ _ hc q=>mod_int' hc q
theorem op_pow:OpR X (binaryOp .Pow) (rI CPow fun i j=>.int (i ^ j.toNat)):=opI fun _ _ _ _ _ _ _ hc q=>pow_int_small hc.1 hc.2.1 hc.2.2 q
theorem unI{f:Value->Sem Value}{g:Int->Int}
  (rule:∀(i:Int)(t:Tok)(s:Shared)(Q:Value->Shared->Prop)(E:Value->Shared->Prop),Q (.int (g i) s.toks) {s with toks:=s.toks + 1}->wpAny (model X.prog X.w) X.A (f (.int i t)) Q E s) :
  UnR X f (rU fun i=>.int (g i)):=by
 intro pins s σ H x v Q I rx h
 obtain⟨i,rfl,q⟩:=h
 obtain⟨t,rfl⟩:=rx
 exact rule i t s _ _ ⟨.int (g i),H,I.tok _,⟨_,rfl⟩,q⟩
theorem un_neg:UnR X (unaryOp .USub) (rU fun i=>.int (-i)):=unI fun _ _ _ _ _ q=>neg_int q
end
section
variable {X:Cx} {a b c:Expr} {ta tb tc:TE} {pos:Pos}
theorem fin_bl{pins:List (Addr×Obj)}{σ:St}{H:Hp}{s:Shared}{Q:VK}{k k':Bool}(I:Inv X pins σ H s)(q:Q (.bl k) H)(e:k=k'):EP X pins σ Q (.bool k') s:=by
 subst e
 exact⟨.bl k,H,I,rfl,q⟩
theorem op_lt:OpR X (compareOp .Lt) (rI0 fun i j=>.bl (decide (i < j))):=opB0 fun _ _ _ _ _ _ _ q=>lt_int q
theorem op_le:OpR X (compareOp .LtE) (rI0 fun i j=>.bl (decide (i<=j))):=opB0 fun _ _ _ _ _ _ _ q=>le_int q
theorem op_gt:OpR X (compareOp .Gt) (rI0 fun i j=>.bl (decide (j < i))):=opB0 fun _ _ _ _ _ _ _ q=>gt_int q
theorem op_ge:OpR X (compareOp .GtE) (rI0 fun i j=>.bl (decide (j<=i))):=opB0 fun _ _ _ _ _ _ _ q=>ge_int q
theorem op_isN:OpR X (compareOp .Is) (fun x y H Q=>y=.non/\Q (.bl (decide (x=.non))) H):=by
 intro pins s σ H x y v u Q I rx ry h
 obtain⟨rfl,q⟩:=h
 cases ry
 refine is_none_gen (fin_bl I q ?_)
 cases x<;>first
  | (cases rx;rfl)
  | (obtain⟨t,rfl⟩:=rx;rfl)
theorem OpR.or{f:Value->Value->Sem Value}{r r':R2}(h:OpR X f r)(h':OpR X f r'):OpR X f (fun x y H Q=>r x y H Q∨r' x y H Q):=by
 intro pins s σ H x y v u Q I rx ry q
 rcases q with q|q
 ·exact h pins s σ H x y v u Q I rx ry q
 ·exact h' pins s σ H x y v u Q I rx ry q
theorem nomark(b:Expr){op:CmpOp}(h:op ≠ .In:=by decide)(h2:op ≠ .NotIn:=by decide):behindInMarks op b=false:=by
 have e1:(op==CmpOp.In)=false:=by cases op<;>first|rfl|exact absurd rfl h
 have e2:(op==CmpOp.NotIn)=false:=by cases op<;>first|rfl|exact absurd rfl h2
 cases b<;>simp[behindInMarks,e1,e2]
theorem pe_cmpR{op:CmpOp}{r:R2}(ho:OpR X (compareOp op) r)(ha:PE X a ta)(hb:PE X b tb)(hm:behindInMarks op b=false):PE X (.Compare a [op] [b] pos) (tOp r ta tb):=by
 intro pins s σ H Q I h
 exact wpAny_Compare1 (binT ha hb I h fun v u s2 x y H2 I2 rx ry q=>ho pins s2 σ H2 x y v u Q I2 rx ry q) hm
def tTest(t:TE):TT:=fun σ H Q=>t σ H fun x H'=>∃k,x=.bl k/\Q k H'
theorem pt_cmpR{op:CmpOp}{r:R2}(ho:OpR X (compareOp op) r)(ha:PE X a ta)(hb:PE X b tb)(hm:behindInMarks op b=false):PT X (.Compare a [op] [b] pos) (tTest (tOp r ta tb)):=by
 intro pins s σ H Q I h
 refine wpAny_isTrue_Compare1 (thn (ha pins s σ H _ I h) fun v s1 ⟨x,H1,I1,r1,q1⟩=>thn (hb pins s1 σ H1 _ I1 q1) fun u s2 ⟨y,H2,I2,r2,q2⟩ =>
  thn (ho pins s2 σ H2 x y v u _ I2 r1 r2 q2) fun c s3 ⟨z,H3,I3,r3,k,e,q3⟩=>?_) hm
 subst e
 cases r3
 exact wpAny_truthy_bool ⟨H3,I3,q3⟩
def TruV(K:PySem.W.Frag)(x:V)(H:Hp)(k:Bool):Prop :=
 match x with
 | .non=>k=false
 | .bl b=>k=b
 | .int i=>k=(i != 0)
 | .str y=>y.length<=sizeLine/\k=((y.length:Int) != 0)
 | .byt y=>y.size<=sizeLine/\k=((y.size:Int) != 0)
 | .ref p=>(∃xs,SqL K H p xs/\k=!xs.isEmpty)∨(∃xs,SqT K H p xs/\k=!xs.isEmpty)∨∃kvs,H p=some (.dK kvs)/\k=!kvs.isEmpty
 | _=>False
theorem isEmpty_kv{κ:Type}{kvs:List (κ×V)}{vs:List (κ×Value)}(r:KV kvs vs):(!vs.isEmpty)=!kvs.isEmpty:=by
 cases r<;>rfl
theorem isEmpty_of{xs:List V}{its:List Value}(r:Vals xs its):(!its.toArray.isEmpty)=!xs.isEmpty:=by
 cases r<;>simp
theorem line63:(sizeLine:Nat) < 2 ^ 63:=by rw[sizeLine_eq];decide
theorem tru_ok:TruR X (fun x H Q=>∃k,TruV X.K x H k/\Q k H):=by
 intro pins s σ H x v Q I rx h
 obtain⟨k,e,q⟩:=h
 have hl:=line63
 have hs:sizeLine=16777216:=sizeLine_eq
 cases x with
 | non =>
  cases rx
  have e':k=false:=e
  subst e'
  exact truthy_none ⟨H,I,q⟩
 | bl b =>
  cases rx
  have e':k=b:=e
  subst e'
  exact wpAny_truthy_bool ⟨H,I,q⟩
 | int i =>
  obtain⟨t,rfl⟩:=rx
  have e':k=(i != 0):=e
  subst e'
  exact PySem.P.truthy_int ⟨H,I,q⟩
 | str y =>
  obtain⟨t,rfl⟩:=rx
  obtain⟨hy,e'⟩:y.length<=sizeLine/\k=((y.length:Int) != 0):=e
  subst e'
  exact PySem.P.truthy_str (by omega) ⟨H,I.tok _,q⟩
 | byt y =>
  obtain⟨t,rfl⟩:=rx
  obtain⟨hy,e'⟩:y.size<=sizeLine/\k=((y.size:Int) != 0):=e
  subst e'
  exact PySem.W.truthy_bytes (by omega) ⟨H,I.tok _,q⟩
 | ref p =>
  cases rx
  have e':(∃xs,SqL X.K H p xs/\k=!xs.isEmpty)∨(∃xs,SqT X.K H p xs/\k=!xs.isEmpty)∨∃kvs,H p=some (.dK kvs)/\k=!kvs.isEmpty:=e
  rcases e' with ⟨xs,hx,e'⟩|⟨xs,hx,e'⟩|⟨kvs,hx,e'⟩
  ·subst e'
   obtain⟨its,r,pl,hz⟩:=I.list hx
   have hlen:=r.length
   exact wpAny_truthy_list pl.isList (by simp only[List.size_toArray];omega) ⟨H,I.tok _,by rw[isEmpty_of r];exact q⟩
  ·subst e'
   obtain⟨its,r,pl,hz⟩:=I.tuple hx
   have hlen:=r.length
   exact truthy_tuple pl (by simp only[List.size_toArray];omega) ⟨H,I.tok _,by rw[isEmpty_of r];exact q⟩
  ·subst e'
   obtain⟨hz,hS,vs,r,m⟩:kvs.length<=sizeLine/\(p==sysModules)=false/\∃vs,KV kvs vs/\s.heap.DictOf (mixKind X.prog X.w) p vs:=I.hok p _ hx
   have hlen:kvs.length=vs.length:=Paired.length r
   exact wpAny_truthy_dict hS m (by omega) ⟨H,I.tok _,by rw[isEmpty_kv r];exact q⟩
 | _=>exact(show False from e).elim
theorem pt_truth(ha:PE X a ta)(he:∀whole,isTrue a X.env whole=(do let v ← whole;standAt a.pos;holding [v] (truthy v))) :
  PT X a (fun σ H Q=>ta σ H fun x H'=>∃k,TruV X.K x H' k/\Q k H'):=by
 intro pins s σ H Q I h
 exact isTrue_plain (thn (ha pins s σ H _ I h) fun v s1 ⟨x,H1,I1,r1,q1⟩=>tru_ok pins s1 σ H1 x v Q I1 r1 q1) (he _)
theorem vals1{x:V}{us:List Value}(r:Vals [x] us):∃u,us=[u]/\RelV x u:=by
 cases r with
 | cons r1 r2=>cases r2;exact⟨_,rfl,r1⟩
theorem vals2{x y:V}{us:List Value}(r:Vals [x,y] us):∃u w',us=[u,w']/\RelV x u/\RelV y w':=by
 cases r with
 | cons r1 r2 =>
  cases r2 with
  | cons r3 r4=>cases r4;exact⟨_,_,rfl,r1,r3⟩
theorem call_abs:CallR X (.builtin "abs") (fun xs H Q=>∃i,xs=[.int i]/\Q (.int (if i < 0 then -i else i)) H):=by
 intro pins s σ H xs us Q I r h
 obtain⟨i,rfl,q⟩:=h
 obtain⟨u,rfl,t,rfl⟩:=vals1 r
 exact call_abs_int fun u tk=>⟨.int (if i < 0 then -i else i),H,I.tok _,⟨_,rfl⟩,q⟩
theorem call_max2(hc:X.calm=true):CallR X (.builtin "max") (fun xs H Q=>∃i j,xs=[.int i,.int j]/\Q (.int (if j > i then j else i)) H):=by
 intro pins s σ H xs us Q I r h
 obtain⟨i,j,rfl,q⟩:=h
 obtain⟨u,w',rfl,⟨t,rfl⟩,⟨t',rfl⟩⟩:=vals2 r
 refine max_two_ints (I.ok.hd hc) fun h' tk k=>⟨_,H,I.kept k,?_,q⟩
 by_cases hj:j > i
 ·rw[if_pos hj,if_pos hj];exact⟨_,rfl⟩
 ·rw[if_neg hj,if_neg hj];exact⟨_,rfl⟩
theorem call_int1:CallR X (.type "int") (fun xs H Q=>(∃i,xs=[.int i]/\Q (.int i) H)∨∃k,xs=[.bl k]/\Q (.int (if k then 1 else 0)) H):=by
 intro pins s σ H xs us Q I r h
 rcases h with ⟨i,rfl,q⟩|⟨k,rfl,q⟩
 ·obtain⟨u,rfl,t,rfl⟩:=vals1 r
  exact call_int_int ⟨.int i,H,I,⟨_,rfl⟩,q⟩
 ·obtain⟨u,rfl,r1⟩:=vals1 r
  cases r1
  exact call_int_bool ⟨.int (if k then 1 else 0),H,I.tok _,⟨_,rfl⟩,q⟩
end
end L2
namespace L2
open PySem PySem.Spec PyProof.Rows
structure ObjM(h:Heap)(x dx C:Addr)(mA:Str->Option Value):Prop where
 obj:h.get? x=some (PySem.W.instObj C dx)
 ns:h.Ns1 dx mA
 ne:dx≠x
theorem lookIn_ns{h:Heap}{dx:Addr}{mA:Str->Option Value}(n:h.Ns1 dx mA):∃od,h.get? dx=some od/\∀name,PySem.W.lookIn name od=some (mA name):=by
 obtain⟨o,es,ep,ho,hd,hk,_,hm⟩:=n
 refine⟨o,ho,fun name=>?_⟩
 have e:=hm name
 unfold nsFind findBy at e
 rw[← Array.find?_toList]at e
 unfold PySem.W.lookIn
 rw[hd]
 dsimp only
 split
 ·rename_i y q
  rw[q]at e
  exact congrArg some e
 ·rename_i q
  rw[q]at e
  have a:es.toList.any (·.refKey)=false:=by
   rw[List.any_eq_false]
   intro y hy
   obtain⟨z,t,hkey⟩:=hk y (Array.mem_toList_iff.mp hy)
   simp[DictEntry.refKey,hkey]
  have a':¬ es.toList.any (·.refKey)=true:=by rw[a];exact Bool.false_ne_true
  rw[if_neg a']
  exact congrArg some e
theorem ObjM.look{h:Heap}{x dx C:Addr}{mA:Str->Option Value}(I:ObjM h x dx C mA):∃od,PySem.W.InstAt h x (PySem.W.instObj C dx) C (some od)/\∀name,PySem.W.lookIn name od=some (mA name) :=
 let ⟨od,ho,hl⟩:=lookIn_ns I.ns
 ⟨od,⟨I.obj,rfl,rfl,ho⟩,hl⟩
section
variable {prog:Program} {w:World} {A:Around} {E:Value->Shared->Prop} {s:Shared} {K:PySem.W.Frag} {x dx C f:Addr} {mA:Str->Option Value} {name:Str} {v:Value}
end
section
variable {P:Program} {w:World} {H H':Hp} {h h':Heap} {a C dx:Addr} {fs fs':List (Str×V)}
end
structure Cls(K:PySem.W.Frag)(C:Addr):Prop where
 pg:PySem.W.plainGet K C Str.empty=true
 hd:PySem.W.hasDictIn K C=true
 po:PySem.W.plainOver K C=true
 sa:PySem.W.findIn K (.ref C) "__setattr__" = some (some (.builtin "object.__setattr__"))
theorem Cls.get{K:PySem.W.Frag}{C:Addr}(c:Cls K C)(f:Str):PySem.W.plainGet K C f=true:=c.pg
structure Con(K:PySem.W.Frag)(C:Addr)(f:Str)(v:V)(u:Value):Prop where
 at_:PySem.W.findIn K (.ref C) f=some (some u)
 rel:RelV v u
 get:PySem.W.specialIn K u "__get__" = some none
 cp:PySem.W.copiedNames.contains f=false
structure Meth(K:PySem.W.Frag)(C:Addr)(m:Str)(f:Addr):Prop where
 at_:PySem.W.findIn K (.ref C) m=some (some (.ref f))
 fn:PySem.W.isFn K (.ref f)=true
 kp:PySem.W.keepIn K (.ref f)=true
section
variable {X:Cx} {pins:List (Addr×Obj)} {σ:St} {H:Hp} {s:Shared} {a C dx:Addr} {fs:List (Str×V)} {f:Str} {v:V} {A:Around} {E:Value->Shared->Prop}
end
section
variable {X:Cx} {o e value:Expr} {f:Str} {pos pos' tpos:Pos} {ta tv:TE}
end
section
variable {X:Cx} {pins:List (Addr×Obj)} {σ:St} {H:Hp} {s:Shared} {A:Around} {E:Value->Shared->Prop} {Q:Value->Shared->Prop} {c:Value} {b:Bool}
inductive TyOf (K:PySem.W.Frag) (H:Hp):V->Value->Prop where
 | non:TyOf K H .non (.type "NoneType")
 | bl (x:Bool):TyOf K H (.bl x) (.type "bool")
 | int (i:Int):TyOf K H (.int i) (.type "int")
 | str (x:Str):TyOf K H (.str x) (.type "str")
 | flt (x:UInt64):TyOf K H (.flt x) (.type "float")
 | lst {a:Addr} {xs:List V} (e:H a=some (.lst xs)):TyOf K H (.ref a) (.type "list")
 | frz {a:Addr} {o:Obj} {xs:List V} (e:H a=some (.frz o (.lst xs))):TyOf K H (.ref a) (.type "list")
 | tup {a:Addr} {xs:List V} (e:H a=some (.tup xs)):TyOf K H (.ref a) (.type "tuple")
 | dK {a:Addr} {kvs:List (Key×V)} (e:H a=some (.dK kvs)):TyOf K H (.ref a) (.type "dict")
 | dT {a:Addr} {kvs:List (List Key×V)} (e:H a=some (.dT kvs)):TyOf K H (.ref a) (.type "dict")
 | ins {a C dx:Addr} {fs:List (Str×V)} (e:H a=some (.ins C dx fs)) (cl:Cls K C) (ha:PySem.W.findIn K (.ref C) "__class__" = some (some (.builtin "object.__class__")))
   (hn:PySem.W.specialIn K (.builtin "object.__class__") "__get__" = some (some (.builtin "getset_descriptor.__get__"))) (htk:PySem.W.takesIn K (.builtin "object.__class__")=some true)
   (hm:PySem.W.mroIn K C (.type "object")=some true):TyOf K H (.ref a) (.ref C)
end
end L2
namespace L2
open PySem PySem.Spec PyProof.Rows
structure Room(k:Nat)(A:Around):Prop where
 hd:A.handled=none
 dp:A.depth + 3 * k + 5 < recursionLimit
 un:A.units + 16 * k + 200 < cLine
theorem Room.mono{j k:Nat}{A:Around}(r:Room k A)(h:j<=k):Room j A:=⟨r.hd,by have:=r.dp;omega,by have:=r.un;omega⟩
theorem Room.deeper{k:Nat}{A:Around}(r:Room (k + 1) A)(env:Env):Room k (A.deeper env) :=
 ⟨r.hd,by have:=r.dp;show A.depth + 1 + 3 * k + 5 < _;omega,by have:=r.un;show A.units + 3 + 16 * k + 200 < _;omega⟩
theorem Room.in1{k:Nat}{A:Around}(r:Room (k + 1) A):Room k A.in1 :=
 ⟨r.hd,by have:=r.dp;show A.depth + 3 * k + 5 < _;omega,by have:=r.un;show A.units + 1 + 16 * k + 200 < _;omega⟩
theorem Room.depth{k:Nat}{A:Around}(r:Room k A):A.depth < recursionLimit:=by have:=r.dp;omega
theorem Room.units{k:Nat}{A:Around}(r:Room k A):A.units + 64 < cLine:=by have:=r.un;omega
def tNil:TA:=fun _ H Q=>Q [] H
def tCons(ta:TE)(tr:TA):TA:=fun σ H Q=>ta σ H fun x H1=>tr σ H1 fun xs H2=>Q (x::xs) H2
section
variable {X:Cx} {e:Expr} {es:List Expr} {te:TE} {t:TA} {pos:Pos}
theorem pa_nil:PA X [] tNil:=fun _ _ _ _ H Q I h=>Calls.spliced_nil ⟨[],H,I,.nil,h⟩
theorem pa_cons(ha:PE X e te)(hr:PA X es t)(hs:starEach (e::es) X.env=(false,eval e X.env)::starEach es X.env:=by rfl):PA X (e::es) (tCons te t):=by
 intro pos pins s σ H Q I h
 rw[hs]
 show wpAny _ _ (spliced ((false,eval e X.env)::backTo pos (starEach es X.env))) _ _ s
 refine Calls.spliced_cons (thn (ha pins s σ H _ I h) fun u s1 ⟨x,H1,I1,r1,q1⟩=>?_)
 exact thn (hr pos pins s1 σ H1 _ I1 q1) fun us s2 ⟨xs,H2,I2,r2,q2⟩=>⟨x::xs,H2,I2,.cons r1 r2,q2⟩
def tTup(t:TA):TE:=fun σ H Q=>t σ H fun xs H1=>xs.length<=sizeLine/\∀p,H1 p=none->Q (.ref p) (upd H1 p (.tup xs))
def tLst(t:TA):TE:=fun σ H Q=>t σ H fun xs H1=>xs.length<=sizeLine/\∀p,H1 p=none->Q (.ref p) (upd H1 p (.lst xs))
theorem pe_tup{x1}(h:PA X es t):PE X (.Tuple es x1 pos) (tTup t):=by
 intro pins s σ H Q I hq
 refine wpAny_Tuple_spliced (thn (h pos pins s σ H _ I hq) fun us s1 ⟨xs,H1,I1,r,z,q⟩=>⟨by rw[← r.length];exact z,?_⟩)
 have hf:H1 s1.heap.objs.size=none:=I1.hok.fresh (Nat.le_refl _)
 refine⟨.ref s1.heap.objs.size,upd H1 s1.heap.objs.size (.tup xs),I1.laid (t':=s1.toks) (fun b u e=>Heap.get?_push_of_some _ e) (Nat.le_refl _) ?_,rfl,q _ hf⟩
 exact⟨z,us,r,⟨_,Heap.get?_push_size _ rfl,rfl,_,rfl⟩⟩
theorem pe_lst(h:PA X es t):PE X (.List es pos) (tLst t):=by
 intro pins s σ H Q I hq
 refine wpAny_List_spliced (thn (h pos pins s σ H _ I hq) fun us s1 ⟨xs,H1,I1,r,z,q⟩=>⟨by rw[← r.length];exact z,?_⟩)
 have hf:H1 s1.heap.objs.size=none:=I1.hok.fresh (Nat.le_refl _)
 refine⟨.ref s1.heap.objs.size,upd H1 s1.heap.objs.size (.lst xs),I1.laid (t':=s1.toks) (fun b u e=>Heap.get?_push_of_some _ e) (Nat.le_refl _) ?_,rfl,q _ hf⟩
 exact⟨z,us,0,r,Heap.get?_push_size _ rfl⟩
end
abbrev Sp:=List V->Hp->VK->XK->Prop
abbrev CXT:=List Env->Hp->Shared->XK->Value->Shared->Prop
structure Env0(P:Program)(w:World)(K:PySem.W.Frag)(mg:Str->Option Value)(base:Heap)(A:Around)(outer:List Env)(s:Shared)(H:Hp):Prop where
 frames:A.frames=some outer
 mod:Mod K mg base
 bs:∀b o,base.get? b=some o->s.heap.get? b=some o/\H b=none
 bsz:base.objs.size<=s.heap.objs.size
 funs:s.heap.FunFrames base outer
 frf:∀b∈frs outer,H b=none
 hok:HOk P w H s.heap
 bare:AllBare s.gens
def CE(outer:List Env)(P:Program)(w:World)(H:Hp)(s:Shared)(Q:VK)(u:Value)(s':Shared):Prop :=
 ∃v H',s'.os=s.os/\AllBare s'.gens/\Un (frs outer) [] H H' s.heap s'.heap/\HOk P w H' s'.heap/\RelV v u/\Q v H'
def CR(CX:CXT)(outer:List Env)(P:Program)(w:World)(H:Hp)(s:Shared)(Q:VK)(E:XK)(r:Result)(s':Shared):Prop :=
 match r with
 | .ok (.ret u)=>CE outer P w H s Q u s'
 | .ok _=>False
 | .error e=>CX outer H s E e s'
structure FnOk(P:Program)(w:World)(K:PySem.W.Frag)(mg:Str->Option Value)(base:Heap)(CX:CXT)(k:Nat)(f:Addr)(fd:FuncData)(ps:List Str)(sp:Sp):Prop where
 len:∀vs H Q E,sp vs H Q E->vs.length=ps.length
 run:∀(A:Around)(outer:List Env)(s:Shared)(H:Hp)(args:Args)(us:List Value)(vs:List V)(Q:VK)(E:XK),Room k A->Env0 P w K mg base A outer s H->BindsTo s fd args (ps.zip us)->Vals vs us->sp vs H Q E →
  codeAny (model P w) A (.call (.ref f) args) (CR CX outer P w H s Q E) s
theorem FnOk.mono{P:Program}{w:World}{K:PySem.W.Frag}{mg:Str->Option Value}{base:Heap}{CX:CXT}{j k:Nat}{f:Addr}{fd:FuncData}{ps:List Str}{sp:Sp}(F:FnOk P w K mg base CX j f fd ps sp)(h:j<=k) :
  FnOk P w K mg base CX k f fd ps sp:=⟨F.len,fun A outer s H args us vs Q E hr=>F.run A outer s H args us vs Q E (hr.mono h)⟩
theorem Env0.in1{P:Program}{w:World}{K:PySem.W.Frag}{mg:Str->Option Value}{base:Heap}{A:Around}{outer:List Env}{s:Shared}{H:Hp}(e:Env0 P w K mg base A outer s H) :
  Env0 P w K mg base A.in1 outer s H:=⟨e.frames,e.mod,e.bs,e.bsz,e.funs,e.frf,e.hok,e.bare⟩
section
variable {X:Cx} {pins:List (Addr×Obj)} {σ:St} {H:Hp} {s s':Shared}
theorem Inv.env0(I:Inv X pins σ H s):Env0 X.prog X.w X.K X.mg X.base X.A X.stack s H :=
 ⟨I.ok.frames,I.ok.mod,I.bs,Nat.le_trans I.ok.bsz I.sz,I.stack,I.stkFree,I.hok,I.bare⟩
theorem Inv.after{Q:VK}{u:Value}(I:Inv X pins σ H s)(h:CE X.stack X.prog X.w H s Q u s'):EP X pins σ Q u s':=by
 obtain⟨v,H',os,bare,un,hok,r,q⟩:=h
 obtain⟨hh,g,d,t,os'⟩:=s'
 obtain rfl:os'=s.os:=os
 exact⟨v,H',I.call (h':=hh) (g':=g) (d':=d) (t':=t) (ch:=[]) un hok bare (fun b z=>absurd z (by simp)),r,q⟩
end
def tCall(sp:Sp)(dvs:List V)(E:XK)(t:TA):TE:=fun σ H Q=>t σ H fun vs H1=>sp (vs++dvs) H1 Q E
def Binds(K:PySem.W.Frag)(fd:FuncData)(ps:List Str)(ds:List Value):Prop :=
 ∀(s:Shared)(us:List Value),K.In s.heap->(us++ds).length=ps.length->BindsTo s fd ⟨us,[]⟩ (ps.zip (us++ds))
theorem Binds.all{K:PySem.W.Frag}{fd:FuncData}{ps:List Str}(h:∀us:List Value,us.length=ps.length->bindArgs fd ⟨us,[]⟩=pure (ps.zip us)):Binds K fd ps []:=fun s us _ hl=>by
 rw[List.append_nil]at hl ⊢
 exact .of_eq (h us hl)
def Passes(CX:CXT)(X:Cx)(E:XK):Prop:=∀(pins:List (Addr×Obj))(σ:St)(H:Hp)(s:Shared)(e:Value)(s':Shared),Inv X pins σ H s->CX X.stack H s E e s'->X.xe e s'
section
variable {X:Cx} {CX:CXT} {k:Nat} {f C:Addr} {fd:FuncData} {ps:List Str} {sp:Sp} {dvs:List V} {ds:List Value} {E:XK} {x m:Str} {p pos apos:Pos} {e o:Expr} {es:List Expr} {ta:TE} {t:TA}
theorem run_fn{pins:List (Addr×Obj)}{σ:St}{H:Hp}{s:Shared}{Q:VK}{us:List Value}{vs:List V}(F:FnOk X.prog X.w X.K X.mg X.base CX k f fd ps sp)(hr:Room k X.A)(hb:Binds X.K fd ps ds)(hd:Vals dvs ds)(hx:Passes CX X E)
  (I:Inv X pins σ H s) (r:Vals vs us) (h:sp (vs++dvs) H Q E):wpAny (model X.prog X.w) X.A (call (.ref f) us) (EP X pins σ Q) X.xe s:=by
 have r2:Vals (vs++dvs) (us++ds):=r.append hd
 have hl:(us++ds).length=ps.length:=by rw[← r2.length];exact F.len _ _ _ _ h
 refine wpAny_call (codeAny_mono (F.run X.A X.stack s H ⟨us,[]⟩ (us++ds) (vs++dvs) Q E hr I.env0 (hb s us I.kIn hl) r2 h) fun r s' hq=>?_)
 cases r with
 | error e=>exact hx pins σ H s e s' I hq
 | ok fl =>
  cases fl with
  | ret u=>exact I.after hq
  | next=>exact False.elim hq
  | brk=>exact False.elim hq
  | cont=>exact False.elim hq
theorem pe_call(F:FnOk X.prog X.w X.K X.mg X.base CX k f fd ps sp)(hr:Room k X.A)(hg:Gl X x)(hm:X.mg x=some (.ref f))(hk:PySem.W.keepIn X.K (.ref f)=true)(hb:Binds X.K fd ps ds)(hd:Vals dvs ds)(hx:Passes CX X E)
  (ha:PA X (e::es) t) (hdb:(x==("__debug__" : Str))=false:=by decide) (he:starEach (e::es) X.env=(false,eval e X.env)::starEach es X.env:=by rfl) (hpl:(backTo pos (starEach es X.env)).any (·.1)=false:=by rfl) :
  PE X (.Call (.Name x p) (e::es) [] pos) (tCall sp dvs E t):=by
 intro pins s σ H Q I h
 refine wpAny_Call_Name_kw (ld_glob I hg hm ?_ hdb)
 refine PySem.W.callWith_K (h₀:=X.base) I.ok.mod.kin hk (thn (ha pos pins s σ H _ I h) fun us s1 ⟨vs,H1,I1,r,q⟩=>⟨I1.kIn,?_⟩) he hpl
 exact run_fn F hr hb hd hx I1 r q
structure Mk(K:PySem.W.Frag)(C f:Addr):Prop where
 makes:PySem.W.makesIn K C=true
 init:PySem.W.findIn K (.ref C) "__init__" = some (some (.ref f))
 fn:PySem.W.isFn K (.ref f)=true
 kp:PySem.W.keepIn K (.ref C)=true
end
section
variable {X:Cx} {CX:CXT} {k:Nat} {f C:Addr} {fd:FuncData} {ps ks:List Str} {sp:Sp} {E:XK} {x m:Str} {p pos apos kpos:Pos} {e o:Expr} {es:List Expr} {kws:List Keyword} {te ta:TE} {t tk:TA} {nm:Option Str}
structure KBinds(K:PySem.W.Frag)(fd:FuncData)(ps ks:List Str)(g:List Value->List Value->List Value)(gV:List V->List V->List V):Prop where
 to:∀(s:Shared)(us ws:List Value),K.In s.heap->(g us ws).length=ps.length->BindsTo s fd ⟨us,ks.zip ws⟩ (ps.zip (g us ws))
 rel:∀{vs:List V}{us:List Value}{zs:List V}{ws:List Value},Vals vs us->Vals zs ws->Vals (gV vs zs) (g us ws)
variable {g:List Value->List Value->List Value} {gV:List V->List V->List V}
end
structure FnScope(N P:List Str)(sc:Scope):Prop where
 kind:sc.kind=.function
 co:sc.isCoroutine=false
 gen:sc.isGenerator=false
 nd:N.Nodup
 pre:N.take P.length=P
 par:∀x∈P,sc.names.lookup x=some .local∨sc.names.lookup x=some .cell
 nofree:∀y∈sc.names,y.2 ≠ .free
theorem bindL_out{kindOf:Str->Option NameKind}{x:Str}:∀{binds:List (Str×Value)}{m:Str->Option Value},(∀v,(x,v)∉binds)->bindL kindOf binds m x=m x
 | [],_,_=>rfl
 | (n,v)::r,m,h=>by
  unfold bindL
  rw[bindL_out fun w hw=>h w (List.mem_cons_of_mem _ hw)]
  split
  ·have:x≠n:=by rintro rfl;exact h v List.mem_cons_self
   simp[this]
  ·rfl
theorem bindC_out{kindOf:Str->Option NameKind}{x:Str}:∀{binds:List (Str×Value)}{m:Str->Option Value},(∀v,(x,v)∉binds)->bindC kindOf binds m x=m x
 | [],_,_=>rfl
 | (n,v)::r,m,h=>by
  unfold bindC
  rw[bindC_out fun w hw=>h w (List.mem_cons_of_mem _ hw)]
  split
  ·rfl
  ·have:x≠n:=by rintro rfl;exact h v List.mem_cons_self
   simp[this]
theorem bindL_get{kindOf:Str->Option NameKind}{x:Str}{v:Value}:∀{P:List Str}{vs:List Value}{i:Nat}{m:Str->Option Value},P.Nodup->P[i]?=some x->vs[i]?=some v->kindOf x=some .local →
  bindL kindOf (P.zip vs) m x=some v
 | [],_,_,_,_,h,_,_=>by simp at h
 | _::_,[],_,_,_,_,h,_=>by simp at h
 | p::P,w::vs,0,m,nd,h1,h2,hk=>by
  simp at h1 h2;subst h1;subst h2
  show bindL kindOf ((p,w)::P.zip vs) m p=_
  unfold bindL
  rw[bindL_out fun v hv=>(List.nodup_cons.mp nd).1 (List.of_mem_zip hv).1,if_pos hk]
  simp
 | p::P,w::vs,i + 1,m,nd,h1,h2,hk=>by
  show bindL kindOf ((p,w)::P.zip vs) m x=_
  unfold bindL
  exact bindL_get (i:=i) (List.nodup_cons.mp nd).2 (by simpa using h1) (by simpa using h2) hk
theorem bindC_get{kindOf:Str->Option NameKind}{x:Str}{v:Value}:∀{P:List Str}{vs:List Value}{i:Nat}{m:Str->Option Value},P.Nodup->P[i]?=some x->vs[i]?=some v->kindOf x≠some .local →
  bindC kindOf (P.zip vs) m x=some v
 | [],_,_,_,_,h,_,_=>by simp at h
 | _::_,[],_,_,_,_,h,_=>by simp at h
 | p::P,w::vs,0,m,nd,h1,h2,hk=>by
  simp at h1 h2;subst h1;subst h2
  show bindC kindOf ((p,w)::P.zip vs) m p=_
  unfold bindC
  rw[bindC_out fun v hv=>(List.nodup_cons.mp nd).1 (List.of_mem_zip hv).1,if_neg hk]
  simp
 | p::P,w::vs,i + 1,m,nd,h1,h2,hk=>by
  show bindC kindOf ((p,w)::P.zip vs) m x=_
  unfold bindC
  exact bindC_get (i:=i) (List.nodup_cons.mp nd).2 (by simpa using h1) (by simpa using h2) hk
def start(N:List Str)(vs:List V):St:=vs.map some++List.replicate (N.length - vs.length) none
def cxOf(CX:CXT)(P:Program)(w:World)(K:PySem.W.Frag)(mg:Str->Option Value)(base:Heap)(N:List Str)(qual:Str)(scope:Scope)(f:Addr)(cd:Value)(A:Around)(outer:List Env)(s:Shared)(H:Hp)(E:XK):Cx where
 prog:=P
 w:=w
 K:=K
 mg:=mg
 base:=base
 A:=A.deeper (envOfC qual scope s.heap.objs.size f cd)
 N:=N
 s₀:=s
 H₀:=H
 env:=envOfC qual scope s.heap.objs.size f cd
 outer:=outer
 stack:=envOfC qual scope s.heap.objs.size f cd::outer
 ex:=[]
 calm:=true
 fn:=fun _=>true
 pn:=[]
 xe:=fun e s'=>wpAny (model P w) (A.deeper (envOfC qual scope s.heap.objs.size f cd)) (leaving (envOfC qual scope s.heap.objs.size f cd) e) (fun _ s''=>CX outer H s E e s'') (fun e' s''=>CX outer H s E e' s'') s'
theorem cell_has{sc:Scope}{n:Nat}{x:Str}(h:sc.names.lookup x=some .cell):∃c,(cellsFrom n sc.names []).lookup x=some c:=by
 have q:=PySem.W.cellsFrom_some sc.names n [] (.inl h)
 exact Option.isSome_iff_exists.mp q
theorem inv_start{CX:CXT}{P:Program}{w:World}{K:PySem.W.Frag}{mg:Str->Option Value}{base:Heap}{N ps:List Str}{qual:Str}{scope:Scope}{f:Addr}{cd:Value}{A:Around}{outer:List Env}{s s1:Shared}{H:Hp}{E:XK}{us:List Value}{vs:List V}
  (S:FnScope N ps scope) (hd:A.handled=none) (e0:Env0 P w K mg base A outer s H) (hl:vs.length=ps.length) (r:Vals vs us)
  (x:InCallC s s.heap.objs.size (bindL (envOfC qual scope s.heap.objs.size f cd).kindOf (ps.zip us) fun _=>none) (cellsFrom (s.heap.objs.size + 1) scope.names []) (bindC (envOfC qual scope s.heap.objs.size f cd).kindOf (ps.zip us) fun _=>none) s1) :
  Inv (cxOf CX P w K mg base N qual scope f cd A outer s H E) [] (start N vs) H s1:=by
 have hpl:ps.length<=N.length:=by have:=congrArg List.length S.pre;rw[List.length_take]at this;omega
 obtain⟨h1,tk,rfl,hk⟩:=x.done
 have noA:∀b:Addr,b∉(cxOf CX P w K mg base N qual scope f cd A outer s H E).ex:=fun b z=>absurd (show b∈([]:List Addr) from z) (by simp)
 refine⟨⟨e0.mod,S.kind,rfl,rfl,Nat.le_refl _,fun y z c h1 h2=>?_,fun y hy=>?_,fun y c _ h=>?_,fun _=>hd,Around.frames_deeper e0.frames,.inr ⟨rfl,rfl⟩,fun b z=>absurd z (noA b),e0.bs,e0.bsz,fun b _ _=>noA b,fun b z=>absurd z (noA b),e0.funs,e0.frf⟩,
  rfl,e0.bare,Un.kept hk,⟨_,x.toInCall.ns,fun i y v h1 h2 h3=>?_⟩,fun y c h=>⟨_,x.cell y c h⟩,e0.hok.fresh (Nat.le_refl _),fun y c h=>?_,fun p hp=>absurd (show p∈([]:List (Addr×Obj)) from hp) (by simp),e0.hok.kept hk,?_⟩
 ·exact name_of_addr x.apart (PySem.mem_of_lookup h1) (PySem.mem_of_lookup h2)
 ·have hy:scope.names.lookup y=some .cell∨scope.names.lookup y=some .free:=hy
  rcases hy with hy|hy
  ·exact cell_has hy
  ·exact absurd rfl (S.nofree _ (PySem.mem_of_lookup hy))
 ·exact Nat.le_of_lt (x.above y c (PySem.mem_of_lookup h))
 ·have hi:i < vs.length:=by
   unfold start at h2
   by_cases hi:i < vs.length
   ·exact hi
   ·rw[List.getElem?_append_right (by simpa using hi)]at h2
    rw[List.getElem?_replicate]at h2
    split at h2<;>cases h2
  have ha:vs[i]?=some v:=by
   unfold start at h2
   rw[List.getElem?_append_left (by simpa using hi),List.getElem?_map]at h2
   cases e:vs[i]? with
   | none=>rw[e]at h2;cases h2
   | some a=>rw[e]at h2;cases h2;rfl
  obtain⟨u,hu,rv⟩:=r.get ha
  have hp:ps[i]?=some y:=by
   rw[← S.pre,List.getElem?_take_of_lt (by omega)];exact h1
  have ndP:ps.Nodup:=by rw[← S.pre];exact S.nd.sublist (List.take_sublist _ _)
  refine⟨u,rv,?_⟩
  rcases S.par y (List.mem_of_getElem? hp) with k|k
  ·exact .inl ⟨k,bindL_get ndP hp hu k⟩
  ·obtain⟨c,e⟩:=cell_has (n:=s.heap.objs.size + 1) k
   refine .inr ⟨.inl k,c,e,?_⟩
   have q:=x.cell y c e
   rw[bindC_get ndP hp hu (by show scope.names.lookup y≠_;rw[k];decide)]at q
   exact q
 ·exact e0.hok.fresh (Nat.le_of_lt (x.above y c (PySem.mem_of_lookup h)))
 ·unfold start
  show _=N.length
  rw[List.length_append,List.length_map,List.length_replicate]
  omega
theorem fn_of{CX:CXT}{P:Program}{w:World}{K:PySem.W.Frag}{mg:Str->Option Value}{base:Heap}{k:Nat}{f:Addr}{name qual:Str}{params:Arguments}{body:List Stmt}{scope:Scope}{dV kV doc pm cdv ct oc:Value}{an od:Option Addr}
  {osl:Array (Option Value)} {N ps:List Str} {sp:Sp} (lk:K.lookup f=some ⟨oc,od,.func (PySem.W.fnOf name qual params body scope dV kV doc pm an cdv ct),osl⟩) (hcd:PySem.W.codeIn K cdv qual=true) (S:FnScope N ps scope)
  (len:∀vs H Q E,sp vs H Q E->vs.length=ps.length)
  (hbody:∀(A:Around)(outer:List Env)(s:Shared)(H:Hp)(vs:List V)(Q:VK)(E:XK),Room k (A.deeper (envOfC qual scope s.heap.objs.size f cdv))->sp vs H Q E →
   ∃t,PSs (cxOf CX P w K mg base N qual scope f cdv A outer s H E) body t/\t {nx:=fun _ H'=>Q .non H',rt:=Q} (start N vs) H) :
  FnOk P w K mg base CX (k + 1) f (PySem.W.fnOf name qual params body scope dV kV doc pm an cdv ct) ps sp:=by
 refine⟨len,fun A outer s H args us vs Q E hr e0 hb r hsp=>?_⟩
 have hl:=len _ _ _ _ hsp
 have KX:K.In s.heap:=e0.mod.kin.keeps fun b o e=>(e0.bs b o e).1
 have lim:s.heap.NoLimit:=e0.mod.nolimit.keeps fun b o e=>(e0.bs b o e).1
 have hkind:∀y∈ps.zip us,scope.names.lookup y.1=some .local∨(scope.names.lookup y.1=some .cell/\((cellsFrom (s.heap.objs.size + 1) scope.names []).lookup y.1).isSome=true):=fun ⟨n,v⟩ hy=>by
  rcases S.par n (List.of_mem_zip hy).1 with q|q
  ·exact .inl q
  ·exact .inr ⟨q,PySem.W.cellsFrom_some _ _ _ (.inl q)⟩
 refine codeAny_call_function hr.depth (KX _ _ lk) rfl S.co S.gen rfl (PySem.W.codeRec_of KX hcd) (hb _ _ _ _ ?_)
 refine wpAny_newFunctionEnv_cells S.kind hkind fun env he s1 x=>?_
 subst he
 refine⟨lim.keeps x.toInCall.keep,codeAny_func ?_⟩
 obtain⟨t,ht,hq⟩:=hbody A outer s H vs Q E (hr.deeper _) hsp
 have I:Inv (cxOf CX P w K mg base N qual scope f cdv A outer s H E) [] (start N vs) H s1:=inv_start S hr.hd e0 hl r x
 refine wpAny_mono (ht [] s1 (start N vs) H _ I hq) (fun fl s' hs=>?_) fun e s' hs=>hs
 have fin:∀{σ':St}{H':Hp}{v:V}{u:Value},Inv (cxOf CX P w K mg base N qual scope f cdv A outer s H E) [] σ' H' s'->RelV v u->Q v H'->CE outer P w H s Q u s' :=
  fun {σ' H' v u} J rv q=>⟨v,H',J.os,J.bare,J.base,J.hok,rv,q⟩
 cases fl with
 | ret u =>
  obtain⟨v,σ',H',J,rv,q⟩:=hs
  exact fin J rv q
 | next =>
  obtain⟨σ',H',J,q⟩:=hs
  exact fin (v:=V.non) (u:=Value.none) J rfl q
 | brk =>
  obtain⟨_,_,_,q⟩:=hs
  exact False.elim q
 | cont =>
  obtain⟨_,_,_,q⟩:=hs
  exact False.elim q
end L2
namespace L2
open PySem PySem.Spec PyProof.Rows
section
variable {X:Cx} {x:Str} {p pos:Pos} {e:Expr} {es:List Expr} {t:TA} {id T:String} {r:List V->Hp->VK->Prop}
def tCB(r:List V->Hp->VK->Prop)(t:TA):TE:=fun σ H Q=>t σ H fun vs H1=>r vs H1 Q
theorem pe_callB(hc:CallR X (.builtin id) r)(hg:Gl X x)(hm:X.mg x=none)(hv:bootBuiltins x=some (.builtin id))(ha:PA X (e::es) t) (hn:x ≠ "__name__" := by decide) (hdb:(x==("__debug__" : Str))=false:=by decide)
  (he:starEach (e::es) X.env=(false,eval e X.env)::starEach es X.env:=by rfl) (hpl:(backTo pos (starEach es X.env)).any (·.1)=false:=by rfl):PE X (.Call (.Name x p) (e::es) [] pos) (tCB r t):=by
 intro pins s σ H Q I h
 refine wpAny_Call_Name_kw (ld_blt I hg hm hv ?_ hn hdb)
 exact PyProof.Rows.callWith_builtin1 (thn (ha pos pins s σ H _ I h) fun us s1 ⟨vs,H1,I1,r1,q1⟩=>hc pins s1 σ H1 vs us Q I1 r1 q1) he hpl
theorem pe_callTy(hc:CallR X (.type T) r)(hg:Gl X x)(hm:X.mg x=none)(hv:bootBuiltins x=some (.type T))(ha:PA X (e::es) t) (hn:x ≠ "__name__" := by decide) (hdb:(x==("__debug__" : Str))=false:=by decide)
  (he:starEach (e::es) X.env=(false,eval e X.env)::starEach es X.env:=by rfl) (hpl:(backTo pos (starEach es X.env)).any (·.1)=false:=by rfl):PE X (.Call (.Name x p) (e::es) [] pos) (tCB r t):=by
 intro pins s σ H Q I h
 refine wpAny_Call_Name_kw (ld_blt I hg hm hv ?_ hn hdb)
 exact PyProof.Rows.callWith_type1 (thn (ha pos pins s σ H _ I h) fun us s1 ⟨vs,H1,I1,r1,q1⟩=>hc pins s1 σ H1 vs us Q I1 r1 q1) he hpl
end
end L2
namespace HT
open PySem PyProof.Rows
section
open PySem.SeqAt
open PySem.AutoSeq1 (wpAny_loadPart')
open PySem.MeetsSeq PySem.MeetsSeq2 PySem.MeetsSeq3
end
section
variable {prog:Program} {w:World} {A:Around} {E:Value->Shared->Prop} {s:Shared}
theorem cat_tup{t b:Addr}{vs ws:List Value}{Q:Value->Shared->Prop}(ht:IsTup s.heap t vs.toArray)(hb:IsTup s.heap b ws.toArray)(hv:vs≠[])
  (h1:ws=[]->Q (.ref t) s) (h2:ws≠[]->Q (.ref s.heap.objs.size) {s with heap:=s.heap.push {cls:=.type "tuple", data:=.seq (vs++ws).toArray} })
  (hsz:vs.length + ws.length<=sizeLine):wpAny (model prog w) A (binaryOp .Add (.ref t) (.ref b)) Q E s:=by
 obtain⟨⟨cls,dd,data,sl⟩,ho,hc,n,hd⟩:=id ht
 obtain⟨⟨cls2,dd2,data2,sl2⟩,ho2,hc2,n2,hd2⟩:=id hb
 simp only at hc hd hc2 hd2
 subst hc hd hc2 hd2
 have e:vs.toArray++ws.toArray=(vs++ws).toArray:=by simp
 by_cases hw:ws=[]
 ·exact concat_meets ⟨_,ho,rfl⟩ ⟨_,ho2,rfl⟩ noFill_tuple_add seq_tuple_add PySem.F.slot_tuple_add PySem.F.entry_tuple_add (PySem.F.args_tuple_add_2 _ _)
   (tuple_addW1 t b vs.toArray ws.toArray n n2 dd dd2 sl sl2 (by simpa using hv) (by simp[hw])) ⟨ho,ho2,h1 hw⟩
 ·refine concat_meets ⟨_,ho,rfl⟩ ⟨_,ho2,rfl⟩ noFill_tuple_add seq_tuple_add PySem.F.slot_tuple_add PySem.F.entry_tuple_add (PySem.F.args_tuple_add_2 _ _)
   (tuple_addW2 t b vs.toArray ws.toArray n n2 dd dd2 sl sl2 (by simpa using hv) (by simpa using hw) (by rw[List.size_toArray,List.size_toArray];exact hsz)) ⟨ho,ho2,?_⟩
  rw[e]
  exact h2 hw
def sIx(n d:Nat):Option Int->Nat
 | none=>d
 | some v=>if v < 0 then (v + (n:Int)).toNat else min v.toNat n
theorem sIx_none(n d:Nat):sIx n d none=d:=rfl
theorem sIx_nat(n d k:Nat):sIx n d (some (k:Int))=min k n:=by
 show (if (k:Int) < 0 then ((k:Int) + (n:Int)).toNat else min (k:Int).toNat n)=min k n
 rw[if_neg (by omega),Int.toNat_natCast]
theorem sIx_le(n d:Nat)(hd:d<=n)(o:Option Int):sIx n d o<=n:=by
 cases o with
 | none=>exact hd
 | some v =>
  show (if v < 0 then (v + (n:Int)).toNat else min v.toNat n)<=n
  by_cases hv:v < 0
  ·rw[if_pos hv];omega
  ·rw[if_neg hv];exact Nat.min_le_right _ _
theorem clip_eq(v:Int)(n d:Nat):(if v < 0 then max (v + (n:Int)) 0 else min v (n:Int))=((sIx n d (some v):Nat):Int):=by
 show (if v < 0 then max (v + (n:Int)) 0 else min v (n:Int))=(((if v < 0 then (v + (n:Int)).toNat else min v.toNat n):Nat):Int)
 by_cases hv:v < 0
 ·simp only[if_pos hv];omega
 ·simp only[if_neg hv];omega
theorem adjust_gen(lo hi:Option Int)(n:Nat):Builtin.Slice.sliceAdjust lo hi 1 (n:Int)=(((sIx n 0 lo:Nat):Int),((sIx n n hi:Nat):Int)):=by
 have h1:¬ ((1:Int) < 0):=by omega
 unfold Builtin.Slice.sliceAdjust
 simp only[h1,if_false]
 refine Prod.ext ?_ ?_
 ·cases lo with
  | none=>rfl
  | some v=>exact clip_eq v n 0
 ·cases hi with
  | none=>rfl
  | some v=>exact clip_eq v n n
theorem places_gen(i j:Nat):Builtin.Slice.slicePlaces (i:Int) (j:Int) 1=j - i:=by
 unfold Builtin.Slice.slicePlaces
 have h1:(1:Int) > 0:=by omega
 simp only[h1,if_true,Int.ediv_one]
 split<;>omega
theorem slicePart_{v:Value}{o:Option Int}{Q:Option Int->Shared->Prop}(p:IsPart v o)(h:Q o s):wpAny (model prog w) A (Builtin.Slice.slicePartIndex v) Q E s:=by
 cases p with
 | none=>exact slicePart_none h
 | int i t=>exact slicePart_int h
theorem sliceApplied_gen{sl:Addr}{vl vu:Value}{lo hi:Option Int}{n:Nat}{Q:Int×Int×Nat->Shared->Prop}(hs:s.heap.IsSliceOf sl vl vu .none)(pl:IsPart vl lo)(pu:IsPart vu hi)
  (h:Q (((sIx n 0 lo:Nat):Int),1,sIx n n hi - sIx n 0 lo) s):wpAny (model prog w) A (Builtin.Slice.sliceApplied (.ref sl) (pure (n:Int))) Q E s:=by
 obtain⟨os,hos,hcs,hds⟩:=id hs
 unfold Builtin.Slice.sliceApplied Builtin.Slice.sliceFields
 refine wpAny_bind (wpAny_bind (wpAny_field hos hds (x:=vl) rfl (wpAny_bind (wpAny_field hos hds (x:=vu) rfl (wpAny_bind (wpAny_field hos hds (x:=.none) rfl (wpAny_pure ?_)))))))
 refine wpAny_bind (slicePart_none ?_)
 show wpAny _ _ (if ((1:Int)==0)=true then _ else _) _ _ s
 rw[if_neg (by decide)]
 refine wpAny_bind (slicePart_ pl (wpAny_bind (slicePart_ pu (wpAny_bind (wpAny_pure ?_)))))
 show wpAny _ _ (match Builtin.Slice.sliceAdjust lo hi 1 (n:Int) with|(lo,hi)=>pure (lo,(1:Int),Builtin.Slice.slicePlaces lo hi 1)) _ _ s
 rw[adjust_gen lo hi n]
 show wpAny _ _ (pure (((sIx n 0 lo:Nat):Int),(1:Int),Builtin.Slice.slicePlaces ((sIx n 0 lo:Nat):Int) ((sIx n n hi:Nat):Int) 1)) _ _ s
 rw[places_gen]
 exact wpAny_pure h
theorem pick_gen(xs:Array Value)(i k:Nat):((List.range k).filterMap fun (m:Nat)=>xs[((i:Int) + (m:Int) * 1).toNat]?).toArray=((xs.toList.drop i).take k).toArray:=by
 have e:(fun (m:Nat)=>xs[((i:Int) + (m:Int) * 1).toNat]?)=fun m=>xs[i + m]?:=by
  funext m
  have:((i:Int) + (m:Int) * 1).toNat=i + m:=by omega
  rw[this]
 rw[e]
 have:=pick_run xs i k
 rw[List.filterMap_map]at this
 have e2:((fun x=>xs[x]?) ∘ fun x=>i + x)=fun m=>xs[i + m]?:=rfl
 rw[e2]at this
 rw[this]
theorem getItem_tuple_cut{t sl:Addr}{items:Array Value}{vl vu:Value}{lo hi:Option Int}{Q:Value->Shared->Prop}(ht:IsTup s.heap t items)(hs:s.heap.IsSliceOf sl vl vu .none)(pl:IsPart vl lo)(pu:IsPart vu hi)
  (hw:¬ (sIx items.size 0 lo=0/\sIx items.size items.size hi=items.size))
  (h:Q (.ref s.heap.objs.size) {s with heap:=s.heap.push {cls:=.type "tuple", data:=.seq ((items.toList.drop (sIx items.size 0 lo)).take (sIx items.size items.size hi - sIx items.size 0 lo)).toArray} })
  (hsz:items.size<=sizeLine):wpAny (model prog w) A (getItem (.ref t) (.ref sl)) Q E s:=by
 have htake:sizeOk (.seq ((items.toList.drop (sIx items.size 0 lo)).take (sIx items.size items.size hi - sIx items.size 0 lo)).toArray):=by
  show ((items.toList.drop (sIx items.size 0 lo)).take (sIx items.size items.size hi - sIx items.size 0 lo)).toArray.size<=sizeLine
  rw[List.size_toArray,List.length_take,List.length_drop,Array.length_toList]
  omega
 have hj:sIx items.size items.size hi<=items.size:=sIx_le _ _ (Nat.le_refl _) hi
 obtain⟨os,hos,hcs,hds⟩:=id hs
 have hTs:s.TypeIs (.ref sl) "slice" := ⟨os,hos,hcs⟩
 unfold getItem
 try with_reducible refine wpAny_holding ?_
 first|refine wpAny_bind (wpAny_pure ?_)|skip
 refine wpAny_bind (wpAny_sequenceKey ht.typeIs (by decide) ?_)
 refine wpAny_bind (wpAny_callSpecial?_slot (name:=Str.ofString "__getitem__") ht.typeIs PyProof.Rows.slot_tuple_getitem
  (wpAny_call_entry PyProof.Rows.slot_tuple_getitem ht.typeIs entry_tuple_getitem ?_ (args_tuple_getitem _ _)))
 show wpAny _ _ (Builtin.Tuple.tupleItemsOf (.ref t) >>= _) _ _ s
 refine wpAny_bind (tupleItemsOf_ ht ?_)
 refine wpAny_bind (wpAny_typeOf hTs ?_)
 rw[if_pos (by decide)]
 refine wpAny_bind (sliceApplied_gen hs pl pu ?_)
 have hno:¬ ((((sIx items.size 0 lo:Nat):Int)==0&&(1:Int)==1&&(sIx items.size items.size hi - sIx items.size 0 lo)==items.size)=true):=by
  intro q
  rw[Bool.and_eq_true,Bool.and_eq_true]at q
  have q1:((sIx items.size 0 lo:Nat):Int)=0:=eq_of_beq q.1.1
  have q2:sIx items.size items.size hi - sIx items.size 0 lo=items.size:=eq_of_beq q.2
  exact hw ⟨by omega,by omega⟩
 show wpAny _ _ (if (((sIx items.size 0 lo:Nat):Int)==0&&(1:Int)==1&&(sIx items.size items.size hi - sIx items.size 0 lo)==items.size)=true then _ else _) _ _ s
 rw[if_neg hno,pick_gen]
 first
  | exact wpAny_bind (m:=Builtin.Tuple.tupleExact _) (wpAny_newObj_type (wpAny_pure ⟨_,rfl,wpAny_pure h⟩) htake)
  | exact wpAny_bind (m:=Builtin.Tuple.tupleExact _) (wpAny_newObj_type (wpAny_bind (wpAny_pure (wpAny_pure ⟨_,rfl,wpAny_pure h⟩))) htake)
  | exact wpAny_bind (wpAny_bind (m:=Builtin.Tuple.tupleExact _) (wpAny_newObj_type (wpAny_pure (wpAny_pure ⟨_,rfl,wpAny_pure h⟩)) htake))
  | exact wpAny_bind (wpAny_bind (m:=Builtin.Tuple.tupleExact _) (wpAny_newObj_type (wpAny_pure ⟨_,rfl,wpAny_pure h⟩) htake))
end
end HT
namespace L2
open PySem PySem.Spec PyProof.Rows
abbrev TO:=St->Hp->(Option Int->Hp->Prop)->Prop
def PO(X:Cx)(e:Option Expr)(t:TO):Prop :=
 ∀(pins:List (Addr×Obj))(s:Shared)(σ:St)(H:Hp)(Q:Option Int->Hp->Prop),Inv X pins σ H s->t σ H Q →
  wpAny (model X.prog X.w) X.A (evalPart e X.env) (fun u s'=>∃o H',Inv X pins σ H' s'/\IsPart u o/\Q o H') X.xe s
def tNoPart:TO:=fun _ H Q=>Q none H
def tPart(t:TE):TO:=fun σ H Q=>t σ H fun x H1=>∃i,x=.int i/\Q (some i) H1
theorem intsAre_of{ns:List Int}:∀{us:List Value},Vals (ns.map V.int) us->IntsAre us ns:=by
 induction ns with
 | nil=>intro us r;rw[List.map_nil]at r;cases r;exact .nil
 | cons n ns ih =>
  intro us r
  rw[List.map_cons]at r
  cases r with
  | cons r1 r2 =>
   obtain⟨t,e⟩:=r1
   subst e
   exact .cons n t (ih r2)
section
variable {X:Cx} {e:Expr} {te:TE} {lo hi:Option Expr} {tl th:TO} {pos p2:Pos}
theorem po_none:PO X none tNoPart:=by
 intro pins s σ H Q I h
 rw[evalPart_none]
 exact wpAny_pure ⟨none,H,I,.none,h⟩
theorem po_some(h:PE X e te):PO X (some e) (tPart te):=by
 intro pins s σ H Q I hw
 rw[evalPart_some]
 refine thn (h pins s σ H _ I hw) fun u s1 ⟨x,H1,I1,r1,q1⟩=>?_
 obtain⟨i,rfl,q⟩:=q1
 obtain⟨t,rfl⟩:=r1
 exact⟨some i,H1,I1,.int i t,q⟩
def SlR(X:Cx)(r:V->Option Int->Option Int->Hp->VK->Prop):Prop :=
 ∀(pins:List (Addr×Obj))(s:Shared)(σ:St)(H:Hp)(x:V)(v vl vu:Value)(lo hi:Option Int)(sl:Addr)(Q:VK),Inv X pins σ H s->RelV x v->s.heap.IsSliceOf sl vl vu .none->IsPart vl lo->IsPart vu hi->r x lo hi H Q →
  ∃T id,typeLookup (.type T) "__getitem__" = pure (some (.builtin id))/\s.TypeIs v T/\wpAny (model X.prog X.w) X.A (getItem v (.ref sl)) (EP X pins σ Q) X.xe s
theorem SlR.or{r r':V->Option Int->Option Int->Hp->VK->Prop}(h:SlR X r)(h':SlR X r'):SlR X (fun x lo hi H Q=>r x lo hi H Q∨r' x lo hi H Q):=by
 intro pins s σ H x v vl vu lo hi sl Q I rx hs pl pu q
 rcases q with q|q
 ·exact h pins s σ H x v vl vu lo hi sl Q I rx hs pl pu q
 ·exact h' pins s σ H x v vl vu lo hi sl Q I rx hs pl pu q
def tSl(r:V->Option Int->Option Int->Hp->VK->Prop)(te:TE)(tl th:TO):TE:=fun σ H Q=>te σ H fun x H1=>tl σ H1 fun l H2=>th σ H2 fun u H3=>r x l u H3 Q
theorem pe_slice{r:V->Option Int->Option Int->Hp->VK->Prop}(hr:SlR X r)(he:PE X e te)(hl:PO X lo tl)(hu:PO X hi th):PE X (.Subscript e (.Slice lo hi none p2) pos) (tSl r te tl th):=by
 intro pins s σ H Q I h
 refine Subscript_ (thn (he pins s σ H _ I h) fun v s1 ⟨x,H1,I1,r1,q1⟩=>?_)
 refine wpAny_Slice (thn (hl pins s1 σ H1 _ I1 q1) fun vl s2 ⟨l,H2,I2,pl,q2⟩=>thn (hu pins s2 σ H2 _ I2 q2) fun vu s3 ⟨u,H3,I3,pu,q3⟩=>?_)
 rw[evalPart_none]
 refine wpAny_pure ?_
 have I4:Inv X pins σ H3 {s3 with heap:=s3.heap.push {cls:=.type "slice", data:=.fields #[vl,vu,.none]} }:=I3.kept (t':=s3.toks) fun b ob q=>Heap.get?_push_of_some _ q
 obtain⟨T,id,hT,ht,hg⟩:=hr pins {s3 with heap:=s3.heap.push {cls:=.type "slice", data:=.fields #[vl,vu,.none]} } σ H3 x v vl vu l u s3.heap.objs.size Q I4 r1 (Heap.IsSliceOf.new ..) pl pu q3
 show wpAny (model X.prog X.w) X.A (subscriptTail e (.Slice lo hi none p2) v (.ref s3.heap.objs.size)) (EP X pins σ Q) X.xe {s3 with heap:=s3.heap.push {cls:=.type "slice", data:=.fields #[vl,vu,.none]} }
 exact tail_any (ops:=[.ref s3.heap.objs.size,v]) ht hT hg (by with_unfolding_all rfl)
def cutV(xs:List V)(lo hi:Option Int):List V:=(xs.drop (HT.sIx xs.length 0 lo)).take (HT.sIx xs.length xs.length hi - HT.sIx xs.length 0 lo)
theorem cutV_length(xs:List V)(lo hi:Option Int):(cutV xs lo hi).length<=xs.length:=by
 unfold cutV
 rw[List.length_take,List.length_drop]
 omega
def rSlT(K:PySem.W.Frag):V->Option Int->Option Int->Hp->VK->Prop:=fun x lo hi H Q=>∃a xs,x=.ref a/\SqT K H a xs ∧
 ¬ (HT.sIx xs.length 0 lo=0/\HT.sIx xs.length xs.length hi=xs.length)/\∀p,H p=none->Q (.ref p) (upd H p (.tup (cutV xs lo hi)))
theorem sl_tup:SlR X (rSlT X.K):=by
 intro pins s σ H x v vl vu lo hi sl Q I rx hs pl pu h
 obtain⟨a,xs,rfl,hx,hw,q⟩:=h
 cases rx
 obtain⟨its,r,ht,hz⟩:=I.tuple hx
 have hlen:its.toArray.size=xs.length:=by rw[List.size_toArray];exact r.length.symm
 refine⟨"tuple", _,PyProof.Rows.slot_tuple_getitem.lookup,ht.typeIs,?_⟩
 refine HT.getItem_tuple_cut ht hs pl pu (by rw[hlen];exact hw) ?_ (by rw[hlen];exact hz)
 rw[hlen]
 refine⟨.ref s.heap.objs.size,_,I.laid (t':=s.toks) (o:=.tup (cutV xs lo hi)) (fun b ob q=>Heap.get?_push_of_some _ q) (Nat.le_refl _) ?_,rfl,q _ (I.hok.fresh (Nat.le_refl _))⟩
 exact⟨Nat.le_trans (cutV_length xs lo hi) hz,_,(r.drop (HT.sIx xs.length 0 lo)).take (HT.sIx xs.length xs.length hi - HT.sIx xs.length 0 lo),IsTup.new _ _⟩
theorem Vals.nil_iff{xs:List V}{us:List Value}(r:Vals xs us):us=[] ↔ xs=[]:=by
 cases r with
 | nil=>simp
 | cons _ _=>simp
end
end L2
namespace L2
open PySem PySem.Spec PyProof.Rows
def ixN(n:Nat)(i:Int):Option Nat:=if 0<=i then (if i < n then some i.toNat else none) else if -(n:Int)<=i then some (i + n).toNat else none
def atI{α:Type}(xs:List α)(i:Int):Option α:=(ixN xs.length i).bind fun j=>xs[j]?
theorem ixN_seq{n:Nat}{i:Int}{j:Nat}(h:ixN n i=some j):seqIndex? i n=some j/\j < n /\ -(n:Int)<=i/\i < n:=by
 unfold ixN at h
 by_cases h0:0<=i
 ·rw[if_pos h0]at h
  by_cases h1:i < n
  ·rw[if_pos h1]at h
   have e:i.toNat=j:=Option.some.inj h
   exact⟨by rw[seqIndex_of h0 h1,e],by omega,by omega,h1⟩
  ·rw[if_neg h1]at h;cases h
 ·rw[if_neg h0]at h
  by_cases h1:-(n:Int)<=i
  ·rw[if_pos h1]at h
   have e:(i + n).toNat=j:=Option.some.inj h
   exact⟨by rw[seqIndex_neg (by omega) h1,e],by omega,h1,by omega⟩
  ·rw[if_neg h1]at h;cases h
theorem atI_get{α:Type}{xs:List α}{i:Int}{v:α}(h:atI xs i=some v):∃j,seqIndex? i xs.length=some j/\xs[j]?=some v/\j < xs.length /\ -(xs.length:Int)<=i/\i < xs.length:=by
 unfold atI at h
 cases e:ixN xs.length i with
 | none=>rw[e]at h;cases h
 | some j =>
  rw[e]at h
  obtain⟨h1,h2,h3,h4⟩:=ixN_seq e
  exact⟨j,h1,h,h2,h3,h4⟩
def PlainIx(b:Expr):Prop:=∀o i,subscripted b false o i=operate [o,i] (getItem o i)
def IxR(X:Cx)(r:R2):Prop :=
 ∀(value slice:Expr)(pins:List (Addr×Obj))(s:Shared)(σ:St)(H:Hp)(x y:V)(v u:Value)(Q:VK),Inv X pins σ H s->RelV x v->RelV y u->r x y H Q →
  subscripted slice false v u=operate [v,u] (getItem v u)->wpAny (model X.prog X.w) X.A (subscriptTail value slice v u) (EP X pins σ Q) X.xe s
def MtR(X:Cx)(id:String)(r:V->List V->Hp->VK->Prop):Prop :=
 ∀(pins:List (Addr×Obj))(s:Shared)(σ:St)(H:Hp)(x:V)(xs:List V)(v:Value)(us:List Value)(Q:VK),Inv X pins σ H s->RelV x v->Vals xs us->r x xs H Q →
  wpAny (model X.prog X.w) X.A (call (.builtin id) (v::us)) (EP X pins σ Q) X.xe s
section
variable {X:Cx} {a b:Expr} {ta tb:TE} {pos:Pos}
theorem IxR.or{r r':R2}(h:IxR X r)(h':IxR X r'):IxR X (fun x y H Q=>r x y H Q∨r' x y H Q):=by
 intro value slice pins s σ H x y v u Q I rx ry q hs
 rcases q with q|q
 ·exact h value slice pins s σ H x y v u Q I rx ry q hs
 ·exact h' value slice pins s σ H x y v u Q I rx ry q hs
theorem MtR.or{id:String}{r r':V->List V->Hp->VK->Prop}(h:MtR X id r)(h':MtR X id r'):MtR X id (fun x xs H Q=>r x xs H Q∨r' x xs H Q):=by
 intro pins s σ H x xs v us Q I rx rs q
 rcases q with q|q
 ·exact h pins s σ H x xs v us Q I rx rs q
 ·exact h' pins s σ H x xs v us Q I rx rs q
theorem pe_ix{r:R2}(hr:IxR X r)(ha:PE X a ta)(hb:PE X b tb)(hs:PlainIx b):PE X (.Subscript a b pos) (tOp r ta tb):=by
 intro pins s σ H Q I h
 exact Subscript_ (binT ha hb I h fun v u s2 x y H2 I2 rx ry q=>hr a b pins s2 σ H2 x y v u Q I2 rx ry q (hs _ _))
def rIxL(K:PySem.W.Frag):R2:=fun x y H Q=>∃p xs i v,x=.ref p/\y=.int i/\SqL K H p xs/\atI xs i=some v/\Q v H
def rIxT(K:PySem.W.Frag):R2:=fun x y H Q=>∃p xs i v,x=.ref p/\y=.int i/\SqT K H p xs/\atI xs i=some v/\Q v H
def rIxS:R2:=fun x y H Q=>∃z i c,x=.str z/\y=.int i/\z.length<=sizeLine/\atI z.cps.toList i=some c/\Q (.str ⟨#[c]⟩) H
theorem ix_list:IxR X (rIxL X.K):=by
 intro value slice pins s σ H x y v u Q I rx ry h hs
 obtain⟨p,xs,i,z,rfl,rfl,hq,he,q⟩:=h
 cases rx
 obtain⟨t,rfl⟩:=ry
 obtain⟨its,r,pl,hz⟩:=I.list hq
 obtain⟨j,h1,h2,h3,h4,h5⟩:=atI_get he
 obtain⟨w,ew,rw'⟩:=r.get h2
 have hl:=r.length
 have hn:=line63
 have fin:EP X pins σ Q w s:=⟨z,H,I,rw',q⟩
 by_cases h0:0<=i
 ·have hj:i.toNat=j:=by
   rw[seqIndex_of h0 h5]at h1
   exact Option.some.inj h1
  exact item_listR pl.isList h0 (by omega) (by rw[hj];simpa using ew) fin hs
 ·have hj:(i + (its.toArray.size:Int)).toNat=j:=by
   rw[seqIndex_neg (by omega) h4]at h1
   rw[List.size_toArray,← hl]
   exact Option.some.inj h1
  exact subscriptTail_builtinR (x:=w) pl.isList.typeIs slot_list_getitem.lookup
   (wpAny_getItem_list_neg (Q:=fun r s'=>r=w/\EP X pins σ Q r s') pl.isList (by omega) (by rw[List.size_toArray]<;>omega) (by omega) (by rw[hj];simpa using ew) ⟨rfl,fin⟩) hs
theorem ix_tup:IxR X (rIxT X.K):=by
 intro value slice pins s σ H x y v u Q I rx ry h hs
 obtain⟨p,xs,i,z,rfl,rfl,hq,he,q⟩:=h
 cases rx
 obtain⟨t,rfl⟩:=ry
 obtain⟨its,r,pl,hz⟩:=I.tuple hq
 obtain⟨j,h1,h2,h3,h4,h5⟩:=atI_get he
 obtain⟨w,ew,rw'⟩:=r.get h2
 have hl:=r.length
 have hn:=line63
 have fin:EP X pins σ Q w s:=⟨z,H,I,rw',q⟩
 exact subscriptTail_builtinR (x:=w) pl.typeIs slot_tuple_getitem.lookup
  (getItem_tuple (j:=j) (Q:=fun r s'=>r=w/\EP X pins σ Q r s') pl (by omega) (by omega) (by rw[List.size_toArray,← hl];exact h1) (by simpa using ew) ⟨rfl,fin⟩) hs
theorem ix_str:IxR X rIxS:=by
 intro value slice pins s σ H x y v u Q I rx ry h hs
 obtain⟨z,i,c,rfl,rfl,hz,he,q⟩:=h
 obtain⟨t,rfl⟩:=rx
 obtain⟨t',rfl⟩:=ry
 obtain⟨j,h1,h2,h3,h4,h5⟩:=atI_get he
 have hl:z.cps.toList.length=z.length:=by simp[Str.length]
 rw[hl]at h1 h4 h5
 have hn:=line63
 exact tail_any (typeIs_str s z t) slot_str_getitem.lookup (getItem_str (c:=c) (by
  have e1:decide (i < -(2 ^ 63:Int))=false:=decide_eq_false (by omega)
  have e2:decide (i ≥ 2 ^ 63)=false:=decide_eq_false (by omega)
  rw[e1,e2,Bool.or_false]) (by rw[h1];simpa using h2) ⟨.str ⟨#[c]⟩,H,I.tok _,⟨_,rfl⟩,q⟩) hs
def rIx(K:PySem.W.Frag):R2:=fun x y H Q=>rIxL K x y H Q∨rIxT K x y H Q∨rIxS x y H Q
theorem ix_seq:IxR X (rIx X.K):=ix_list.or (ix_tup.or ix_str)
theorem Inv.lst{pins:List (Addr×Obj)}{σ:St}{H:Hp}{s:Shared}{p:Addr}{xs:List V}(I:Inv X pins σ H s)(h:H p=some (.lst xs)) :
  ∃(its:List Value) (n:Nat),Vals xs its/\s.heap.get? p=some {cls:=.type "list", data:=.seq its.toArray n}/\xs.length<=sizeLine:=by
 obtain⟨z,its,n,r,e⟩:=I.hok p _ h
 exact⟨its,n,r,e,z⟩
theorem slice_bounds(lo hi:Option Int)(n:Nat):(sliceBounds lo hi none n).1=((HT.sIx n 0 lo:Nat):Int)/\(sliceBounds lo hi none n).2.1=((HT.sIx n n hi:Nat):Int)/\(sliceBounds lo hi none n).2.2=1:=by
 refine⟨?_,?_,rfl⟩
 ·cases lo with
  | none=>simp[sliceBounds,HT.sIx]
  | some i =>
   simp only[sliceBounds,HT.sIx,Option.getD_none,show (1:Int) > 0 by decide,if_true]
   by_cases h:i < 0
   ·simp only[h,if_true]<;>omega
   ·simp only[h,if_false]<;>omega
 ·cases hi with
  | none=>simp[sliceBounds,HT.sIx]
  | some i =>
   simp only[sliceBounds,HT.sIx,Option.getD_none,show (1:Int) > 0 by decide,if_true]
   by_cases h:i < 0
   ·simp only[h,if_true]<;>omega
   ·simp only[h,if_false]<;>omega
theorem slicePick_cut(its:List Value)(lo hi:Option Int):slicePick its.toArray lo hi none=((its.drop (HT.sIx its.length 0 lo)).take (HT.sIx its.length its.length hi - HT.sIx its.length 0 lo)).toArray:=by
 obtain⟨h1,h2,h3⟩:=slice_bounds lo hi its.toArray.size
 unfold slicePick
 rw[h1,h2,h3]
 simp only[sliceRange_one,pick_run,List.size_toArray]<;>rfl
theorem call_len_seq:CallR X (.builtin "len") (fun xs H Q=>∃p ys,xs=[.ref p]/\(SqL X.K H p ys∨SqT X.K H p ys)/\Q (.int ys.length) H):=by
 intro pins s σ H xs us Q I r h
 obtain⟨p,ys,rfl,hq,q⟩:=h
 obtain⟨u,rfl,rx⟩:=vals1 r
 cases rx
 have hn:=line63
 rcases hq with hq|hq
 ·obtain⟨its,r',pl,hz⟩:=I.list hq
  have hlen:=r'.length
  exact Calls.call_len_list pl.isList (by simp only[List.size_toArray]<;>omega) ⟨.int ys.length,H,I.tok _,⟨s.toks + 1,by rw[List.size_toArray,hlen]⟩,q⟩
 ·obtain⟨its,r',pl,hz⟩:=I.tuple hq
  have hlen:=r'.length
  exact len_tuple pl (by simp only[List.size_toArray]<;>omega) ⟨.int ys.length,H,I.tok _,⟨s.toks + 1,by rw[List.size_toArray,hlen]⟩,q⟩
theorem CallR.or{f:Value}{r r':List V->Hp->VK->Prop}(h:CallR X f r)(h':CallR X f r'):CallR X f (fun xs H Q=>r xs H Q∨r' xs H Q):=by
 intro pins s σ H xs us Q I rs q
 rcases q with q|q
 ·exact h pins s σ H xs us Q I rs q
 ·exact h' pins s σ H xs us Q I rs q
theorem call_list_of:CallR X (.type "list") (fun xs H Q=>∃p ys,xs=[.ref p]/\(SqL X.K H p ys∨SqT X.K H p ys)/\∀l,H l=none->Q (.ref l) (upd H l (.lst ys))):=by
 intro pins s σ H xs us Q I r h
 obtain⟨p,ys,rfl,hq,q⟩:=h
 obtain⟨u,rfl,rx⟩:=vals1 r
 cases rx
 have fin:∀(its:List Value),Vals ys its->ys.length<=sizeLine->∀(h':Heap)(c':Nat),(∀b o',s.heap.get? b=some o'->h'.get? b=some o') →
   h'.get? s.heap.objs.size=some {cls:=.type "list", dict:=none,data:=.seq its.toArray c',slots:=#[]}->EP X pins σ Q (.ref s.heap.objs.size) {s with heap:=h' }:=fun its r' hz h' c' kp e =>
  ⟨.ref s.heap.objs.size,_,I.laid (t':=s.toks) kp (Nat.le_refl _) (show ObjOk X.prog X.w _ h' _ (.lst ys) from ⟨hz,its,c',r',e⟩),rfl,q _ (I.hok.fresh (Nat.le_refl _))⟩
 rcases hq with hq|hq
 ·obtain⟨its,r',pl,hz⟩:=I.list hq
  have hlen:=r'.length
  obtain⟨o,ho,hc,n,hd⟩:=pl.isList
  exact call_list_seq p (.inl rfl) ho hc hd (fun h' c' kp e=>fin its r' hz h' c' kp e) (by simp only[List.size_toArray]<;>omega)
 ·obtain⟨its,r',pl,hz⟩:=I.tuple hq
  have hlen:=r'.length
  obtain⟨o,ho,hc,n,hd⟩:=pl
  exact call_list_seq p (.inr rfl) ho hc hd (fun h' c' kp e=>fin its r' hz h' c' kp e) (by simp only[List.size_toArray]<;>omega)
theorem call_tuple_of:CallR X (.type "tuple") (fun xs H Q=>∃p ys,xs=[.ref p]/\((SqL X.K H p ys/\∀l,H l=none->Q (.ref l) (upd H l (.tup ys)))∨(SqT X.K H p ys/\Q (.ref p) H))):=by
 intro pins s σ H xs us Q I r h
 obtain⟨p,ys,rfl,h⟩:=h
 obtain⟨u,rfl,rx⟩:=vals1 r
 cases rx
 rcases h with ⟨hq,q⟩|⟨hq,q⟩
 ·obtain⟨its,r',pl,hz⟩:=I.list hq
  have hlen:=r'.length
  refine call_tuple_list pl.isList (fun h' kp=>?_) (by simp only[List.size_toArray]<;>omega)
  have I1:Inv X pins σ H {s with heap:=h' }:=I.kept (t':=s.toks) kp
  have I2:Inv X pins σ (upd H h'.objs.size (.tup ys)) {s with heap:=h'.push {cls:=.type "tuple", data:=.seq its.toArray} } :=
   I1.laid (t':=s.toks) (fun b o e=>Heap.get?_push_of_some _ e) (Nat.le_refl _) (show ObjOk X.prog X.w _ _ _ (.tup ys) from ⟨hz,its,r',IsTup.new _ _⟩)
  exact⟨.ref h'.objs.size,_,I2,rfl,q _ (I1.hok.fresh (Nat.le_refl _))⟩
 ·obtain⟨its,r',pl,hz⟩:=I.tuple hq
  exact call_tuple_same pl ⟨.ref p,H,I,rfl,q⟩
def tyV(K:PySem.W.Frag)(T:String)(x:V)(H:Hp):Prop:=match x with
 | .str _=>T = "str"
 | .int _=>T = "int"
 | .ref p=>(T = "list" /\ ∃xs,SqL K H p xs)∨(T = "tuple" /\ ∃o,K.lookup p=some o/\o.cls=.type "tuple" /\ o.dict=none) ∨
   (T = "dict" /\ ((∃kvs,H p=some (.dK kvs))∨∃kvs,H p=some (.dT kvs)))∨(T = "set" /\ ∃S n,H p=some (.set S n))
 | _=>False
theorem tyV_is{pins:List (Addr×Obj)}{σ:St}{H:Hp}{s:Shared}{T:String}{x:V}{v:Value}(I:Inv X pins σ H s)(r:RelV x v)(ty:tyV X.K T x H) :
  s.TypeIs v T/\∀a,v=.ref a->∃ob,s.heap.get? a=some ob/\ob.dict=none:=by
 cases x with
 | str z =>
  obtain⟨t,rfl⟩:=r
  cases (show T = "str" from ty)
  exact⟨typeIs_str s z t,fun _ e=>nomatch e⟩
 | int i =>
  obtain⟨t,rfl⟩:=r
  cases (show T = "int" from ty)
  exact⟨typeIs_int s i t,fun _ e=>nomatch e⟩
 | ref p =>
  cases r
  rcases ty with ⟨rfl,xs,hq⟩|⟨rfl,o,hk,hc,hd⟩|⟨rfl,hk⟩|⟨rfl,S,n,hk⟩
  ·obtain⟨its,_,pl,_⟩:=I.list hq
   refine⟨pl.isList.typeIs,fun a e=>?_⟩
   cases e
   obtain⟨o,n,e,c,hd,_⟩:=pl
   exact⟨o,e,hd⟩
  ·refine⟨⟨o,I.kIn p o hk,hc⟩,fun a e=>?_⟩
   cases e
   exact⟨o,I.kIn _ o hk,hd⟩
  ·have z:∃o,s.heap.get? p=some o/\o.ExactDict:=by
    rcases hk with ⟨kvs,hk⟩|⟨kvs,hk⟩
    ·obtain⟨_,_,_,_,o,_,_,e,ex,_⟩:=I.hok p _ hk
     exact⟨o,e,ex⟩
    ·obtain⟨_,_,_,_,o,_,_,e,ex,_⟩:=I.hok p _ hk
     exact⟨o,e,ex⟩
   obtain⟨o,e,ex⟩:=z
   refine⟨⟨o,e,ex.1⟩,fun a e2=>?_⟩
   cases e2
   exact⟨o,e,ex.2.1⟩
  ·obtain⟨o,_,_,_,e,ex,_⟩:=I.hok p _ hk
   refine⟨⟨o,e,ex.1⟩,fun a e2=>?_⟩
   cases e2
   exact⟨o,e,ex.2.1⟩
 | _=>exact False.elim ty
def tBM(K:PySem.W.Frag)(T:String)(r:V->List V->Hp->VK->Prop)(to:TE)(t:TA):TE:=fun σ H Q=>to σ H fun x H1=>tyV K T x H1/\t σ H1 fun xs H2=>r x xs H2 Q
variable {o e:Expr} {es:List Expr} {to:TE} {t:TA} {name:Str} {apos cpos:Pos} {T id:String} {r:V->List V->Hp->VK->Prop}
theorem pe_bm(pa:PlainAttrs T)(slot:Slot T name id) (hty:typeOf (.builtin id)=pure (.type "method_descriptor")) (hm:MtR X id r) (ho:PE X o to) (ha:PA X (e::es) t)
  (hbase:attributeBase o name X.env (eval o X.env)=eval o X.env:=by rfl)
  (hfew:((backTo cpos (starEach (e::es) X.env)).all (fun x=>!x.1)&&(backToKw cpos (keywordEach [] X.env)).all (fun x=>x.1.isSome)
   && decide ((e::es).length + ([]:List Keyword).length + (if ([]:List Keyword).isEmpty then 0 else 1) < 30))=true:=by rfl)
  (hline:(apos.endLine==cpos.line)=true:=by rfl) (hs:starEach (e::es) X.env=(false,eval e X.env)::starEach es X.env:=by rfl) (hplain:(backTo cpos (starEach es X.env)).any (·.1)=false:=by rfl) :
  PE X (.Call (.Attribute o name apos) (e::es) [] cpos) (tBM X.K T r to t):=by
 intro pins s σ H Q I h
 refine wpAny_Call_method_late hbase hfew hline rfl (thn (ho pins s σ H _ I h) fun v s1 ⟨x,H1,I1,r1,ty,q1⟩=>?_)
 obtain⟨h1,h2⟩:=tyV_is I1 r1 ty
 refine⟨T,id,pa,slot,hty,h1,h2,?_⟩
 have hA:=ha cpos pins s1 σ H1 _ I1 q1
 rw[hs]at hA ⊢
 refine Calls.callWith_builtin (by show (false||(backTo cpos (starEach es X.env)).any (·.1))=false;rw[hplain]<;>rfl) (Calls.evalArgs_plain ?_)
 exact thn hA fun us s2 ⟨vs,H2,I2,r2,q2⟩=>hm pins s2 σ H2 x vs v us Q I2 r1 r2 q2
end
end L2
namespace L2
open PySem PySem.Spec PyProof.Rows
def MtM(X:Cx)(id:String)(r:V->List V->Hp->VK->Prop):Prop :=
 ∀(pins:List (Addr×Obj))(s:Shared)(σ:St)(H:Hp)(x:V)(xs:List V)(v:Value)(us:List Value)(Q:VK),Inv X pins σ H s->RelV x v->Vals xs us->r x xs H Q →
  wpAny (model X.prog X.w) X.A (call (.builtin id) (v::us)) (EP X pins σ Q) X.xe s
theorem Vals.one:∀{x:V}{us:List Value},Vals [x] us->∃u,us=[u]/\RelV x u
 | _,_,.cons r .nil=>⟨_,rfl,r⟩
theorem Vals.two:∀{x y:V}{us:List Value},Vals [x,y] us->∃u v,us=[u,v]/\RelV x u/\RelV y v
 | _,_,_,.cons r (.cons q .nil)=>⟨_,_,rfl,r,q⟩
theorem Vals.eraseIdx:∀{xs:List V}{us:List Value}(i:Nat),Vals xs us->Vals (xs.eraseIdx i) (us.eraseIdx i)
 | _,_,_,.nil=>.nil
 | _,_,0,.cons _ t=>t
 | _,_,i + 1,.cons r t=>.cons r (Vals.eraseIdx i t)
theorem Vals.reverse{xs:List V}{us:List Value}(h:Vals xs us):Vals xs.reverse us.reverse:=by
 induction h with
 | nil=>exact .nil
 | cons r t ih=>rw[List.reverse_cons,List.reverse_cons];exact Vals.append ih (.cons r .nil)
section
variable {X:Cx} {pins:List (Addr×Obj)} {σ:St} {H:Hp} {s:Shared} {l b:Addr} {xs ys zs:List V}
theorem Inv.lset{its its':List Value}{n:Nat}{f:Array Value->Array Value}{t':Nat}(I:Inv X pins σ H s)(hH:H l=some (.lst xs))
  (e:s.heap.get? l=some {cls:=.type "list", data:=.seq its.toArray n}) (hf:f its.toArray=its'.toArray) (hv:Vals ys its') (hz:ys.length<=sizeLine) :
  Inv X pins σ (upd H l (.lst ys)) {s with heap:=s.heap.update l (Obj.mapSeq f),toks:=t' }:=by
 have q:=PySem.IsL.update e f
 rw[hf]at q
 refine I.write (x:=l) (e:=l) (by rw[hH];exact trivial) (.inl rfl) (fun b' u hb hu=>(Heap.get?_update_other s.heap (Obj.mapSeq f) (Ne.symm hb)).trans hu) ⟨_,q⟩ ?_
 exact⟨hz,its',_,hv,q⟩
theorem Inv.fresh(I:Inv X pins σ H s):H s.heap.objs.size=none:=I.hok.fresh (Nat.le_refl _)
theorem Inv.lstM(I:Inv X pins σ H s)(hH:H l=some (.lst xs)):xs.length<=sizeLine/\∃(its:List Value) (n:Nat),Vals xs its/\xs.length=its.length/\s.heap.get? l=some {cls:=.type "list", data:=.seq its.toArray n}:=by
 obtain⟨z,its,n,r,e⟩:=I.hok l _ hH
 exact⟨z,its,n,r,r.length,e⟩
end
section
variable {X:Cx}
def rAppend:V->List V->Hp->VK->Prop:=fun x vs H Q=>∃l xs y,x=.ref l/\vs=[y]/\H l=some (.lst xs)/\xs.length < sizeLine/\Q .non (upd H l (.lst (xs++[y])))
theorem mt_append:MtM X "list.append" rAppend:=by
 intro pins s σ H x vs v us Q I rx rv h
 obtain⟨l,xs,y,rfl,rfl,hH,hz,q⟩:=h
 cases rx
 obtain⟨u,rfl,ru⟩:=rv.one
 obtain⟨z,its,n,r,hl,e⟩:=I.lstM hH
 refine call_meets F.slot_list_append ⟨_,e,rfl⟩ F.entry_list_append (F.args_list_append_2 _ _) (PySem.list_append l its.toArray n u (by rw[List.size_toArray];omega)) ⟨e,?_⟩
 refine⟨.non,_,I.lset (its':=its++[u]) hH e (by simp) (r.append (.cons ru .nil)) ?_,rfl,q⟩
 rw[List.length_append,List.length_singleton]
 omega
end
section
variable {prog:Program} {w:World} {A:Around} {E:Value->Shared->Prop} {s:Shared}
end
section
variable {X:Cx}
end
end L2
namespace Att
open PySem PySem.W PySem.Calls PyProof.Rows
theorem ints_of_wellAll{P:Params}{h:Heap}:∀(ns:List Int)(vs:List Value),WellAll P h vs (ns.map WData.int)->IntsAre vs ns:=by
 intro ns
 induction ns with
 | nil =>
  intro vs w
  rw[List.map_nil]at w
  cases w
  exact .nil
 | cons n ns ih =>
  intro vs w
  rw[List.map_cons]at w
  cases w with
  | cons a b =>
   cases a
   exact .cons _ _ (ih _ b)
theorem script_of{l:OpenLaw}{n:Nat}(hn:l.most=some n){P:Params}{h:Heap}{args:List WData}{vals:List Value}
  (hpre:l.row.toRowW.claim.pre args=true) (hwl:WellAll P h vals args) :
  ∃a vs ns,vals=[Value.ref a]/\args=[WData.list (ns.map WData.int)]/\h.get? a=some {cls:=.type "list", data:=.seq vs.toArray}/\IntsAre vs ns/\ns.length<=n:=by
 have hsh:WShape.hasAll [] args [.list .int]=true:=(pre_splitW hpre).1
 have hc:l.pre.holds [] {args:=args}=true:=(pre_splitW hpre).2
 obtain⟨d,r,rfl,h1,h2⟩:=hasAllW_cons hsh
 obtain rfl:=hasAllW_nil h2
 obtain⟨xs,rfl,h3⟩:=hasW_list h1
 obtain⟨ns,rfl⟩:=items_int h3
 have hlen:ns.length<=n:=by
  unfold OpenLaw.pre at hc
  have h4:(WTm.not (.lt (.lit (.int (n:Int))) (.len (.arg 0)))).holds [] {args:=[.list (ns.map .int)]}=true:=by
   have h4:=(holds_andW hc).1
   rw[hn]at h4
   exact h4
  have h5:=condW_of h4 (w_not (w_lt w_lit (w_len_list (w_arg rfl))))
  rw[List.length_map]at h5
  refine Nat.le_of_not_lt fun q=>?_
  have q':(n:Int) < ((ns.length:Nat):Int):=by omega
  first
   | (rw[decide_eq_true q']at h5;exact absurd h5 (by decide))
   | (simp at h5;omega)
 cases hwl with
 | cons w1 w2 =>
  cases w2
  cases w1 with
  | list ho hall=>exact⟨_,_,ns,rfl,rfl,ho,ints_of_wellAll ns _ hall,hlen⟩
theorem post_true(l:OpenLaw)(args:List WData):l.row.toRowW.claim.post args (.bool true) args=true :=
 postW_of (r:=l.row.toRowW) (X:=(true==true))
  (show WShape.has [] (.bool true) .bool=true by first|rfl|decide|simp[WShape.has,WShape.arms,WShape.armsAll])
  (show (WTm.eq .res (.lit (.bool true))).value [] {args:=args,res:=some (.bool true),after:=args}=some (.bool (true==true)) from w_eq_bool (w_res rfl) w_lit) rfl
theorem attach_call{l:OpenLaw}{n:Nat}{q:Program}{loose:List Str}{XP:(Str->Option Value)->Heap->Prop}{YP:World->Heap->Prop}{d:DefRec}
  (hn:l.most=some n) (hdf:d.params.defaults=[])
  (call:∀(w:World)(s₀ s₁:Shared)(mg mb:Str->Option Value)(fa:Addr)(o:Obj)(pm cd doc:Value)(a:Addr)(vs:List Value)(ns:List Int),
   Ground q loose [] XP w s₀ mg mb s₁.heap->YP w s₁.heap →
   s₁.heap.get? fa=some o->o.data=.func (docDef d.name d.params d.body d.scope pm cd doc)->s₁.heap.CodeRec cd d.name->mg d.name=some (.ref fa) →
   s₁.heap.get? a=some {cls:=.type "list", data:=.seq vs.toArray}->IntsAre vs ns->ns.length<=n->s₁.gens=#[] →
   codeAny (model l.prog w) callerA (.call (.ref fa) ⟨[.ref a],[]⟩) (fun r s'=>r=.ok (.ret (.bool true))/\OldK s₁.heap s'.heap/\s'.os=s₁.os/\AllBare s'.gens) s₁) :
  WalkO q loose XP YP l.row.toRowW d [] (fun f vs=>PySem.call f vs):=by
 intro w s₀ s₁ mg mb G Y fa o pm cd doc dV kV ho hd hcd hD hmg hg args vals as hpre hlay hrd hwl hlo
 obtain rfl:dV=.none:=Dflts.none hD hdf
 obtain rfl:kV=.none:=Dflts.noKw hD
 obtain⟨a,vs,ns,rfl,rfl,hobj,hints,hlen⟩:=script_of hn hpre hwl
 refine enter_call (codeAny_mono (call w s₀ s₁ mg mb fa o pm cd doc a vs ns G Y ho (fd_plain hd) hcd hmg hobj hints hlen hg) fun r s' hq=>?_)
 obtain⟨rfl,h2,h3,h4⟩:=hq
 exact⟨.inl ⟨.bool true,.bool true,[],rfl,fun _=>rfl,.bool true,post_true l _,fun _=>⟨List.Pairwise.nil,fun _ hm=>(nomatch hm)⟩⟩,h2,h3,h4⟩
section
variable {prog:Program} {w:World} {A:Around} {E:Value->Shared->Prop} {s:Shared} {K:Frag}
def ledger(h:Heap)(L d:Addr):List (Addr×Obj):=(List.range h.objs.size).filterMap fun a=>if a=L∨a=d then none else (h.get? a).map fun o=>(a,o)
end
end Att
namespace L2
open PySem PySem.Spec PyProof.Rows
theorem vals_ints:∀{vs:List Value}{ns:List Int},IntsAre vs ns->Vals (ns.map V.int) vs
 | _,_,.nil=>.nil
 | _,_,.cons n t h=>.cons ⟨t,rfl⟩ (vals_ints h)
def Only(H:Hp):Prop:=∀b,H b=none∨∃o xs,H b=some (.frz o (.lst xs))
theorem law_call{P:Program}{w:World}{K:PySem.W.Frag}{mg mb:Str->Option Value}{CX:CXT}{k:Nat}{fa a:Addr}{fd:FuncData}{x:Str}{sp:Sp}{s₁:Shared}{vs:List Value}{ns:List Int}
  (KX:K.In s₁.heap) (hns:s₁.heap.Ns mainGlobals mg) (hb:s₁.heap.Ns builtinsNs mb) (hbb:∀x:Str,x ≠ "__name__" -> mb x=bootBuiltins x) (hlim:s₁.heap.NoLimit) (hg:s₁.gens=#[])
  (ha:s₁.heap.get? a=some {cls:=.type "list", data:=.seq vs.toArray}) (hi:IntsAre vs ns) (hl:ns.length<=sizeLine) (hr:Room k callerA)
  (F:∀base:Heap,K.In base->base.Ns mainGlobals mg->FnOk P w K mg base CX k fa fd [x] sp) (hbind:∀(s:Shared)(u:Value),BindsTo s fd ⟨[u],[]⟩ [(x,u)])
  (hsp:∀H:Hp,Only H->SqL K H a (ns.map V.int)->sp [.ref a] H (fun v _=>v=.bl true) fun _ _ _=>False)
  (hCX:∀H e s',CX [] H s₁ (fun _ _ _=>False) e s'->False) :
  codeAny (model P w) callerA (.call (.ref fa) ⟨[.ref a],[]⟩) (fun r s'=>r=.ok (.ret (.bool true))/\OldK s₁.heap s'.heap/\s'.os=s₁.os/\AllBare s'.gens) s₁:=by
 have rv:=vals_ints hi
 have lenV:=hi.length
 have core:∀H:Hp,Only H->SqL K H a (ns.map V.int)->HOk P w H s₁.heap->(∀b,H b≠none->b=a)->(H a≠none->K.lookup a=none) →
   codeAny (model P w) callerA (.call (.ref fa) ⟨[.ref a],[]⟩) (fun r s'=>r=.ok (.ret (.bool true))/\OldK s₁.heap s'.heap/\s'.os=s₁.os/\AllBare s'.gens) s₁:=by
  intro H hO hS hok hA hK
  have base_of:∀{b:Addr}{o:Obj},s₁.heap.get? b=some o->H b=none->(hidT s₁.heap H).get? b=some o:=fun e n=>hidT_get e n
  have noA:∀{b:Addr}{o:Obj}{es:Array DictEntry}{ep:Nat},s₁.heap.get? b=some o->o.data=.dict es ep->H b=none:=fun {b o es ep} e d=>by
   cases q:H b with
   | none=>rfl
   | some u =>
    have e':b=a:=hA b (by rw[q];simp)
    subst e'
    rw[ha]at e;cases e
    have d':Data.seq vs.toArray _=Data.dict es ep:=d
    cases d'
  have nsK:∀{b:Addr}{m:Str->Option Value},s₁.heap.Ns b m->(hidT s₁.heap H).Ns b m:=fun {b m} ⟨o,es,ep,e,d,r⟩=>⟨o,es,ep,base_of e (noA e d),d,r⟩
  have hKb:K.In (hidT s₁.heap H):=fun b o e=>base_of (KX b o e) (by
   cases q:H b with
   | none=>rfl
   | some u =>
    have e':b=a:=hA b (by rw[q];simp)
    subst e'
    rw[hK (by rw[q];simp)]at e;cases e)
  have hM:Mod K mg (hidT s₁.heap H):=⟨hKb,nsK hns,⟨mb,nsK hb,hbb⟩,let ⟨mc,h1,h2⟩:=hlim;⟨mc,nsK h1,h2⟩⟩
  have e0:Env0 P w K mg (hidT s₁.heap H) callerA [] s₁ H:=⟨rfl,hM,fun b o e=>of_hidT e,Nat.le_of_eq (hidT_size _ _),trivial,fun b hb=>absurd (show b∈([]:List Addr) from hb) (by simp),hok,.of_eq hg⟩
  refine codeAny_mono ((F _ hKb (nsK hns)).run callerA [] s₁ H ⟨[.ref a],[]⟩ [.ref a] [.ref a] _ _ hr e0 (hbind s₁ (.ref a)) (.cons rfl .nil) (hsp H hO hS)) fun r s' h=>?_
  cases r with
  | error e=>exact(hCX H e s' h).elim
  | ok fl =>
   cases fl with
   | next=>exact False.elim h
   | brk=>exact False.elim h
   | cont=>exact False.elim h
   | ret u =>
    obtain⟨v,H',os,bare,un,hok',r',q⟩:=h
    have q':v=.bl true:=q
    subst q'
    obtain rfl:u=Value.bool true:=r'
    refine⟨rfl,OldK.of_keep fun b o e=>?_,os,bare⟩
    cases q:H b with
    | none=>exact un.keep b o e q (by intro z;exact absurd (show b∈([]:List Addr) from z) (by simp)) (by simp)
    | some u =>
     rcases hO b with z|⟨ob,xs,z⟩
     ·rw[q]at z;cases z
     ·have z2:=un.frzs b ob _ z
      obtain⟨e1,_⟩:=hok b _ z
      obtain⟨e2,_⟩:=hok' b _ z2
      rw[e]at e1;cases e1
      exact e2
 cases hk:K.lookup a with
 | some o =>
  have e:=KX a o hk
  rw[ha]at e
  cases e
  refine core (fun _=>none) (fun _=>.inl rfl) (.inr ⟨_,vs.toArray,_,hk,rfl,rfl,rfl,by rw[List.size_toArray,lenV];exact hl,by simpa using rv⟩) (fun b u z=>by have z':(none:Option HO)=some u:=z;cases z') (fun b z=>absurd rfl z) fun z=>absurd rfl z
 | none =>
  refine core (fun b=>if b=a then some (.frz {cls:=.type "list", data:=.seq vs.toArray} (.lst (ns.map V.int))) else none) (fun b=>?_) (.inl (.inr ⟨{cls:=.type "list", data:=.seq vs.toArray},if_pos rfl⟩)) (fun b u z=>?_) (fun b z=>?_) fun _=>hk
  ·by_cases hb:b=a
   ·exact .inr ⟨_,_,if_pos hb⟩
   ·exact .inl (if_neg hb)
  ·by_cases hb:b=a
   ·have z':=(if_pos hb).symm.trans z
    cases z'
    subst hb
    exact⟨ha,by rw[List.length_map];exact hl,vs,_,rv,ha⟩
   ·have z':=(if_neg hb).symm.trans z
    cases z'
  ·by_cases hb:b=a
   ·exact hb
   ·exact absurd (if_neg hb) z
end L2
namespace L2
open PySem PySem.Spec PyProof.Rows
abbrev KOf{K:PySem.W.Frag}{h:Heap}(_:K.In h):PySem.W.Frag:=K
theorem walk_of{l:PySem.W.OpenLaw}{n k:Nat}{q:Program}{loose:List Str}{XP:(Str->Option Value)->Heap->Prop}{YP:World->Heap->Prop}{d:DefRec}{K:Params->PySem.W.Frag}{CX:World->CXT}{sp:World->Sp}{x:Str}
  (hn:l.most=some n) (hn2:n<=sizeLine) (hdf:d.params.defaults=[]) (hr:Room k callerA)
  (hY:∀(w:World)(h:Heap),YP w h->(K w.params).In h)
  (F:∀(w:World)(mg:Str->Option Value)(fa:Addr)(h:Heap),(K w.params).In h->h.Ns mainGlobals mg->mg d.name=some (.ref fa) →
   ∃fd:FuncData,(∀(s:Shared)(u:Value),BindsTo s fd ⟨[u],[]⟩ [(x,u)]) ∧
    ∀base:Heap,(K w.params).In base->base.Ns mainGlobals mg->FnOk l.prog w (K w.params) mg base (CX w) k fa fd [x] (sp w))
  (hsp:∀(w:World)(H:Hp)(a:Addr)(ns:List Int),ns.length<=n->Only H->SqL (K w.params) H a (ns.map V.int)->sp w [.ref a] H (fun v _=>v=.bl true) fun _ _ _=>False)
  (hCX:∀(w:World)(H:Hp)(s:Shared)(e:Value)(s':Shared),CX w [] H s (fun _ _ _=>False) e s'->False) :
  PySem.W.WalkO q loose XP YP l.row.toRowW d [] (fun f vs=>PySem.call f vs):=by
 refine Att.attach_call hn hdf fun w s₀ s₁ mg mb fa o pm cd doc a vs ns G Y ho hd hcd hmg hobj hints hlen hg=>?_
 have KX:=hY w _ Y
 obtain⟨fd,hb,hF⟩:=F w mg fa _ KX G.T.g hmg
 exact law_call KX G.T.g G.T.b G.T.builtins G.T.nolimit hg hobj hints (Nat.le_trans hlen hn2) hr hF hb (fun H hO hS=>hsp w H a ns hlen hO hS) fun H e s'=>hCX w H s₁ e s'
end L2
namespace L2
open PySem PySem.Spec PyProof.Rows
def defArgs(s:Stmt):Arguments:=match s with
 | .FunctionDef _ a _ _ _ _ _ _ _ _=>a
 | _=>{posonlyargs:=[],args:=[],vararg:=none,kwonlyargs:=[],kw_defaults:=[],kwarg:=none,defaults:=[]}
def defBody(s:Stmt):List Stmt:=match s with
 | .FunctionDef _ _ b _ _ _ _ _ _ _=>b
 | _=>[]
def defScope(s:Stmt):Scope:=match s with
 | .FunctionDef _ _ _ _ _ _ sc _ _ _=>sc
 | _=>{kind:=.function,names:=[],isGenerator:=false,isCoroutine:=false}
abbrev CX0:CXT:=fun _ _ _ _ _ _=>False
abbrev E0:XK:=fun _ _ _=>False
theorem pass0{X:Cx}:Passes CX0 X E0:=fun _ _ _ _ _ _ _ h=>h.elim
structure Fun(K:PySem.W.Frag)(x qual:Str)(st:Stmt)(f:Addr)(fd:FuncData):Prop where
 ex:∃(oc:Value) (od:Option Addr) (kV doc pm:Value) (an:Option Addr) (cdv ct:Value) (osl:Array (Option Value)),
  fd=PySem.W.fnOf x qual (defArgs st) (defBody st) (defScope st) .none kV doc pm an cdv ct/\K.lookup f=some ⟨oc,od,.func fd,osl⟩/\PySem.W.codeIn K cdv qual=true
 kp:PySem.W.keepIn K (.ref f)=true
section
variable {P:Program} {w:World} {K:PySem.W.Frag} {mg:Str->Option Value} {base:Heap}
theorem Fun.ok{x qual:Str}{st:Stmt}{f:Addr}{fd:FuncData}{N ps:List Str}{k:Nat}{sp:Sp}(F:Fun K x qual st f fd)(S:FnScope N ps (defScope st))(len:∀vs H Q E,sp vs H Q E->vs.length=ps.length)
  (hbody:∀(cdv:Value)(A:Around)(outer:List Env)(s:Shared)(H:Hp)(vs:List V)(Q:VK)(E:XK),Room k (A.deeper (envOfC qual (defScope st) s.heap.objs.size f cdv))->sp vs H Q E →
   ∃t,PSs (cxOf CX0 P w K mg base N qual (defScope st) f cdv A outer s H E).nox (defBody st) t/\t {nx:=fun _ H'=>Q .non H',rt:=Q} (start N vs) H):FnOk P w K mg base CX0 (k + 1) f fd ps sp:=by
 obtain⟨oc,od,kV,doc,pm,an,cdv,ct,osl,rfl,lk,hcd⟩:=F.ex
 refine fn_of lk hcd S len fun A outer s H vs Q E hr hsp=>?_
 obtain⟨t,h,q⟩:=hbody cdv A outer s H vs Q E hr hsp
 exact⟨t,h.nox,q⟩
theorem Fun.binds{x qual:Str}{st:Stmt}{f:Addr}{fd:FuncData}{ps:List Str}(F:Fun K x qual st f fd)
  (h:∀(kV doc pm:Value)(an:Option Addr)(cdv ct:Value)(us:List Value),us.length=ps.length->bindArgs (PySem.W.fnOf x qual (defArgs st) (defBody st) (defScope st) .none kV doc pm an cdv ct) ⟨us,[]⟩=pure (ps.zip us)):Binds K fd ps []:=by
 obtain⟨oc,od,kV,doc,pm,an,cdv,ct,osl,rfl,lk,hcd⟩:=F.ex
 exact .all (h kV doc pm an cdv ct)
theorem fun_mk{x qual:Str}{st:Stmt}{f:Addr}{oc:Value}{od an:Option Addr}{osl:Array (Option Value)}{kV doc pm cdv ct:Value}(l:K.lookup f=some ⟨oc,od,.func (PySem.W.fnOf x qual (defArgs st) (defBody st) (defScope st) .none kV doc pm an cdv ct),osl⟩)
  (c:PySem.W.codeIn K cdv qual=true) (k:PySem.W.keepIn K (.ref f)=true):Fun K x qual st f (PySem.W.fnOf x qual (defArgs st) (defBody st) (defScope st) .none kV doc pm an cdv ct):=⟨⟨oc,od,kV,doc,pm,an,cdv,ct,osl,rfl,l,c⟩,k⟩
end
theorem small1000{n:Nat}(h:n<=1000):n < sizeLine:=Nat.lt_of_le_of_lt h (by decide)
section
variable {X:Cx}
theorem pv(i:Nat){x:Str}{pos:Pos}(hN:X.N[i]?=some x:=by rfl)(hv:Vis X.env.scope x:=by first|exact Or.inl rfl|exact Or.inr (Or.inl rfl)|exact Or.inr (Or.inr rfl)) (hd:(x==("__debug__" : Str))=false:=by decide)
  (hcd:(x==("__classdict__" : Str))=false:=by decide):PE X (.Name x pos) (tVar i):=pe_var hN hv hd hcd
end
def Same(H H':Hp):Prop:=∀b o,H b=some o->H' b=some o
theorem Same.refl(H:Hp):Same H H:=fun _ _ h=>h
theorem Same.trans{H H1 H2:Hp}(a:Same H H1)(b:Same H1 H2):Same H H2:=fun c o h=>b c o (a c o h)
theorem Same.free{H H':Hp}(e:Same H H'){l:Addr}(h:H' l=Option.none):H l=Option.none:=by
 cases q:H l with
 | none=>rfl
 | some o =>
  rw[e l o q]at h
  cases h
theorem Same.seq{K:PySem.W.Frag}{H H':Hp}{a:Addr}{xs:List V}(e:Same H H')(h:SqL K H a xs):SqL K H' a xs:=by
 rcases h with (h|⟨o,h⟩)|h
 ·exact .inl (.inl (e _ _ h))
 ·exact .inl (.inr ⟨o,e _ _ h⟩)
 ·exact .inr h
end L2
section
namespace L2
open PySem PySem.Spec PyProof.Rows
section
variable {κ:Type} [DecidableEq κ]
end
section
variable {P:Program} {w:World} {H:Hp} {h:Heap} {a:Addr}
end
section
variable {X:Cx} {pins:List (Addr×Obj)} {σ:St} {H:Hp} {s:Shared} {a:Addr} {y v:V} {u r:Value} {o:Option V} {A:Around} {E:Value->Shared->Prop}
end
section
variable {X:Cx} {pins:List (Addr×Obj)} {σ:St} {H:Hp} {s:Shared} {a:Addr} {kvs:List (Key×V)} {k:Key} {u:Value} {A:Around} {E:Value->Shared->Prop}
end
section
variable {X:Cx} {o i e value:Expr} {pos pos' tpos:Pos} {td ty tv:TE}
end
section
variable {X:Cx} {pos:Pos}
end
section
variable {X:Cx} {pins:List (Addr×Obj)} {σ:St} {H:Hp} {s:Shared} {a:Addr} {y d:V} {u r:Value} {o:Option V} {A:Around} {E:Value->Shared->Prop}
end
section
variable {X:Cx} {o e f:Expr} {apos cpos:Pos} {td ty tx:TE}
end
section
variable {X:Cx} {pins:List (Addr×Obj)} {σ:St} {H:Hp} {s:Shared} {a:Addr} {kvs:List (Key×V)} {A:Around} {E:Value->Shared->Prop}
end
section
variable {X:Cx} {pins:List (Addr×Obj)} {σ:St} {H:Hp} {s:Shared} {a:Addr} {y:V} {u:Value} {A:Around} {E:Value->Shared->Prop}
end
end L2
namespace L2
open PySem PySem.Spec PyProof.Rows
section
variable {κ:Type} [DecidableEq κ]
end
end L2
end
section
namespace TL
open PySem PySem.Spec PyProof.Rows L2
abbrev St:=L2.St
def nst:Expr->Bool
 | .Starred _ _=>false
 | _=>true
theorem star1{e:Expr}{es:List Expr}{env:Env}(h:nst e=true):starEach (e::es) env=(false,eval e env)::starEach es env:=by
 cases e<;>first|rfl|cases h
theorem stars{env:Env}{pos:Pos}:∀{es:List Expr},es.all nst=true->(backTo pos (starEach es env)).any (·.1)=false
 | [],_=>rfl
 | e::es,h=>by
  rw[List.all_cons,Bool.and_eq_true]at h
  rw[star1 h.1]
  show (false||(backTo pos (starEach es env)).any (·.1))=false
  rw[stars h.2]
  rfl
inductive T where
 | non|bl (b:Bool)|int (i:Int)|str (x:Str)|tup (ts:List T)|lst (ts:List T)|dct|exc (c:Str)|exf (c f:Str) (t:T)|dic (ks:List Int) (ts:List T)
abbrev kn(o:Obj):HO:=.frz o (.ext fun _=>True)
abbrev noDict:Obj:={cls:=.type "dict", data:=.dict #[] 0}
structure ExcAt(K:PySem.W.Frag)(H:Hp)(c:Str)(p:Addr):Prop where
 ex:∃(o:Obj) (C:Addr) (ws:Array Value),H p=some (kn o)/\o.cls=.ref C/\o.data=.fields ws/\PySem.W.nsIn K mainGlobals c=some (some (.ref C))
structure ExfAt(K:PySem.W.Frag)(H:Hp)(c f:Str)(p d:Addr)(od:Obj)(u:Value):Prop where
 ex:∃(o:Obj) (C:Addr) (ws:Array Value),H p=some (kn o)/\o.cls=.ref C/\o.data=.fields ws/\o.dict=some d/\PySem.W.nsIn K mainGlobals c=some (some (.ref C))
 dict:H d=some (kn od)
 look:PySem.W.lookIn f od=some (some u)
def SqF(K:PySem.W.Frag)(H:Hp)(a:Addr)(xs:List V):Prop :=
 (∃o,H a=some (.frz o (.lst xs))) ∨
  ∃(o:Obj) (its:Array Value) (n:Nat),K.lookup a=some o/\o.cls=.type "list" /\ o.dict=none/\o.data=.seq its n/\its.size<=sizeLine/\Vals xs its.toList
abbrev IntP:=Int×V
def toK(q:IntP):Key×V:=(.inl q.1,q.2)
mutual
def Rep(K:PySem.W.Frag)(H:Hp):T->V->Prop
 | .non,v=>v=.non
 | .bl b,v=>v=.bl b
 | .int i,v=>v=.int i
 | .str x,v=>v=.str x
 | .tup ts,v=>∃p vs,v=.ref p/\SqT K H p vs/\Reps K H ts vs
 | .lst ts,v=>∃p vs,v=.ref p/\SqF K H p vs/\Reps K H ts vs
 | .dct,v=>∃p,v=.ref p/\H p=some (kn noDict)
 | .exc c,v=>∃p,v=.ref p/\ExcAt K H c p
 | .exf c f t,v=>∃p,v=.ref p/\∃d od u y,ExfAt K H c f p d od u/\RelV y u/\Rep K H t y
 | .dic ks ts,v=>∃(p:Addr) (o:Obj) (kvs:List (Int×V)),v=.ref p/\H p=some (.frz o (.dK (kvs.map toK)))/\kvs.map (·.1)=ks/\Reps K H ts (kvs.map (·.2))
def Reps(K:PySem.W.Frag)(H:Hp):List T->List V->Prop
 | [],vs=>vs=[]
 | t::ts,vs=>∃v r,vs=v::r/\Rep K H t v/\Reps K H ts r
end
structure Kp(H H':Hp):Prop where
 tup:∀b xs,H b=some (.tup xs)->H' b=some (.tup xs)
 frz:∀b o u,H b=some (.frz o u)->H' b=some (.frz o u)
theorem Kp.refl(H:Hp):Kp H H:=⟨fun _ _ h=>h,fun _ _ _ h=>h⟩
theorem Kp.trans{H H1 H2:Hp}(a:Kp H H1)(b:Kp H1 H2):Kp H H2:=⟨fun c xs h=>b.tup c xs (a.tup c xs h),fun c o u h=>b.frz c o u (a.frz c o u h)⟩
theorem Kp.of{H H':Hp}(s:Same H H'):Kp H H':=⟨fun b _ h=>s b _ h,fun b _ _ h=>s b _ h⟩
theorem same_new{H:Hp}{p:Addr}(h:H p=none)(o:HO):Same H (upd H p o):=fun b u q=>by rw[upd_ne (ne_of_none q h)];exact q
theorem Kp.write{H:Hp}{p:Addr}{xs:List V}(h:H p=some (.lst xs))(o:HO):Kp H (upd H p o) :=
 ⟨fun b ys q=>by rw[upd_ne (by rintro rfl;rw[h]at q;cases q)];exact q,fun b ob u q=>by rw[upd_ne (by rintro rfl;rw[h]at q;cases q)];exact q⟩
section
variable {K:PySem.W.Frag} {H H':Hp}
theorem SqF.sq{a:Addr}{xs:List V}(h:SqF K H a xs):SqL K H a xs:=h.elim (fun ⟨o,e⟩=>.inl (.inr ⟨o,e⟩)) .inr
theorem sqF_kp{a:Addr}{xs:List V}(k:Kp H H')(h:SqF K H a xs):SqF K H' a xs:=h.elim (fun ⟨o,e⟩=>.inl ⟨o,k.frz _ _ _ e⟩) .inr
theorem sqT_kp{a:Addr}{xs:List V}(k:Kp H H')(h:SqT K H a xs):SqT K H' a xs:=by
 rcases h with (h|⟨o,h⟩)|h
 ·exact .inl (.inl (k.tup _ _ h))
 ·exact .inl (.inr ⟨o,k.frz _ _ _ h⟩)
 ·exact .inr h
theorem rep_tup{ts:List T}{v:V}:Rep K H (.tup ts) v ↔ ∃p vs,v=.ref p/\SqT K H p vs/\Reps K H ts vs:=by rw[Rep]
theorem rep_lst{ts:List T}{v:V}:Rep K H (.lst ts) v ↔ ∃p vs,v=.ref p/\SqF K H p vs/\Reps K H ts vs:=by rw[Rep]
theorem rep_int{i:Int}{v:V}:Rep K H (.int i) v ↔ v=.int i:=by rw[Rep]
theorem rep_bl{i:Bool}{v:V}:Rep K H (.bl i) v ↔ v=.bl i:=by rw[Rep]
theorem rep_str{i:Str}{v:V}:Rep K H (.str i) v ↔ v=.str i:=by rw[Rep]
theorem rep_non{v:V}:Rep K H .non v ↔ v=.non:=by rw[Rep]
theorem rep_dct{v:V}:Rep K H .dct v ↔ ∃p,v=.ref p/\H p=some (kn noDict):=by rw[Rep]
theorem rep_exc{c:Str}{v:V}:Rep K H (.exc c) v ↔ ∃p,v=.ref p/\ExcAt K H c p:=by rw[Rep]
theorem rep_exf{c f:Str}{t:T}{v:V}:Rep K H (.exf c f t) v ↔ ∃p,v=.ref p/\∃d od u y,ExfAt K H c f p d od u/\RelV y u/\Rep K H t y:=by rw[Rep]
theorem rep_dic{ks:List Int}{ts:List T}{v:V}:Rep K H (.dic ks ts) v ↔ ∃(p:Addr) (o:Obj) (kvs:List (Int×V)),v=.ref p/\H p=some (.frz o (.dK (kvs.map toK)))/\kvs.map (·.1)=ks/\Reps K H ts (kvs.map (·.2)):=by rw[Rep]
theorem ExfAt.kp{c f:Str}{p d:Addr}{od:Obj}{u:Value}(k:Kp H H')(h:ExfAt K H c f p d od u):ExfAt K H' c f p d od u:=let ⟨o,C,ws,e,r⟩:=h.ex;⟨⟨o,C,ws,k.frz _ _ _ e,r⟩,k.frz _ _ _ h.dict,h.look⟩
theorem ExcAt.kp{c:Str}{p:Addr}(k:Kp H H')(h:ExcAt K H c p):ExcAt K H' c p:=let ⟨o,C,ws,e,r⟩:=h.ex;⟨o,C,ws,k.frz _ _ _ e,r⟩
theorem reps_nil{vs:List V}:Reps K H [] vs ↔ vs=[]:=by rw[Reps]
theorem reps_cons{t:T}{ts:List T}{vs:List V}:Reps K H (t::ts) vs ↔ ∃v r,vs=v::r/\Rep K H t v/\Reps K H ts r:=by rw[Reps]
mutual
theorem Rep.kp(k:Kp H H'):∀{t:T}{v:V},Rep K H t v->Rep K H' t v
 | .non,v,h=>by rw[rep_non]at h ⊢;exact h
 | .bl b,v,h=>by rw[rep_bl]at h ⊢;exact h
 | .int i,v,h=>by rw[rep_int]at h ⊢;exact h
 | .str x,v,h=>by rw[rep_str]at h ⊢;exact h
 | .tup ts,v,h=>by
  rw[rep_tup]at h ⊢
  obtain⟨p,vs,e,s,r⟩:=h
  exact⟨p,vs,e,sqT_kp k s,Reps.kp k r⟩
 | .lst ts,v,h=>by
  rw[rep_lst]at h ⊢
  obtain⟨p,vs,e,s,r⟩:=h
  exact⟨p,vs,e,sqF_kp k s,Reps.kp k r⟩
 | .dct,v,h=>by
  rw[rep_dct]at h ⊢
  obtain⟨p,e,q⟩:=h
  exact⟨p,e,k.frz _ _ _ q⟩
 | .exc c,v,h=>by
  rw[rep_exc]at h ⊢
  obtain⟨p,e,q⟩:=h
  exact⟨p,e,q.kp k⟩
 | .exf c f t,v,h=>by
  rw[rep_exf]at h ⊢
  obtain⟨p,e,d,od,u,y,q,r,a⟩:=h
  exact⟨p,e,d,od,u,y,q.kp k,r,Rep.kp k a⟩
 | .dic ks ts,v,h=>by
  rw[rep_dic]at h ⊢
  obtain⟨p,o,kvs,e,q,ek,r⟩:=h
  exact⟨p,o,kvs,e,k.frz _ _ _ q,ek,Reps.kp k r⟩
theorem Reps.kp(k:Kp H H'):∀{ts:List T}{vs:List V},Reps K H ts vs->Reps K H' ts vs
 | [],vs,h=>by rw[reps_nil]at h ⊢;exact h
 | t::ts,vs,h=>by
  rw[reps_cons]at h ⊢
  obtain⟨v,r,e,a,b⟩:=h
  exact⟨v,r,e,Rep.kp k a,Reps.kp k b⟩
end
theorem Reps.length:∀{ts:List T}{vs:List V},Reps K H ts vs->vs.length=ts.length
 | [],vs,h=>by rw[reps_nil]at h;subst h;rfl
 | t::ts,vs,h=>by
  rw[reps_cons]at h
  obtain⟨v,r,e,a,b⟩:=h
  subst e
  simp[Reps.length b]
theorem Reps.get:∀{ts:List T}{vs:List V}{i:Nat}{t:T},Reps K H ts vs->ts[i]?=some t->∃v,vs[i]?=some v/\Rep K H t v
 | [],vs,i,t,h,e=>by simp at e
 | t::ts,vs,0,t',h,e=>by
  rw[reps_cons]at h
  obtain⟨v,r,rfl,a,b⟩:=h
  simp at e
  subst e
  exact⟨v,rfl,a⟩
 | t::ts,vs,i + 1,t',h,e=>by
  rw[reps_cons]at h
  obtain⟨v,r,rfl,a,b⟩:=h
  obtain⟨u,h1,h2⟩:=Reps.get (i:=i) b (by simpa using e)
  exact⟨u,by simpa using h1,h2⟩
theorem Reps.append:∀{ts us:List T}{vs ws:List V},Reps K H ts vs->Reps K H us ws->Reps K H (ts++us) (vs++ws)
 | [],us,vs,ws,h,q=>by rw[reps_nil]at h;subst h;exact q
 | t::ts,us,vs,ws,h,q=>by
  rw[reps_cons]at h
  obtain⟨v,r,rfl,a,b⟩:=h
  show Reps K H (t::(ts++us)) (v::(r++ws))
  rw[reps_cons]
  exact⟨v,_,rfl,a,Reps.append b q⟩
theorem Reps.one{t:T}{v:V}(h:Rep K H t v):Reps K H [t] [v]:=by
 rw[reps_cons]
 exact⟨v,[],rfl,h,reps_nil.mpr rfl⟩
theorem Reps.cons{t:T}{v:V}{ts:List T}{vs:List V}(h:Rep K H t v)(r:Reps K H ts vs):Reps K H (t::ts) (v::vs):=by
 rw[reps_cons]
 exact⟨v,vs,rfl,h,r⟩
theorem Reps.take:∀{ts:List T}{vs:List V}(n:Nat),Reps K H ts vs->Reps K H (ts.take n) (vs.take n)
 | [],vs,n,h=>by rw[reps_nil]at h;subst h;simp[reps_nil]
 | t::ts,vs,0,h=>by simp[reps_nil]
 | t::ts,vs,n + 1,h=>by
  rw[reps_cons]at h
  obtain⟨v,r,rfl,a,b⟩:=h
  exact Reps.cons a (Reps.take n b)
theorem Reps.drop:∀{ts:List T}{vs:List V}(n:Nat),Reps K H ts vs->Reps K H (ts.drop n) (vs.drop n)
 | ts,vs,0,h=>by simpa using h
 | [],vs,n + 1,h=>by rw[reps_nil]at h;subst h;simp[reps_nil]
 | t::ts,vs,n + 1,h=>by
  rw[reps_cons]at h
  obtain⟨v,r,rfl,a,b⟩:=h
  exact Reps.drop n b
theorem reps_ints(ns:List Int):Reps K H (ns.map T.int) (ns.map V.int):=by
 induction ns with
 | nil=>exact reps_nil.mpr rfl
 | cons n r ih=>exact Reps.cons (rep_int.mpr rfl) ih
end
inductive Slot where
 | no|val (t:T)|own (ts:List T)|see (ts:List T)|dic (ps:List (Int×T))|vat (t:T) (v:V)|owd (p:Addr) (kvs:List (Key×T))
def sget:List Slot->Nat->Slot
 | [],_=>.no
 | s::_,0=>s
 | _::r,n + 1=>sget r n
def sput:List Slot->Nat->Slot->List Slot
 | [],_,_=>[]
 | _::r,0,x=>x::r
 | s::r,n + 1,x=>s::sput r n x
theorem length_sput:∀(τ:List Slot)(i:Nat)(x:Slot),(sput τ i x).length=τ.length
 | [],_,_=>rfl
 | _::_,0,_=>rfl
 | _::r,n + 1,x=>by simp[sput,length_sput r n x]
theorem sget_same:∀{τ:List Slot}{i:Nat}{x:Slot},i < τ.length->sget (sput τ i x) i=x
 | [],_,_,h=>by simp at h
 | _::_,0,_,_=>rfl
 | _::r,n + 1,x,h=>by simp only[sput,sget];exact sget_same (by simpa using h)
theorem sget_ne:∀{τ:List Slot}{i j:Nat}{x:Slot},i≠j->sget (sput τ i x) j=sget τ j
 | [],_,_,_,_=>rfl
 | _::_,0,0,_,h=>absurd rfl h
 | _::_,0,_ + 1,_,_=>rfl
 | _::_,_ + 1,0,_,_=>rfl
 | _::r,i + 1,j + 1,x,h=>by simp only[sput,sget];exact sget_ne (by omega)
theorem sget_big:∀{τ:List Slot}{i:Nat},τ.length<=i->sget τ i=.no
 | [],_,_=>rfl
 | _::r,0,h=>by simp at h
 | _::r,i + 1,h=>by simp only[sget];exact sget_big (by simpa using h)
def SlotOk(K:PySem.W.Frag)(H0 H:Hp):Slot->Option (Option V)->Prop
 | .no,_=>True
 | .val t,sv=>∃v,sv=some (some v)/\Rep K H t v
 | .own ts,sv=>∃p vs,sv=some (some (.ref p))/\H p=some (.lst vs)/\Reps K H ts vs/\H0 p=none
 | .see ts,sv=>∃p vs,sv=some (some (.ref p))/\H p=some (.lst vs)/\Reps K H ts vs/\H0 p≠none
 | .dic ps,sv=>∃(p:Addr) (o:Obj) (kvs:List (Int×V)),sv=some (some (.ref p))/\H p=some (.frz o (.dK (kvs.map toK)))/\kvs.map (·.1)=ps.map (·.1)/\Reps K H (ps.map (·.2)) (kvs.map (·.2))
 | .vat t v,sv=>sv=some (some v)/\Rep K H t v
 | .owd p kvs,sv=>sv=some (some (.ref p))/\(∃vs:List (Key×V),H p=some (.dK vs)/\vs.map (·.1)=kvs.map (·.1)/\Reps K H (kvs.map (·.2)) (vs.map (·.2)))/\H0 p=none
structure RepSt(K:PySem.W.Frag)(H0 H:Hp)(σ:St)(τ:List Slot):Prop where
 same:Same H0 H
 len:τ.length=σ.length
 slot:∀i,SlotOk K H0 H (sget τ i) (σ[i]?)
 apart:∀i j ts us p,i≠j->sget τ i=.own ts->sget τ j=.own us->σ[i]?=some (some (.ref p))->σ[j]?=some (some (.ref p))->False
section
variable {K:PySem.W.Frag} {H0 H H':Hp} {σ:St} {τ:List Slot}
theorem SlotOk.mono{s:Slot}{sv:Option (Option V)}(k:Same H H')(h:SlotOk K H0 H s sv):SlotOk K H0 H' s sv:=by
 cases s with
 | no=>trivial
 | val t=>obtain⟨v,e,r⟩:=h;exact⟨v,e,r.kp (.of k)⟩
 | own ts=>obtain⟨p,vs,e,h1,r,n⟩:=h;exact⟨p,vs,e,k _ _ h1,r.kp (.of k),n⟩
 | see ts=>obtain⟨p,vs,e,h1,r,n⟩:=h;exact⟨p,vs,e,k _ _ h1,r.kp (.of k),n⟩
 | dic ps=>obtain⟨p,o,kvs,e,h1,ek,r⟩:=h;exact⟨p,o,kvs,e,k _ _ h1,ek,r.kp (.of k)⟩
 | vat t v=>exact⟨h.1,h.2.kp (.of k)⟩
 | owd p kvs=>obtain⟨e,⟨vs,h1,ek,r⟩,n⟩:=h;exact⟨e,⟨vs,k _ _ h1,ek,r.kp (.of k)⟩,n⟩
theorem RepSt.mono(R:RepSt K H0 H σ τ)(k:Same H H'):RepSt K H0 H' σ τ :=
 ⟨R.same.trans k,R.len,fun i=>(R.slot i).mono k,R.apart⟩
theorem RepSt.put{i:Nat}{t:T}{v:V}(R:RepSt K H0 H σ τ)(r:Rep K H t v):RepSt K H0 H (σ.set i (some v)) (sput τ i (.val t)):=by
 refine⟨R.same,by rw[length_sput,List.length_set];exact R.len,fun j=>?_,fun a b ts us p hab ha hb ea eb=>?_⟩
 ·by_cases hij:i=j
  ·subst hij
   by_cases hi:i < τ.length
   ·rw[sget_same hi]
    exact⟨v,List.getElem?_set_self (by rw[← R.len];exact hi),r⟩
   ·rw[sget_big (by rw[length_sput];omega)]
    trivial
  ·rw[sget_ne hij,List.getElem?_set_ne hij]
   exact R.slot j
 ·have na:i≠a:=by
   rintro rfl
   by_cases hi:i < τ.length
   ·rw[sget_same hi]at ha;cases ha
   ·rw[sget_big (by rw[length_sput];omega)]at ha;cases ha
  have nb:i≠b:=by
   rintro rfl
   by_cases hi:i < τ.length
   ·rw[sget_same hi]at hb;cases hb
   ·rw[sget_big (by rw[length_sput];omega)]at hb;cases hb
  rw[sget_ne na]at ha
  rw[sget_ne nb]at hb
  rw[List.getElem?_set_ne na]at ea
  rw[List.getElem?_set_ne nb]at eb
  exact R.apart a b ts us p hab ha hb ea eb
theorem RepSt.putOwn{i:Nat}{ts:List T}{vs:List V}{p:Addr}(R:RepSt K H0 H σ τ)(hp:H p=none)(r:Reps K H ts vs):RepSt K H0 (upd H p (.lst vs)) (σ.set i (some (.ref p))) (sput τ i (.own ts)):=by
 have S:=same_new hp (.lst vs)
 refine⟨R.same.trans S,by rw[length_sput,List.length_set];exact R.len,fun j=>?_,fun a b ts' us q hab ha hb ea eb=>?_⟩
 ·by_cases hij:i=j
  ·subst hij
   by_cases hi:i < τ.length
   ·rw[sget_same hi]
    exact⟨p,vs,List.getElem?_set_self (by rw[← R.len];exact hi),upd_same,r.kp (.of S),R.same.free hp⟩
   ·rw[sget_big (by rw[length_sput];omega)]
    trivial
  ·rw[sget_ne hij,List.getElem?_set_ne hij]
   exact(R.slot j).mono S
 ·-- an elder own list stands at a tracked place,the new one did not
  have old:∀c ts,i≠c->sget (sput τ i (.own ts')) c=.own ts->σ[c]?≠some (some (.ref p)):=fun c ts hc hcs e=>by
   rw[sget_ne hc]at hcs
   have:=R.slot c
   rw[hcs]at this
   obtain⟨p',vs',e',h1,_⟩:=this
   rw[e]at e'
   cases e'
   rw[hp]at h1
   cases h1
  have isI:∀c,i=c->∀us,sget (sput τ i (.own ts)) c=.own us->(σ.set i (some (.ref p)))[c]?=some (some (.ref p)):=fun c hc us hcs=>by
   subst hc
   by_cases hi:i < τ.length
   ·exact List.getElem?_set_self (by rw[← R.len];exact hi)
   ·rw[sget_big (by rw[length_sput];omega)]at hcs;cases hcs
  by_cases ia:i=a
  ·have z:=isI a ia _ ha
   rw[z]at ea
   cases ea
   have ib:i≠b:=fun e=>hab (ia.symm.trans e)
   rw[List.getElem?_set_ne ib]at eb
   refine old b us ib ?_ eb
   rw[sget_ne ib]at hb ⊢
   exact hb
  ·rw[List.getElem?_set_ne ia]at ea
   by_cases ib:i=b
   ·have z:=isI b ib _ hb
    rw[z]at eb
    cases eb
    refine old a ts' ia ?_ ea
    rw[sget_ne ia]at ha ⊢
    exact ha
   ·rw[List.getElem?_set_ne ib]at eb
    rw[sget_ne ia]at ha
    rw[sget_ne ib]at hb
    exact R.apart a b ts' us q hab ha hb ea eb
theorem RepSt.write{i:Nat}{ts ts2:List T}{vs2:List V}{p:Addr}{xs:List V}(R:RepSt K H0 H σ τ)(hs:sget τ i=.own ts)(hσ:σ[i]?=some (some (.ref p)))(hp:H p=some (.lst xs))(r:Reps K H ts2 vs2) :
  RepSt K H0 (upd H p (.lst vs2)) σ (sput τ i (.own ts2)):=by
 have k:=Kp.write hp (.lst vs2)
 have n0:H0 p=none:=by
  have:=R.slot i
  rw[hs]at this
  obtain⟨p',vs',e',_,_,n⟩:=this
  rw[hσ]at e'
  cases e'
  exact n
 have hi:i < τ.length:=by
  by_cases hi:i < τ.length
  ·exact hi
  ·rw[sget_big (by omega)]at hs;cases hs
 refine⟨fun b o h=>?_,by rw[length_sput];exact R.len,fun j=>?_,fun a b ts' us q hab ha hb ea eb=>?_⟩
 ·have:=R.same b o h
  rw[upd_ne (by rintro rfl;rw[n0]at h;cases h)]
  exact this
 ·by_cases hij:i=j
  ·subst hij
   rw[sget_same hi]
   exact⟨p,vs2,hσ,upd_same,r.kp k,n0⟩
  ·rw[sget_ne hij]
   have sl:=R.slot j
   cases e:sget τ j with
   | no=>trivial
   | val t=>rw[e]at sl;obtain⟨v,e1,r1⟩:=sl;exact⟨v,e1,r1.kp k⟩
   | dic ps=>rw[e]at sl;obtain⟨q,o,kvs,e1,h1,ek,r1⟩:=sl;exact⟨q,o,kvs,e1,k.frz _ _ _ h1,ek,r1.kp k⟩
   | vat t v=>rw[e]at sl;exact⟨sl.1,sl.2.kp k⟩
   | owd q kvs=>rw[e]at sl;obtain⟨e1,⟨ws,h1,ek,r1⟩,n1⟩:=sl;exact⟨e1,⟨ws,by rw[upd_ne (by rintro rfl;rw[hp]at h1;cases h1)];exact h1,ek,r1.kp k⟩,n1⟩
   | own us =>
    rw[e]at sl
    obtain⟨q,ws,e1,h1,r1,n1⟩:=sl
    have nq:q≠p:=by rintro rfl;exact R.apart i j ts us q hij hs e hσ e1
    exact⟨q,ws,e1,by rw[upd_ne nq];exact h1,r1.kp k,n1⟩
   | see us =>
    rw[e]at sl
    obtain⟨q,ws,e1,h1,r1,n1⟩:=sl
    have nq:q≠p:=by rintro rfl;exact n1 n0
    exact⟨q,ws,e1,by rw[upd_ne nq];exact h1,r1.kp k,n1⟩
 ·have old:∀c us,sget (sput τ i (.own ts2)) c=.own us->∃us',sget τ c=.own us':=fun c us h=>by
   by_cases hc:i=c
   ·subst hc;exact⟨ts,hs⟩
   ·rw[sget_ne hc]at h;exact⟨us,h⟩
  obtain⟨u1,h1⟩:=old a _ ha
  obtain⟨u2,h2⟩:=old b _ hb
  exact R.apart a b u1 u2 q hab h1 h2 ea eb
theorem RepSt.freeze{i:Nat}{ts:List T}{vs:List V}{p:Addr}{o:Obj}(R:RepSt K H0 H σ τ)(hs:sget τ i=.own ts)(hσ:σ[i]?=some (some (.ref p)))(hp:H p=some (.lst vs))(r:Reps K H ts vs) :
  RepSt K H0 (upd H p (.frz o (.lst vs))) σ (sput τ i (.val (.lst ts))):=by
 have k:=Kp.write hp (.frz o (.lst vs))
 have n0:H0 p=none:=by
  have:=R.slot i
  rw[hs]at this
  obtain⟨p',vs',e',_,_,n⟩:=this
  rw[hσ]at e'
  cases e'
  exact n
 have hi:i < τ.length:=by
  by_cases hi:i < τ.length
  ·exact hi
  ·rw[sget_big (by omega)]at hs;cases hs
 refine⟨fun b o' h=>?_,by rw[length_sput];exact R.len,fun j=>?_,fun a b ts' us q hab ha hb ea eb=>?_⟩
 ·have:=R.same b o' h
  rw[upd_ne (by rintro rfl;rw[n0]at h;cases h)]
  exact this
 ·by_cases hij:i=j
  ·subst hij
   rw[sget_same hi]
   exact⟨.ref p,hσ,rep_lst.mpr ⟨p,vs,rfl,.inl ⟨o,upd_same⟩,r.kp k⟩⟩
  ·rw[sget_ne hij]
   have sl:=R.slot j
   cases e:sget τ j with
   | no=>trivial
   | val t=>rw[e]at sl;obtain⟨v,e1,r1⟩:=sl;exact⟨v,e1,r1.kp k⟩
   | dic ps=>rw[e]at sl;obtain⟨q,o,kvs,e1,h1,ek,r1⟩:=sl;exact⟨q,o,kvs,e1,k.frz _ _ _ h1,ek,r1.kp k⟩
   | vat t v=>rw[e]at sl;exact⟨sl.1,sl.2.kp k⟩
   | owd q kvs=>rw[e]at sl;obtain⟨e1,⟨ws,h1,ek,r1⟩,n1⟩:=sl;exact⟨e1,⟨ws,by rw[upd_ne (by rintro rfl;rw[hp]at h1;cases h1)];exact h1,ek,r1.kp k⟩,n1⟩
   | own us =>
    rw[e]at sl
    obtain⟨q,ws,e1,h1,r1,n1⟩:=sl
    have nq:q≠p:=by rintro rfl;exact R.apart i j ts us q hij hs e hσ e1
    exact⟨q,ws,e1,by rw[upd_ne nq];exact h1,r1.kp k,n1⟩
   | see us =>
    rw[e]at sl
    obtain⟨q,ws,e1,h1,r1,n1⟩:=sl
    have nq:q≠p:=by rintro rfl;exact n1 n0
    exact⟨q,ws,e1,by rw[upd_ne nq];exact h1,r1.kp k,n1⟩
 ·have na:i≠a:=by
   rintro rfl
   rw[sget_same hi]at ha
   cases ha
  have nb:i≠b:=by
   rintro rfl
   rw[sget_same hi]at hb
   cases hb
  rw[sget_ne na]at ha
  rw[sget_ne nb]at hb
  exact R.apart a b ts' us q hab ha hb ea eb
end
abbrev WE:=List Slot->(T->Prop)->Prop
abbrev WT:=List Slot->(Bool->Prop)->Prop
abbrev WA:=List Slot->(List T->Prop)->Prop
structure DT where
 nx:List Slot->Prop
 rt:T->Prop
 bk:List Slot->Prop:=fun _=>False
 ct:List Slot->Prop:=fun _=>False
abbrev WS:=DT->List Slot->Prop
def up(K:PySem.W.Frag)(H0:Hp)(w:WE):TE:=fun σ H Q=>∃(τ:List Slot) (Q0:T->Prop),RepSt K H0 H σ τ/\w τ Q0/\∀t v H',Same H H'->Rep K H' t v->Q0 t->Q v H'
def upT(K:PySem.W.Frag)(H0:Hp)(w:WT):TT:=fun σ H Q=>∃(τ:List Slot) (Q0:Bool->Prop),RepSt K H0 H σ τ/\w τ Q0/\∀b H',Same H H'->Q0 b->Q b H'
def upA(K:PySem.W.Frag)(H0:Hp)(w:WA):TA:=fun σ H Q=>∃(τ:List Slot) (Q0:List T->Prop),RepSt K H0 H σ τ/\w τ Q0/\∀ts vs H',Same H H'->Reps K H' ts vs->Q0 ts->Q vs H'
def upS(K:PySem.W.Frag)(H0:Hp)(w:WS):TS:=fun D σ H=>∃(τ:List Slot) (D0:DT),RepSt K H0 H σ τ/\w D0 τ ∧
 (∀τ' σ' H',Kp H H'->RepSt K H0 H' σ' τ'->D0.nx τ'->D.nx σ' H')/\(∀t v H',Same H0 H'->Rep K H' t v->D0.rt t->D.rt v H') ∧
 (∀τ' σ' H',Kp H H'->RepSt K H0 H' σ' τ'->D0.bk τ'->D.bk σ' H')/\(∀τ' σ' H',Kp H H'->RepSt K H0 H' σ' τ'->D0.ct τ'->D.ct σ' H')
def JE(X:Cx)(e:Expr)(w:WE):Prop:=PE X e (up X.K X.H₀ w)
def JT(X:Cx)(e:Expr)(w:WT):Prop:=PT X e (upT X.K X.H₀ w)
def JA(X:Cx)(es:List Expr)(w:WA):Prop:=PA X es (upA X.K X.H₀ w)
def JS(X:Cx)(st:Stmt)(w:WS):Prop:=PS X st (upS X.K X.H₀ w)
def JSs(X:Cx)(st:List Stmt)(w:WS):Prop:=PSs X st (upS X.K X.H₀ w)
theorem pe_of{X:Cx}{e:Expr}{t t':TE}(h:PE X e t)(f:∀σ H Q,t' σ H Q->t σ H Q):PE X e t':=fun pins s σ H Q I hw=>h pins s σ H Q I (f σ H Q hw)
theorem pt_of{X:Cx}{e:Expr}{t t':TT}(h:PT X e t)(f:∀σ H Q,t' σ H Q->t σ H Q):PT X e t':=fun pins s σ H Q I hw=>h pins s σ H Q I (f σ H Q hw)
theorem pw_of{X:Cx}{e:Expr}{t t':TT}(h:PW X e t)(f:∀σ H Q,t' σ H Q->t σ H Q):PW X e t':=fun wh pins s σ H Q I hw=>h wh pins s σ H Q I (f σ H Q hw)
theorem pa_of{X:Cx}{es:List Expr}{t t':TA}(h:PA X es t)(f:∀σ H Q,t' σ H Q->t σ H Q):PA X es t':=fun pos pins s σ H Q I hw=>h pos pins s σ H Q I (f σ H Q hw)
theorem ps_of{X:Cx}{st:Stmt}{t t':TS}(h:PS X st t)(f:∀D σ H,t' D σ H->t D σ H):PS X st t':=fun pins s σ H D I hw=>h pins s σ H D I (f D σ H hw)
theorem pss_of{X:Cx}{st:List Stmt}{t t':TS}(h:PSs X st t)(f:∀D σ H,t' D σ H->t D σ H):PSs X st t':=fun pins s σ H D I hw=>h pins s σ H D I (f D σ H hw)
end TL
end
section
namespace TL
open PySem PySem.Spec PyProof.Rows L2
section
variable {X:Cx} {a b c e:Expr} {es:List Expr} {wa wb wc w:WE} {pos:Pos}
def wVar(i:Nat):WE:=fun τ Q=>match sget τ i with | .val t=>Q t | .vat t _=>Q t|_=>False
def wC(t:T):WE:=fun _ Q=>Q t
theorem je_of_var{i:Nat}(h:PE X e (tVar i)):JE X e (wVar i):=pe_of h fun σ H Q ⟨τ,Q0,R,hw,k⟩=>by
 have s:=R.slot i
 unfold wVar at hw
 cases z:sget τ i with
 | no=>rw[z]at hw;exact hw.elim
 | own ts=>rw[z]at hw;exact hw.elim
 | see ts=>rw[z]at hw;exact hw.elim
 | dic ts=>rw[z]at hw;exact hw.elim
 | owd p q=>rw[z]at hw;exact hw.elim
 | vat t v =>
  rw[z]at hw s
  exact⟨v,s.1,k t v H (.refl H) s.2 hw⟩
 | val t =>
  rw[z]at hw s
  obtain⟨v,ev,r⟩:=s
  exact⟨v,ev,k t v H (.refl H) r hw⟩
theorem jv(i:Nat){x:Str}{pos:Pos}(hN:X.N[i]?=some x:=by rfl)(hv:Vis X.env.scope x:=by first|exact Or.inl rfl|exact Or.inr (Or.inl rfl)|exact Or.inr (Or.inr rfl)) (hd:(x==("__debug__" : Str))=false:=by decide)
  (hcd:(x==("__classdict__" : Str))=false:=by decide):JE X (.Name x pos) (wVar i):=je_of_var (pe_var hN hv hd hcd)
theorem je_const{v:V}{t:T}(h:PE X e (tC v))(r:∀H,Rep X.K H t v):JE X e (wC t):=pe_of h fun σ H Q ⟨τ,Q0,R,hw,k⟩=>k t v H (.refl H) (r H) hw
theorem ji{i j pos}:JE X (.Constant (.int i) j pos) (wC (.int i)):=je_const pe_int fun _=>rep_int.mpr rfl
theorem jb{b j pos}:JE X (.Constant (.bool b) j pos) (wC (.bl b)):=je_const pe_bl fun _=>rep_bl.mpr rfl
theorem jn{j pos}:JE X (.Constant .none j pos) (wC .non):=je_const pe_non fun _=>rep_non.mpr rfl
theorem js{x j pos}:JE X (.Constant (.str x) j pos) (wC (.str x)):=je_const pe_str fun _=>rep_str.mpr rfl
theorem jglob{x:Str}{v:V}{u:Value}{t:T}{pos:Pos}(hg:Gl X x)(hm:X.mg x=some u)(r:RelV v u)(q:∀H,Rep X.K H t v) (hd:(x==("__debug__" : Str))=false:=by decide):JE X (.Name x pos) (wC t) :=
 je_const (pe_glob hg hm r hd) q
def w2(r:T->T->(T->Prop)->Prop)(wa wb:WE):WE:=fun τ Q=>wa τ fun x=>wb τ fun y=>r x y Q
def BR(X:Cx)(op:Operator)(rT:T->T->(T->Prop)->Prop):Prop:=∃r:R2,OpR X (binaryOp op) r/\∀t1 t2 v1 v2 H (Q0:T->Prop) (Q:VK),Rep X.K H t1 v1->Rep X.K H t2 v2->rT t1 t2 Q0 →
 (∀t v H',Same H H'->Rep X.K H' t v->Q0 t->Q v H')->r v1 v2 H Q
theorem up2{r:R2}{rT:T->T->(T->Prop)->Prop}{K:PySem.W.Frag}{H0:Hp} (br:∀t1 t2 v1 v2 H (Q0:T->Prop) (Q:VK),Rep K H t1 v1->Rep K H t2 v2->rT t1 t2 Q0 →
  (∀t v H',Same H H'->Rep K H' t v->Q0 t->Q v H')->r v1 v2 H Q) (σ:St) (H:Hp) (Q:VK) (h:up K H0 (w2 rT wa wb) σ H Q):tOp r (up K H0 wa) (up K H0 wb) σ H Q:=by
 obtain⟨τ,Q0,R,hw,k⟩:=h
 exact⟨τ,_,R,hw,fun t1 v1 H1 S1 r1 q1=>⟨τ,_,R.mono S1,q1,fun t2 v2 H2 S2 r2 q2=>br t1 t2 v1 v2 H2 Q0 Q (r1.kp (.of S2)) r2 q2 fun t v H' S3 r q=>k t v H' (S1.trans (S2.trans S3)) r q⟩⟩
theorem jop{op:Operator}{rT:T->T->(T->Prop)->Prop}(h:BR X op rT)(ha:JE X a wa)(hb:JE X b wb):JE X (.BinOp a op b pos) (w2 rT wa wb):=by
 obtain⟨r,ho,br⟩:=h
 exact pe_of (pe_op ho ha hb) (up2 br)
def rAddT(x y:T)(Q:T->Prop):Prop:=match x,y with | .int i,.int j=>Q (.int (i + j))|_,_=>False
def rSubT(x y:T)(Q:T->Prop):Prop:=match x,y with | .int i,.int j=>Q (.int (i - j))|_,_=>False
def Lim(n:Nat)(i:Int):Prop:=i.natAbs < 10 ^ n
def MulOk(i j:Int):Prop:=(∃m n,m<=100000/\n<=100000/\Lim m i/\Lim n j)∨Lim 19 i∨Lim 19 j
def DivOk(j:Int):Prop:=j≠0/\∃n,n<=2200/\Lim n j
def rMulT(x y:T)(Q:T->Prop):Prop:=match x,y with | .int i,.int j=>MulOk i j/\Q (.int (i * j))|_,_=>False
def rDivT(x y:T)(Q:T->Prop):Prop:=match x,y with | .int i,.int j=>DivOk j/\Q (.int (i.fdiv j))|_,_=>False
def rModT(x y:T)(Q:T->Prop):Prop:=match x,y with | .int i,.int j=>j≠0/\Q (.int (i.fmod j))|_,_=>False
def rPowT(x y:T)(Q:T->Prop):Prop:=match x,y with | .int i,.int j=>CPow i j/\Q (.int (i ^ j.toNat))|_,_=>False
theorem br_int{op:Operator}{C:Int->Int->Prop}{g:Int->Int->Int}(h:OpR X (binaryOp op) (rI C fun i j=>.int (g i j))) :
  BR X op (fun x y Q=>match x,y with | .int i,.int j=>C i j/\Q (.int (g i j))|_,_=>False):=by
 refine⟨_,h,fun t1 t2 v1 v2 H Q0 Q r1 r2 q k=>?_⟩
 cases t1<;>cases t2<;>first|exact q.elim|skip
 rename_i i j
 exact⟨i,j,rep_int.mp r1,rep_int.mp r2,q.1,k _ _ H (.refl H) (rep_int.mpr rfl) q.2⟩
theorem br_int0{op:Operator}{g:Int->Int->Int}(h:OpR X (binaryOp op) (rI0 fun i j=>.int (g i j))) :
  BR X op (fun x y Q=>match x,y with | .int i,.int j=>Q (.int (g i j))|_,_=>False):=by
 refine⟨_,h,fun t1 t2 v1 v2 H Q0 Q r1 r2 q k=>?_⟩
 cases t1<;>cases t2<;>first|exact q.elim|skip
 rename_i i j
 exact⟨i,j,rep_int.mp r1,rep_int.mp r2,k _ _ H (.refl H) (rep_int.mpr rfl) q⟩
theorem b_add:BR X .Add rAddT:=br_int0 op_add
theorem b_sub:BR X .Sub rSubT:=br_int0 op_sub
theorem log2_of_lim{n:Nat}{i:Int}(h:Lim n i):i.natAbs.log2 < 4 * n + 1:=by
 by_cases h0:i.natAbs=0
 ·rw[h0];simp
 ·rw[Nat.log2_lt h0]
  have h1:(10:Nat) ^ n<=16 ^ n:=Nat.pow_le_pow_left (by decide) n
  have h2:(16:Nat) ^ n=2 ^ (4 * n):=by rw[show (16:Nat)=2 ^ 4 from rfl,← Nat.pow_mul]
  have h3:(2:Nat) ^ (4 * n + 1)=2 ^ (4 * n) * 2:=Nat.pow_succ ..
  have h4:i.natAbs < 10 ^ n:=h
  have h5:0 < (2:Nat) ^ (4 * n):=Nat.pos_of_ne_zero (by simp)
  omega
theorem bits_of_lim{n:Nat}{i:Int}(h:Lim n i)(hn:n<=100000):Builtin.Int.intBits i<=2 ^ 20:=by
 have:=log2_of_lim h
 have e:(2:Nat) ^ 20=1048576:=by decide
 unfold Builtin.Int.intBits
 split<;>omega
theorem bits_of_19{i:Int}(h:Lim 19 i):Builtin.Int.intBits i<=64:=by
 unfold Lim at h
 have h2:i.natAbs < 2 ^ 64:=Nat.lt_of_lt_of_le h (by decide)
 unfold Builtin.Int.intBits
 split
 ·omega
 ·rename_i z
  have:=(Nat.log2_lt (n:=i.natAbs) (k:=64) (by simpa using z)).mpr h2
  omega
theorem MulOk.ok{i j:Int}(h:MulOk i j):IntMulOk i j:=by
 rcases h with ⟨m,n,hm,hn,a,b⟩|a|b
 ·exact .of_bits (bits_of_lim a hm) (bits_of_lim b hn)
 ·exact .of_left (bits_of_19 a)
 ·exact .of_right (bits_of_19 b)
theorem DivOk.ok{i j:Int}(h:DivOk j):Builtin.divisionGoesByPylong i j=false:=by
 obtain⟨_,n,hn,a⟩:=h
 have:=log2_of_lim a
 exact PyProof.noPylong_of_log2 (by omega)
theorem b_mul:BR X .Mult rMulT:=br_int (C:=MulOk) (opI fun _ _ _ _ _ _ _ hc q=>mul_int q hc.ok)
theorem b_div:BR X .FloorDiv rDivT:=br_int (C:=fun _ j=>DivOk j) (opI fun _ _ _ _ _ _ _ hc q=>floordiv_int hc.1 q (.inl hc.ok))
theorem b_mod:BR X .Mod rModT:=br_int (C:=fun _ j=>j≠0) op_modN
theorem b_pow:BR X .Pow rPowT:=br_int (C:=CPow) op_pow
def wNeg(wa:WE):WE:=fun τ Q=>wa τ fun x=>match x with | .int i=>Q (.int (-i))|_=>False
theorem jneg(ha:JE X a wa):JE X (.UnaryOp .USub a pos) (wNeg wa):=pe_of (pe_un un_neg ha) fun σ H Q ⟨τ,Q0,R,hw,k⟩=>⟨τ,_,R,hw,fun t v H1 S1 r1 q1=>by
 cases t<;>first|exact q1.elim|skip
 rename_i i
 exact⟨i,rep_int.mp r1,k _ _ H1 S1 (rep_int.mpr rfl) q1⟩⟩
def CRT(X:Cx)(op:CmpOp)(cT:T->T->(Bool->Prop)->Prop):Prop:=∃r:R2,OpR X (compareOp op) r/\∀t1 t2 v1 v2 H (Q0:Bool->Prop) (Q:VK),Rep X.K H t1 v1->Rep X.K H t2 v2->cT t1 t2 Q0 →
 (∀b,Q0 b->Q (.bl b) H)->r v1 v2 H Q
def wCmp(cT:T->T->(Bool->Prop)->Prop)(wa wb:WE):WE:=fun τ Q=>wa τ fun x=>wb τ fun y=>cT x y fun b=>Q (.bl b)
def tCmpT(cT:T->T->(Bool->Prop)->Prop)(wa wb:WE):WT:=fun τ Q=>wa τ fun x=>wb τ fun y=>cT x y Q
theorem jcmp{op:CmpOp}{cT:T->T->(Bool->Prop)->Prop}(h:CRT X op cT)(ha:JE X a wa)(hb:JE X b wb)(hm:behindInMarks op b=false):JE X (.Compare a [op] [b] pos) (wCmp cT wa wb):=by
 obtain⟨r,ho,br⟩:=h
 refine pe_of (pe_cmpR ho ha hb hm) fun σ H Q ⟨τ,Q0,R,hw,k⟩=>?_
 exact⟨τ,_,R,hw,fun t1 v1 H1 S1 r1 q1=>⟨τ,_,R.mono S1,q1,fun t2 v2 H2 S2 r2 q2=>br t1 t2 v1 v2 H2 _ Q (r1.kp (.of S2)) r2 q2 fun b q=>k _ _ H2 (S1.trans S2) (rep_bl.mpr rfl) q⟩⟩
theorem tcmp{op:CmpOp}{cT:T->T->(Bool->Prop)->Prop}(h:CRT X op cT)(ha:JE X a wa)(hb:JE X b wb)(hm:behindInMarks op b=false):JT X (.Compare a [op] [b] pos) (tCmpT cT wa wb):=by
 obtain⟨r,ho,br⟩:=h
 refine pt_of (pt_cmpR ho ha hb hm) fun σ H Q ⟨τ,Q0,R,hw,k⟩=>?_
 exact⟨τ,_,R,hw,fun t1 v1 H1 S1 r1 q1=>⟨τ,_,R.mono S1,q1,fun t2 v2 H2 S2 r2 q2=>br t1 t2 v1 v2 H2 _ _ (r1.kp (.of S2)) r2 q2 fun b q=>⟨b,rfl,k _ H2 (S1.trans S2) q⟩⟩⟩
def cLtT(x y:T)(Q:Bool->Prop):Prop:=match x,y with | .int i,.int j=>Q (decide (i < j))|_,_=>False
def cLeT(x y:T)(Q:Bool->Prop):Prop:=match x,y with | .int i,.int j=>Q (decide (i<=j))|_,_=>False
def cGtT(x y:T)(Q:Bool->Prop):Prop:=match x,y with | .int i,.int j=>Q (decide (j < i))|_,_=>False
def cGeT(x y:T)(Q:Bool->Prop):Prop:=match x,y with | .int i,.int j=>Q (decide (j<=i))|_,_=>False
theorem cr_int{op:CmpOp}{g:Int->Int->Bool}(h:OpR X (compareOp op) (rI0 fun i j=>.bl (g i j))) :
  CRT X op (fun x y Q=>match x,y with | .int i,.int j=>Q (g i j)|_,_=>False):=by
 refine⟨_,h,fun t1 t2 v1 v2 H Q0 Q r1 r2 q k=>?_⟩
 cases t1<;>cases t2<;>first|exact q.elim|skip
 rename_i i j
 exact⟨i,j,rep_int.mp r1,rep_int.mp r2,k _ q⟩
theorem c_lt:CRT X .Lt cLtT:=cr_int op_lt
theorem c_le:CRT X .LtE cLeT:=cr_int op_le
theorem c_gt:CRT X .Gt cGtT:=cr_int op_gt
theorem c_ge:CRT X .GtE cGeT:=cr_int op_ge
mutual
def eqT:T->T->Bool
 | .non,.non=>true
 | .bl a,.bl b=>a==b
 | .bl a,.int b=>decide ((if a then 1 else 0)=b)
 | .int a,.bl b=>decide (a=(if b then 1 else 0))
 | .int a,.int b=>decide (a=b)
 | .str a,.str b=>a==b
 | .tup xs,.tup ys=>eqTs xs ys
 | .lst xs,.lst ys=>eqTs xs ys
 | _,_=>false
def eqTs:List T->List T->Bool
 | [],[]=>true
 | x::xs,y::ys=>eqT x y&&eqTs xs ys
 | _,_=>false
end
theorem eqTb(a b:Bool):eqT (.bl a) (.bl b)=(a==b):=rfl
theorem eqTe(a b:Int):eqT (.int a) (.int b)=decide (a=b):=rfl
theorem eqTf(a b:Str):eqT (.str a) (.str b)=(a==b):=rfl
theorem eqTg(a b:List T):eqT (.tup a) (.tup b)=eqTs a b:=rfl
theorem eqTh(a b:List T):eqT (.lst a) (.lst b)=eqTs a b:=rfl
theorem eqTj(x y:T)(xs ys:List T):eqTs (x::xs) (y::ys)=(eqT x y&&eqTs xs ys):=rfl
mutual
def pd:T->PyData
 | .non=>.none
 | .bl b=>.bool b
 | .int i=>.int i
 | .str x=>.str x
 | .tup ts=>.tuple (pds ts)
 | .lst ts=>.list (pds ts)
 | .dct=>.dict []
 | .exc _=>.dict []
 | .exf _ _ _=>.dict []
 | .dic _ _=>.dict []
def pds:List T->List PyData
 | []=>[]
 | t::ts=>pd t::pds ts
end
mutual
theorem eqT_pd:∀x y:T,PyData.eqv (pd x) (pd y)=eqT x y
 | .tup xs,.tup ys=>by simp only[pd,PyData.eqv,eqTg,eqTh];exact eqTs_pd xs ys
 | .lst xs,.lst ys=>by simp only[pd,PyData.eqv,eqTg,eqTh];exact eqTs_pd xs ys
 | .non,y=>by cases y<;>simp only[pd,PyData.eqv]<;>rfl
 | .bl _,y=>by cases y<;>simp only[pd,PyData.eqv]<;>rfl
 | .int _,y=>by cases y<;>simp only[pd,PyData.eqv]<;>rfl
 | .str _,y=>by cases y<;>simp only[pd,PyData.eqv]<;>rfl
 | .tup _,.non=>by simp only[pd,PyData.eqv]<;>rfl
 | .tup _,.bl _=>by simp only[pd,PyData.eqv]<;>rfl
 | .tup _,.int _=>by simp only[pd,PyData.eqv]<;>rfl
 | .tup _,.str _=>by simp only[pd,PyData.eqv]<;>rfl
 | .tup _,.lst _=>by simp only[pd,PyData.eqv]<;>rfl
 | .tup _,.dct=>by simp only[pd,PyData.eqv]<;>rfl
 | .tup _,.exc _=>by simp only[pd,PyData.eqv]<;>rfl
 | .tup _,.exf _ _ _=>by simp only[pd,PyData.eqv]<;>rfl
 | .tup _,.dic _ _=>by simp only[pd,PyData.eqv]<;>rfl
 | .lst _,.dct=>by simp only[pd,PyData.eqv]<;>rfl
 | .lst _,.exc _=>by simp only[pd,PyData.eqv]<;>rfl
 | .lst _,.exf _ _ _=>by simp only[pd,PyData.eqv]<;>rfl
 | .lst _,.dic _ _=>by simp only[pd,PyData.eqv]<;>rfl
 | .dct,y=>by cases y<;>simp only[pd,PyData.eqv]<;>rfl
 | .exc _,y=>by cases y<;>simp only[pd,PyData.eqv]<;>rfl
 | .exf _ _ _,y=>by cases y<;>simp only[pd,PyData.eqv]<;>rfl
 | .dic _ _,y=>by cases y<;>simp only[pd,PyData.eqv]<;>rfl
 | .lst _,.non=>by simp only[pd,PyData.eqv]<;>rfl
 | .lst _,.bl _=>by simp only[pd,PyData.eqv]<;>rfl
 | .lst _,.int _=>by simp only[pd,PyData.eqv]<;>rfl
 | .lst _,.str _=>by simp only[pd,PyData.eqv]<;>rfl
 | .lst _,.tup _=>by simp only[pd,PyData.eqv]<;>rfl
theorem eqTs_pd:∀xs ys:List T,PyData.eqvAll (pds xs) (pds ys)=eqTs xs ys
 | [],[]=>by simp only[pds,PyData.eqvAll]<;>rfl
 | [],_::_=>by simp only[pds,PyData.eqvAll]<;>rfl
 | _::_,[]=>by simp only[pds,PyData.eqvAll]<;>rfl
 | x::xs,y::ys=>by simp only[pds,PyData.eqvAll,eqTj];rw[eqT_pd x y,eqTs_pd xs ys]
end
def plain(t:T):Bool:=(pd t).canLay0
def dep(t:T):Nat:=(pd t).depth
mutual
theorem reads_of{pins:List (Addr×Obj)}{s:Shared}{σ:St}{H:Hp}(I:Inv X pins σ H s):∀{t:T}{v:V}{u:Value},plain t=true->Rep X.K H t v->RelV v u->∃as,Reads s.heap u (pd t) as
 | .non,v,u,hp,r,q=>by rw[rep_non]at r;subst r;cases q;exact⟨_,.none⟩
 | .bl b,v,u,hp,r,q=>by rw[rep_bl]at r;subst r;cases q;exact⟨_,.bool b⟩
 | .int i,v,u,hp,r,q=>by rw[rep_int]at r;subst r;obtain⟨t,rfl⟩:=q;exact⟨_,.int i t⟩
 | .str x,v,u,hp,r,q=>by rw[rep_str]at r;subst r;obtain⟨t,rfl⟩:=q;exact⟨_,.str x t⟩
 | .tup ts,v,u,hp,r,q=>by
  rw[rep_tup]at r
  obtain⟨p,vs,rfl,sq,rr⟩:=r
  cases q
  obtain⟨its,rv,⟨o,ho,hc,n,hd⟩,_⟩:=I.tuple sq
  obtain⟨as,ra⟩:=readss_of I (show PyData.canLayAll0 (pds ts)=true from by simpa [plain,pd,PyData.canLay0] using hp) rr rv
  exact⟨_,.tuple ho hc hd (by simpa using ra)⟩
 | .lst ts,v,u,hp,r,q=>by
  rw[rep_lst]at r
  obtain⟨p,vs,rfl,sq,rr⟩:=r
  cases q
  obtain⟨its,rv,pl,_⟩:=I.list sq.sq
  obtain⟨o,ho,hc,n,hd⟩:=pl.isList
  obtain⟨as,ra⟩:=readss_of I (show PyData.canLayAll0 (pds ts)=true from by simpa [plain,pd,PyData.canLay0] using hp) rr rv
  exact⟨_,.list ho hc hd (by simpa using ra)⟩
 | .dct,v,u,hp,r,q=>by simp[plain,pd,PyData.canLay0]at hp
 | .exc _,v,u,hp,r,q=>by simp[plain,pd,PyData.canLay0]at hp
 | .exf _ _ _,v,u,hp,r,q=>by simp[plain,pd,PyData.canLay0]at hp
 | .dic _ _,v,u,hp,r,q=>by simp[plain,pd,PyData.canLay0]at hp
theorem readss_of{pins:List (Addr×Obj)}{s:Shared}{σ:St}{H:Hp}(I:Inv X pins σ H s):∀{ts:List T}{vs:List V}{us:List Value},PyData.canLayAll0 (pds ts)=true->Reps X.K H ts vs->Vals vs us->∃as,ReadsAll s.heap us (pds ts) as
 | [],vs,us,hp,r,q=>by rw[reps_nil]at r;subst r;cases q;exact⟨_,.nil⟩
 | t::ts,vs,us,hp,r,q=>by
  have hp':((pd t).canLay0&&PyData.canLayAll0 (pds ts))=true:=hp
  rw[Bool.and_eq_true]at hp'
  rw[reps_cons]at r
  obtain⟨v,vr,rfl,r1,r2⟩:=r
  cases q with
  | cons q1 q2 =>
   obtain⟨as,a1⟩:=reads_of I hp'.1 r1 q1
   obtain⟨bs,a2⟩:=readss_of I hp'.2 r2 q2
   exact⟨_,.cons a1 a2⟩
end
def EqOk(x y:T):Prop:=plain x=true/\plain y=true/\min (dep x) (dep y)<=60
def cEqT(x y:T)(Q:Bool->Prop):Prop:=match x,y with
 | .int i,.int j=>Q (decide (i=j))
 | x,y=>EqOk x y/\Q (eqT x y)
def cNeT(x y:T)(Q:Bool->Prop):Prop:=match x,y with
 | .int i,.int j=>Q (!decide (i=j))
 | x,y=>EqOk x y/\Q (!eqT x y)
theorem ok_ints(i j:Int):EqOk (.int i) (.int j):=by
 refine⟨by simp[plain,pd,PyData.canLay0],by simp[plain,pd,PyData.canLay0],by simp[dep,pd,PyData.depth]⟩
theorem cEqT_gen{x y:T}{Q:Bool->Prop}(h:cEqT x y Q):EqOk x y/\Q (eqT x y):=by
 unfold cEqT at h
 split at h
 ·exact⟨ok_ints _ _,by simpa only [eqTe] using h⟩
 ·exact h
theorem cNeT_gen{x y:T}{Q:Bool->Prop}(h:cNeT x y Q):EqOk x y/\Q (!eqT x y):=by
 unfold cNeT at h
 split at h
 ·exact⟨ok_ints _ _,by simpa only [eqTe] using h⟩
 ·exact h
theorem c_eq{k:Nat}(hr:Room k X.A):CRT X .Eq cEqT:=by
 refine⟨fun x y H Q=>∃t1 t2,Rep X.K H t1 x/\Rep X.K H t2 y/\EqOk t1 t2/\Q (.bl (eqT t1 t2)) H,?_,fun t1 t2 v1 v2 H Q0 Q r1 r2 q k=>?_⟩
 ·intro pins s σ H x y v u Q I rx ry h
  obtain⟨t1,t2,r1,r2,⟨p1,p2,hd⟩,q⟩:=h
  obtain⟨as,a1⟩:=reads_of I p1 r1 rx
  obtain⟨bs,a2⟩:=reads_of I p2 r2 ry
  have hu:=hr.units
  have hd':min (pd t1).depth (pd t2).depth<=60:=hd
  refine SeqAt.compareEq_reads a1 a2 p1 p2 (by omega) ⟨.bl _,H,I,rfl,?_⟩
  rw[eqT_pd]
  exact q
 ·obtain⟨ok,q⟩:=cEqT_gen q
  exact⟨t1,t2,r1,r2,ok,k _ q⟩
theorem c_ne{k:Nat}(hr:Room k X.A):CRT X .NotEq cNeT:=by
 refine⟨fun x y H Q=>∃t1 t2,Rep X.K H t1 x/\Rep X.K H t2 y/\EqOk t1 t2/\Q (.bl (!eqT t1 t2)) H,?_,fun t1 t2 v1 v2 H Q0 Q r1 r2 q k=>?_⟩
 ·intro pins s σ H x y v u Q I rx ry h
  obtain⟨t1,t2,r1,r2,⟨p1,p2,hd⟩,q⟩:=h
  obtain⟨as,a1⟩:=reads_of I p1 r1 rx
  obtain⟨bs,a2⟩:=reads_of I p2 r2 ry
  have hu:=hr.units
  have hd':min (pd t1).depth (pd t2).depth<=60:=hd
  refine SeqAt.compareNe_reads a1 a2 p1 p2 (by omega) ⟨.bl _,H,I,rfl,?_⟩
  rw[eqT_pd]
  exact q
 ·obtain⟨ok,q⟩:=cNeT_gen q
  exact⟨t1,t2,r1,r2,ok,k _ q⟩
def isNonT:T->Bool
 | .non=>true
 | _=>false
def cIsN(x y:T)(Q:Bool->Prop):Prop:=match y with
 | .non=>Q (isNonT x)
 | _=>False
def cNotN(x y:T)(Q:Bool->Prop):Prop:=match y with
 | .non=>Q (!isNonT x)
 | _=>False
theorem rep_is_non{K:PySem.W.Frag}{H:Hp}{t:T}{v:V}(r:Rep K H t v):decide (v=.non)=isNonT t:=by
 cases t with
 | non=>rw[rep_non]at r;subst r;rfl
 | bl b=>rw[rep_bl]at r;subst r;rfl
 | int b=>rw[rep_int]at r;subst r;rfl
 | str b=>rw[rep_str]at r;subst r;rfl
 | tup b=>rw[rep_tup]at r;obtain⟨p,vs,rfl,_⟩:=r;rfl
 | lst b=>rw[rep_lst]at r;obtain⟨p,vs,rfl,_⟩:=r;rfl
 | dct=>rw[rep_dct]at r;obtain⟨p,rfl,_⟩:=r;rfl
 | exc c=>rw[rep_exc]at r;obtain⟨p,rfl,_⟩:=r;rfl
 | exf c f t=>rw[rep_exf]at r;obtain⟨p,rfl,_⟩:=r;rfl
 | dic ks ts=>rw[rep_dic]at r;obtain⟨p,o,kvs,rfl,_⟩:=r;rfl
theorem c_is:CRT X .Is cIsN:=by
 refine⟨_,op_isN,fun t1 t2 v1 v2 H Q0 Q r1 r2 q k=>?_⟩
 cases t2<;>first|exact q.elim|skip
 refine⟨rep_non.mp r2,?_⟩
 rw[rep_is_non r1]
 exact k _ q
def wChain(c1 c2:T->T->(Bool->Prop)->Prop)(wa wb wc:WE):WE:=fun τ Q=>wa τ fun x=>wb τ fun y=>c1 x y fun k=>(k=true->wc τ fun z=>c2 y z fun b=>Q (.bl b))/\(k=false->Q (.bl false))
def tChainT(c1 c2:T->T->(Bool->Prop)->Prop)(wa wb wc:WE):WT:=fun τ Q=>wa τ fun x=>wb τ fun y=>c1 x y fun k=>(k=true->wc τ fun z=>c2 y z Q)/\(k=false->Q false)
def JW(X:Cx)(e:Expr)(w:WT):Prop:=PW X e (upT X.K X.H₀ w)
theorem jw{e:Expr}{w:WT}(h:JW X e w):JT X e w:=PW.pt h
variable {ua ub:WT} {rest:List Expr}
def tAndT(ua ub:WT):WT:=fun τ Q=>ua τ fun k=>(k=true->ub τ Q)/\(k=false->Q false)
def tOrT(ua ub:WT):WT:=fun τ Q=>ua τ fun k=>(k=true->Q true)/\(k=false->ub τ Q)
def tNotT(ua:WT):WT:=fun τ Q=>ua τ fun k=>Q (!k)
def tVal(wa:WE):WT:=fun τ Q=>wa τ fun x=>match x with | .bl k=>Q k|_=>False
theorem tor1(ha:JT X a ua):JW X (.BoolOp .Or [a] pos) ua:=pw_or1 ha
theorem tor(ha:JT X a ua)(hb:JW X (.BoolOp .Or (b::rest) pos) ub):JW X (.BoolOp .Or (a::b::rest) pos) (tOrT ua ub):=pw_of (pw_or ha hb) fun σ H Q ⟨τ,Q0,R,hw,k⟩=>by
 refine⟨τ,_,R,hw,fun c H1 S1 q=>?_⟩
 cases c with
 | true=>rw[if_pos rfl];exact k _ H1 S1 (q.1 rfl)
 | false=>rw[if_neg Bool.false_ne_true];exact⟨τ,_,R.mono S1,q.2 rfl,fun b H2 S2 q=>k b H2 (S1.trans S2) q⟩
theorem tnot(ha:JT X a ua):JT X (.UnaryOp .Not a pos) (tNotT ua):=pt_of (pt_not ha) fun σ H Q ⟨τ,Q0,R,hw,k⟩=>⟨τ,_,R,hw,fun c H1 S1 q=>k _ H1 S1 q⟩
theorem tval(ha:JE X a wa)(he:∀whole,isTrue a X.env whole=(do let v ← whole;standAt a.pos;holding [v] (truthy v)):=by intro _;rfl):JT X a (tVal wa) :=
 pt_of (pt_val ha he) fun σ H Q ⟨τ,Q0,R,hw,k⟩=>⟨τ,_,R,hw,fun t v H1 S1 r q=>by
  cases t<;>first|exact q.elim|skip
  rename_i b
  exact⟨b,rep_bl.mp r,k _ H1 S1 q⟩⟩
def wAndV(wa wb:WE):WE:=fun τ Q=>wa τ fun x=>match x with | .bl k=>(k=true->wb τ Q)/\(k=false->Q (.bl false))|_=>False
def wOrV(wa wb:WE):WE:=fun τ Q=>wa τ fun x=>match x with | .bl k=>(k=true->Q (.bl true))/\(k=false->wb τ Q)|_=>False
def wNotV(wa:WE):WE:=fun τ Q=>wa τ fun x=>match x with | .bl k=>Q (.bl (!k))|_=>False
theorem jone{op}(h:JE X a wa):JE X (.BoolOp op [a] pos) wa:=pe_one h
theorem jand(ha:JE X a wa)(hb:JE X (.BoolOp .And (b::rest) pos) wb):JE X (.BoolOp .And (a::b::rest) pos) (wAndV wa wb):=pe_of (pe_and ha hb) fun σ H Q ⟨τ,Q0,R,hw,k⟩=>by
 refine⟨τ,_,R,hw,fun t v H1 S1 r q=>?_⟩
 cases t<;>first|exact q.elim|skip
 rename_i c
 refine⟨c,rep_bl.mp r,?_⟩
 cases c with
 | true=>rw[if_pos rfl];exact⟨τ,_,R.mono S1,q.1 rfl,fun t v H2 S2 r q=>k t v H2 (S1.trans S2) r q⟩
 | false=>rw[if_neg Bool.false_ne_true];exact k _ _ H1 S1 (rep_bl.mpr rfl) (q.2 rfl)
theorem jnot(ha:JE X a wa):JE X (.UnaryOp .Not a pos) (wNotV wa):=pe_of (pe_not ha) fun σ H Q ⟨τ,Q0,R,hw,k⟩=>⟨τ,_,R,hw,fun t v H1 S1 r q=>by
 cases t<;>first|exact q.elim|skip
 rename_i c
 exact⟨c,rep_bl.mp r,k _ _ H1 S1 (rep_bl.mpr rfl) q⟩⟩
def wIfE(ua:WT)(wa wb:WE):WE:=fun τ Q=>ua τ fun k=>(k=true->wa τ Q)/\(k=false->wb τ Q)
variable {ws:WA}
def aNil:WA:=fun _ Q=>Q []
def aCons(wa:WE)(ws:WA):WA:=fun τ Q=>wa τ fun x=>ws τ fun xs=>Q (x::xs)
theorem ja0:JA X [] aNil:=pa_of pa_nil fun σ H Q ⟨τ,Q0,R,hw,k⟩=>k _ _ H (.refl H) (reps_nil.mpr rfl) hw
theorem ja(ha:JE X e wa)(hr:JA X es ws)(hs:starEach (e::es) X.env=(false,eval e X.env)::starEach es X.env:=by exact star1 rfl):JA X (e::es) (aCons wa ws):=pa_of (pa_cons ha hr hs) fun σ H Q ⟨τ,Q0,R,hw,k⟩ =>
 ⟨τ,_,R,hw,fun t v H1 S1 r1 q1=>⟨τ,_,R.mono S1,q1,fun ts vs H2 S2 r2 q2=>k _ _ H2 (S1.trans S2) (.cons (r1.kp (.of S2)) r2) q2⟩⟩
def wTup(ws:WA):WE:=fun τ Q=>ws τ fun ts=>ts.length<=1000/\Q (.tup ts)
def wLst(ws:WA):WE:=fun τ Q=>ws τ fun ts=>ts.length<=1000/\Q (.lst ts)
theorem few{n:Nat}(h:n<=1000):n<=sizeLine:=Nat.le_of_lt (small1000 h)
theorem jtup{x1}(h:JA X es ws):JE X (.Tuple es x1 pos) (wTup ws):=pe_of (pe_tup h) fun σ H Q ⟨τ,Q0,R,hw,k⟩=>⟨τ,_,R,hw,fun ts vs H1 S1 r ⟨hl,q⟩ =>
 ⟨by rw[r.length];exact few hl,fun p hp=>k _ _ _ (S1.trans (same_new hp _)) (rep_tup.mpr ⟨p,vs,rfl,SqT.of upd_same,r.kp (.of (same_new hp _))⟩) q⟩⟩
def tLstF(t:TA):TE:=fun σ H Q=>t σ H fun xs H1=>xs.length<=sizeLine/\∀p o,H1 p=none->Q (.ref p) (upd H1 p (.frz o (.lst xs)))
theorem pe_lstF{t:TA}(h:PA X es t):PE X (.List es pos) (tLstF t):=by
 intro pins s σ H Q I hq
 refine wpAny_List_spliced (thn (h pos pins s σ H _ I hq) fun us s1 ⟨xs,H1,I1,r,z,q⟩=>⟨by rw[← r.length];exact z,?_⟩)
 have hf:H1 s1.heap.objs.size=none:=I1.hok.fresh (Nat.le_refl _)
 refine⟨.ref s1.heap.objs.size,upd H1 s1.heap.objs.size (.frz {cls:=.type "list", data:=.seq us.toArray} (.lst xs)),I1.laid (t':=s1.toks) (fun b u e=>Heap.get?_push_of_some _ e) (Nat.le_refl _) ?_,rfl,q _ _ hf⟩
 exact⟨Heap.get?_push_size _ rfl,z,us,0,r,Heap.get?_push_size _ rfl⟩
theorem jlst(h:JA X es ws):JE X (.List es pos) (wLst ws):=pe_of (pe_lstF h) fun σ H Q ⟨τ,Q0,R,hw,k⟩=>⟨τ,_,R,hw,fun ts vs H1 S1 r ⟨hl,q⟩ =>
 ⟨by rw[r.length];exact few hl,fun p o hp=>k _ _ _ (S1.trans (same_new hp _)) (rep_lst.mpr ⟨p,vs,rfl,.inl ⟨o,upd_same⟩,r.kp (.of (same_new hp _))⟩) q⟩⟩
def rIxTT(x y:T)(Q:T->Prop):Prop:=match x,y with
 | .tup ts,.int i=>(match atI ts i with|some t=>Q t|none=>False)
 | .lst ts,.int i=>(match atI ts i with|some t=>Q t|none=>False)
 | _,_=>False
theorem atI_reps{K:PySem.W.Frag}{H:Hp}{ts:List T}{vs:List V}{i:Int}{t:T}(r:Reps K H ts vs)(h:atI ts i=some t):∃v,atI vs i=some v/\Rep K H t v:=by
 unfold atI at h ⊢
 rw[r.length]
 cases e:ixN ts.length i with
 | none=>rw[e]at h;cases h
 | some j =>
  rw[e]at h
  exact r.get h
theorem jix(ha:JE X a wa)(hb:JE X b wb)(hs:PlainIx b:=by intro _ _;rfl):JE X (.Subscript a b pos) (w2 rIxTT wa wb):=pe_of (pe_ix ix_seq ha hb hs) (up2 fun t1 t2 v1 v2 H Q0 Q r1 r2 q k=>by
 cases t1<;>cases t2<;>first|exact q.elim|skip
 ·rename_i ts i
  rw[rep_tup]at r1
  obtain⟨p,vs,rfl,sq,rr⟩:=r1
  have q':(match atI ts i with|some t=>Q0 t|none=>False):=q
  cases e:atI ts i with
  | none=>rw[e]at q';exact q'.elim
  | some t =>
   rw[e]at q'
   obtain⟨v,ev,rv⟩:=atI_reps rr e
   exact .inr (.inl ⟨p,vs,i,v,rfl,rep_int.mp r2,sq,ev,k _ _ H (.refl H) rv q'⟩)
 ·rename_i ts i
  rw[rep_lst]at r1
  obtain⟨p,vs,rfl,sq,rr⟩:=r1
  have q':(match atI ts i with|some t=>Q0 t|none=>False):=q
  cases e:atI ts i with
  | none=>rw[e]at q';exact q'.elim
  | some t =>
   rw[e]at q'
   obtain⟨v,ev,rv⟩:=atI_reps rr e
   exact .inl ⟨p,vs,i,v,rfl,rep_int.mp r2,sq.sq,ev,k _ _ H (.refl H) rv q'⟩)
def BlR(X:Cx)(f:Value)(rT:List T->(T->Prop)->Prop):Prop:=∃r:List V->Hp->VK->Prop,CallR X f r/\∀ts vs H (Q0:T->Prop) (Q:VK),Reps X.K H ts vs->rT ts Q0 →
 (∀t v H',Same H H'->Rep X.K H' t v->Q0 t->Q v H')->r vs H Q
def wCB(rT:List T->(T->Prop)->Prop)(ws:WA):WE:=fun τ Q=>ws τ fun ts=>rT ts Q
theorem upCB{r:List V->Hp->VK->Prop}{rT:List T->(T->Prop)->Prop}{K:PySem.W.Frag}{H0:Hp} (br:∀ts vs H (Q0:T->Prop) (Q:VK),Reps K H ts vs->rT ts Q0 →
  (∀t v H',Same H H'->Rep K H' t v->Q0 t->Q v H')->r vs H Q) (σ:St) (H:Hp) (Q:VK) (h:up K H0 (wCB rT ws) σ H Q):tCB r (upA K H0 ws) σ H Q:=by
 obtain⟨τ,Q0,R,hw,k⟩:=h
 exact⟨τ,_,R,hw,fun ts vs H1 S1 r1 q1=>br ts vs H1 Q0 Q r1 q1 fun t v H' S2 r q=>k t v H' (S1.trans S2) r q⟩
theorem jblt{x:Str}{p:Pos}{id:String}{rT:List T->(T->Prop)->Prop}(h:BlR X (.builtin id) rT)(hg:Gl X x)(hm:X.mg x=none)(hv:bootBuiltins x=some (.builtin id))(ha:JA X (e::es) ws) (hn:x ≠ "__name__" := by decide)
  (hdb:(x==("__debug__" : Str))=false:=by decide) (he:starEach (e::es) X.env=(false,eval e X.env)::starEach es X.env:=by exact star1 rfl) (hpl:(backTo pos (starEach es X.env)).any (·.1)=false:=by exact stars rfl) :
  JE X (.Call (.Name x p) (e::es) [] pos) (wCB rT ws):=by
 obtain⟨r,hc,br⟩:=h
 exact pe_of (pe_callB hc hg hm hv ha hn hdb he hpl) (upCB br)
theorem jty{x:Str}{p:Pos}{id:String}{rT:List T->(T->Prop)->Prop}(h:BlR X (.type id) rT)(hg:Gl X x)(hm:X.mg x=none)(hv:bootBuiltins x=some (.type id))(ha:JA X (e::es) ws) (hn:x ≠ "__name__" := by decide)
  (hdb:(x==("__debug__" : Str))=false:=by decide) (he:starEach (e::es) X.env=(false,eval e X.env)::starEach es X.env:=by exact star1 rfl) (hpl:(backTo pos (starEach es X.env)).any (·.1)=false:=by exact stars rfl) :
  JE X (.Call (.Name x p) (e::es) [] pos) (wCB rT ws):=by
 obtain⟨r,hc,br⟩:=h
 exact pe_of (pe_callTy hc hg hm hv ha hn hdb he hpl) (upCB br)
theorem reps1{K:PySem.W.Frag}{H:Hp}{t:T}{vs:List V}(r:Reps K H [t] vs):∃v,vs=[v]/\Rep K H t v:=by
 rw[reps_cons]at r
 obtain⟨v,vr,rfl,r1,r2⟩:=r
 rw[reps_nil]at r2
 subst r2
 exact⟨v,rfl,r1⟩
theorem reps2{K:PySem.W.Frag}{H:Hp}{t t':T}{vs:List V}(r:Reps K H [t,t'] vs):∃v v',vs=[v,v']/\Rep K H t v/\Rep K H t' v':=by
 rw[reps_cons]at r
 obtain⟨v,vr,rfl,r1,r2⟩:=r
 obtain⟨v',rfl,r3⟩:=reps1 r2
 exact⟨v,v',rfl,r1,r3⟩
def rLenT(ts:List T)(Q:T->Prop):Prop:=match ts with
 | [.tup xs]=>Q (.int xs.length)
 | [.lst xs]=>Q (.int xs.length)
 | _=>False
theorem bl_len:BlR X (.builtin "len") rLenT:=by
 refine⟨_,call_len_seq,fun ts vs H Q0 Q r q k=>?_⟩
 unfold rLenT at q
 split at q
 ·obtain⟨v,rfl,r1⟩:=reps1 r
  rw[rep_tup]at r1
  obtain⟨p,ys,rfl,sq,rr⟩:=r1
  exact⟨p,ys,rfl,.inr sq,k _ _ H (.refl H) (rep_int.mpr (by rw[rr.length])) q⟩
 ·obtain⟨v,rfl,r1⟩:=reps1 r
  rw[rep_lst]at r1
  obtain⟨p,ys,rfl,sq,rr⟩:=r1
  exact⟨p,ys,rfl,.inl sq.sq,k _ _ H (.refl H) (rep_int.mpr (by rw[rr.length])) q⟩
 ·exact q.elim
end
end TL
end
section
namespace TL
open PySem PySem.Spec PyProof.Rows L2
section
variable {X:Cx} {a b c e:Expr} {es:List Expr} {wa wb wc w:WE} {ws:WA} {pos:Pos}
def rAbsT(ts:List T)(Q:T->Prop):Prop:=match ts with
 | [.int i]=>Q (.int (if i < 0 then -i else i))
 | _=>False
theorem bl_abs:BlR X (.builtin "abs") rAbsT:=by
 refine⟨_,call_abs,fun ts vs H Q0 Q r q k=>?_⟩
 unfold rAbsT at q
 split at q
 ·obtain⟨v,rfl,r1⟩:=reps1 r
  rename_i i
  exact⟨i,by rw[rep_int.mp r1],k _ _ H (.refl H) (rep_int.mpr rfl) q⟩
 ·exact q.elim
def rMaxT(ts:List T)(Q:T->Prop):Prop:=match ts with
 | [.int i,.int j]=>Q (.int (if j > i then j else i))
 | _=>False
def rMinT(ts:List T)(Q:T->Prop):Prop:=match ts with
 | [.int i,.int j]=>Q (.int (if j < i then j else i))
 | _=>False
theorem bl_max(hc:X.calm=true):BlR X (.builtin "max") rMaxT:=by
 refine⟨_,call_max2 hc,fun ts vs H Q0 Q r q k=>?_⟩
 unfold rMaxT at q
 split at q
 ·obtain⟨v,v',rfl,r1,r2⟩:=reps2 r
  rename_i i j
  exact⟨i,j,by rw[rep_int.mp r1,rep_int.mp r2],k _ _ H (.refl H) (rep_int.mpr rfl) q⟩
 ·exact q.elim
def rTupleT(ts:List T)(Q:T->Prop):Prop:=match ts with
 | [.tup xs]=>Q (.tup xs)
 | [.lst xs]=>Q (.tup xs)
 | _=>False
theorem ty_tuple:BlR X (.type "tuple") rTupleT:=by
 refine⟨_,call_tuple_of,fun ts vs H Q0 Q r q k=>?_⟩
 unfold rTupleT at q
 split at q
 ·obtain⟨v,rfl,r1⟩:=reps1 r
  have r':=r1
  rw[rep_tup]at r1
  obtain⟨p,ys,rfl,sq,rr⟩:=r1
  exact⟨p,ys,rfl,.inr ⟨sq,k _ _ H (.refl H) r' q⟩⟩
 ·obtain⟨v,rfl,r1⟩:=reps1 r
  rw[rep_lst]at r1
  obtain⟨p,ys,rfl,sq,rr⟩:=r1
  exact⟨p,ys,rfl,.inl ⟨sq.sq,fun l hl=>k _ _ _ (same_new hl _) (rep_tup.mpr ⟨l,ys,rfl,SqT.of upd_same,rr.kp (.of (same_new hl _))⟩) q⟩⟩
 ·exact q.elim
inductive Kd where
 | int|bool|tuple|list|str
def Kd.nm:Kd->String
 | .int => "int"
 | .bool => "bool"
 | .tuple => "tuple"
 | .list => "list"
 | .str => "str"
def isK:Kd->T->Bool
 | .int,.int _=>true
 | .int,.bl _=>true
 | .bool,.bl _=>true
 | .tuple,.tup _=>true
 | .list,.lst _=>true
 | .str,.str _=>true
 | _,_=>false
def noExc:T->Prop
 | .exc _=>False
 | .exf _ _ _=>False
 | .dic _ _=>False
 | _=>True
theorem call_isi(kd:Kd):CallR X (.builtin "isinstance") (fun xs H Q=>∃x t,xs=[x,.ty kd.nm]/\Rep X.K H t x/\noExc t/\Q (.bl (isK kd t)) H):=by
 intro pins s σ H xs us Q I r h
 obtain⟨x,t,rfl,rt,ne,q⟩:=h
 obtain⟨u,u',rfl,rx,r2⟩:=vals2 r
 obtain rfl:u'=Value.type kd.nm:=r2
 have fin:∀tk,EP X pins σ Q (.bool (isK kd t)) {s with toks:=tk}:=fun tk=>⟨.bl _,H,I.tok tk,rfl,q⟩
 cases t with
 | non=>rw[rep_non]at rt;subst rt;cases rx;exact PySem.W.kia_one PySem.W.kitx_none I.kIn True.intro (by cases kd<;>kernel_rfl) (fun z=>nomatch z) fin
 | bl y=>rw[rep_bl]at rt;subst rt;cases rx;exact PySem.W.kia_one PySem.W.kitx_bool I.kIn True.intro (by cases kd<;>kernel_rfl) (fun z=>nomatch z) fin
 | int i=>rw[rep_int]at rt;subst rt;obtain⟨t,rfl⟩:=rx;exact PySem.W.kia_one PySem.W.kitx_int I.kIn True.intro (by cases kd<;>kernel_rfl) (fun z=>nomatch z) fin
 | str y=>rw[rep_str]at rt;subst rt;obtain⟨t,rfl⟩:=rx;exact PySem.W.kia_one PySem.W.kitx_str I.kIn True.intro (by cases kd<;>kernel_rfl) (fun z=>nomatch z) fin
 | tup ts =>
  rw[rep_tup]at rt
  obtain⟨p,vs,rfl,sq,_⟩:=rt
  cases rx
  obtain⟨its,_,⟨o,h1,h2,_⟩,_⟩:=I.tuple sq
  exact PySem.W.kia_one PySem.W.kitx_tuple I.kIn ⟨o,h1,h2⟩ (by cases kd<;>kernel_rfl) (fun z=>nomatch z) fin
 | lst ts =>
  rw[rep_lst]at rt
  obtain⟨p,vs,rfl,sq,_⟩:=rt
  cases rx
  obtain⟨its,_,pl,_⟩:=I.list sq.sq
  obtain⟨o,h1,h2,_⟩:=pl.isList
  exact PySem.W.kia_one PySem.W.kitx_list I.kIn ⟨o,h1,h2⟩ (by cases kd<;>kernel_rfl) (fun z=>nomatch z) fin
 | dct =>
  rw[rep_dct]at rt
  obtain⟨p,rfl,hp⟩:=rt
  cases rx
  exact PySem.W.kia_one PySem.W.kitx_dict I.kIn ⟨_,(I.hok p _ hp).1,rfl⟩ (by cases kd<;>kernel_rfl) (fun z=>nomatch z) fin
 | exc c=>exact ne.elim
 | exf c f t=>exact ne.elim
 | dic ks ts=>exact ne.elim
def wIsi(kd:Kd)(wa:WE):WE:=fun τ Q=>wa τ fun t=>noExc t/\Q (.bl (isK kd t))
theorem jisi(kd:Kd){p pc:Pos}{x:Str}(ha:JE X e wa) (hg:Gl X "isinstance") (hm:X.mg "isinstance" = none) (hgc:Gl X x) (hmc:X.mg x=none) (hvc:bootBuiltins x=some (.type kd.nm))
  (hn:x ≠ "__name__" := by decide) (hd:(x==("__debug__" : Str))=false:=by decide)
  (hs:starEach [e,.Name x pc] X.env=(false,eval e X.env)::starEach [.Name x pc] X.env:=by exact star1 rfl) (hs1:starEach [.Name x pc] X.env=(false,eval (.Name x pc) X.env)::starEach [] X.env:=by rfl)
  (hpl:(backTo pos (starEach [.Name x pc] X.env)).any (·.1)=false:=by exact stars rfl):JE X (.Call (.Name "isinstance" p) [e,.Name x pc] [] pos) (wIsi kd wa):=by
 refine pe_of (pe_callB (call_isi kd) hg hm boot_isinstance (pa_cons ha (pa_cons (pe_bltn (v:=.ty kd.nm) hgc hmc hvc rfl hn hd) pa_nil hs1) hs) (by decide) (by decide) hs hpl) fun σ H Q ⟨τ,Q0,R,hw,k⟩=>?_
 exact⟨τ,_,R,hw,fun t v H1 S1 r1 q1=>⟨v,t,rfl,r1,q1.1,k _ _ H1 S1 (rep_bl.mpr rfl) q1.2⟩⟩
abbrev SpT:=List T->(T->Prop)->Prop
def spT(K:PySem.W.Frag)(n:Nat)(S:SpT):Sp:=fun vs H Q _=>∃(ts:List T) (Q0:T->Prop),vs.length=n/\Reps K H ts vs/\S ts Q0/\∀t v H',Same H H'->Rep K H' t v->Q0 t->Q v H'
structure FnT(P:Program)(w:World)(K:PySem.W.Frag)(mg:Str->Option Value)(base:Heap)(k:Nat)(f:Addr)(fd:FuncData)(ps:List Str)(S:SpT):Prop where
 ok:FnOk P w K mg base CX0 k f fd ps (spT K ps.length S)
 len:∀ts Q,S ts Q->ts.length=ps.length
def wCall(S:SpT)(ws:WA):WE:=fun τ Q=>ws τ fun ts=>S ts Q
theorem jcall{k:Nat}{f:Addr}{fd:FuncData}{ps:List Str}{S:SpT}{x:Str}{p:Pos}(F:FnT X.prog X.w X.K X.mg X.base k f fd ps S)(hr:Room k X.A)(hg:Gl X x)(hm:X.mg x=some (.ref f))(hk:PySem.W.keepIn X.K (.ref f)=true)
  (hb:Binds X.K fd ps []) (ha:JA X (e::es) ws) (hdb:(x==("__debug__" : Str))=false:=by decide) (he:starEach (e::es) X.env=(false,eval e X.env)::starEach es X.env:=by exact star1 rfl)
  (hpl:(backTo pos (starEach es X.env)).any (·.1)=false:=by exact stars rfl):JE X (.Call (.Name x p) (e::es) [] pos) (wCall S ws):=by
 refine pe_of (pe_call F.ok hr hg hm hk hb .nil pass0 ha hdb he hpl) fun σ H Q ⟨τ,Q0,R,hw,k⟩=>?_
 refine⟨τ,_,R,hw,fun ts vs H1 S1 r1 q1=>?_⟩
 have e0:vs++[]=vs:=List.append_nil vs
 show spT X.K ps.length S (vs++[]) H1 Q E0
 rw[e0]
 exact⟨ts,Q0,by rw[r1.length];exact F.len _ _ q1,r1,q1,fun t v H' S2 r q=>k t v H' (S1.trans S2) r q⟩
def startT(n:Nat)(ts:List T):List Slot:=ts.map Slot.val++List.replicate (n - ts.length) Slot.no
theorem sget_append_left:∀{l r:List Slot}{i:Nat},i < l.length->sget (l++r) i=sget l i
 | [],_,_,h=>by simp at h
 | _::_,_,0,_=>rfl
 | _::l,r,i + 1,h=>by simp only[List.cons_append,sget];exact sget_append_left (by simpa using h)
theorem sget_append_right:∀{l r:List Slot}{i:Nat},l.length<=i->sget (l++r) i=sget r (i - l.length)
 | [],_,_,_=>by simp
 | _::_,_,0,h=>by simp at h
 | _::l,r,i + 1,h=>by
  simp only[List.cons_append,sget,List.length_cons]
  rw[sget_append_right (by simpa using h)]
  congr 1
  omega
theorem sget_no:∀(n i:Nat),sget (List.replicate n Slot.no) i=.no
 | 0,_=>rfl
 | _ + 1,0=>rfl
 | n + 1,i + 1=>by simp only[List.replicate,sget];exact sget_no n i
theorem sget_vals:∀{ts:List T}{i:Nat},i < ts.length->∃t,ts[i]?=some t/\sget (ts.map Slot.val) i=.val t
 | [],_,h=>by simp at h
 | t::_,0,_=>⟨t,rfl,rfl⟩
 | _::r,i + 1,h=>by
  obtain⟨t,h1,h2⟩:=sget_vals (ts:=r) (i:=i) (by simpa using h)
  exact⟨t,by simpa using h1,by simpa [sget] using h2⟩
theorem repSt_start{K:PySem.W.Frag}{H:Hp}{N:List Str}{ts:List T}{vs:List V}(r:Reps K H ts vs):RepSt K H H (L2.start N vs) (startT N.length ts):=by
 have hl:=r.length
 have noOwn:∀i us,sget (startT N.length ts) i ≠ .own us:=fun i us e=>by
  unfold startT at e
  by_cases hi:i < ts.length
  ·rw[sget_append_left (by simpa using hi)]at e
   obtain⟨t,_,h2⟩:=sget_vals hi
   rw[h2]at e
   cases e
  ·rw[sget_append_right (by simpa using hi),sget_no]at e
   cases e
 refine⟨.refl H,by unfold L2.start startT;simp[hl],fun i=>?_,fun i j ts' us p _ h1 _ _ _=>absurd h1 (noOwn i _)⟩
 unfold startT
 by_cases hi:i < ts.length
 ·rw[sget_append_left (by simpa using hi)]
  obtain⟨t,h1,h2⟩:=sget_vals hi
  rw[h2]
  obtain⟨v,e,rv⟩:=r.get h1
  refine⟨v,?_,rv⟩
  unfold L2.start
  rw[List.getElem?_append_left (by simp[hl,hi]),List.getElem?_map,e]
  rfl
 ·rw[sget_append_right (by simpa using hi),sget_no]
  trivial
theorem fnT{P:Program}{w:World}{K:PySem.W.Frag}{mg:Str->Option Value}{base:Heap}{x qual:Str}{st:Stmt}{f:Addr}{fd:FuncData}{N ps:List Str}{k:Nat}{S:SpT}{W:WS}(F:Fun K x qual st f fd)(SC:FnScope N ps (defScope st))
  (hlen:∀ts Q,S ts Q->ts.length=ps.length)
  (hbody:∀(cdv:Value)(A:Around)(outer:List Env)(s:Shared)(H:Hp)(E:XK),Room k (A.deeper (envOfC qual (defScope st) s.heap.objs.size f cdv))->JSs (cxOf CX0 P w K mg base N qual (defScope st) f cdv A outer s H E).nox (defBody st) W)
  (hw:∀ts Q,S ts Q->W {nx:=fun _=>Q .non,rt:=Q} (startT N.length ts)):FnT P w K mg base (k + 1) f fd ps S:=by
 refine⟨F.ok SC (fun vs H Q E h=>?_) (fun cdv A outer s H vs Q E hr h=>?_),hlen⟩
 ·obtain⟨_,_,e,_⟩:=h
  exact e
 obtain⟨ts,Q0,e,r,hS,q⟩:=h
 refine⟨_,hbody cdv A outer s H E hr,startT N.length ts,{nx:=fun _=>Q0 .non,rt:=Q0},repSt_start r,hw ts Q0 hS,fun τ' σ' H' _ R n=>?_,fun t v H' S r' n=>q t v H' S r' n,fun τ' σ' H' _ R n=>n.elim,fun τ' σ' H' _ R n=>n.elim⟩
 exact q .non .non H' R.same (rep_non.mpr rfl) n
variable {st:Stmt} {rest:List Stmt} {t u:WS} {ua:WT}
def sNext:WS:=fun D τ=>D.nx τ
def sSeq(t u:WS):WS:=fun D τ=>t {D with nx:=u D} τ
theorem js0:JSs X [] sNext:=pss_of pss_nil fun D σ H ⟨τ,D0,R,hw,k,_⟩=>k τ σ H (.refl H) R hw
theorem js1(h:JS X st t):JSs X [st] t:=pss_of (pss_one h) fun D σ H z=>z
theorem jsc(h1:JS X st t)(h2:JSs X rest u):JSs X (st::rest) (sSeq t u):=pss_of (pss_cons h1 h2) fun D σ H ⟨τ,D0,R,hw,kn,kr,kb,kc⟩ =>
 ⟨τ,_,R,hw,fun τ' σ' H' K1 R' q=>⟨τ',D0,R',q,fun τ2 σ2 H2 K2 R2 q2=>kn τ2 σ2 H2 (K1.trans K2) R2 q2,kr,fun τ2 σ2 H2 K2 R2 q2=>kb τ2 σ2 H2 (K1.trans K2) R2 q2,fun τ2 σ2 H2 K2 R2 q2=>kc τ2 σ2 H2 (K1.trans K2) R2 q2⟩,
  kr,kb,kc⟩
def sRet(w:WE):WS:=fun D τ=>w τ D.rt
theorem jret(h:JE X e w):JS X (.Return (some e) pos) (sRet w):=ps_of (ps_ret h) fun D σ H ⟨τ,D0,R,hw,_,k,_⟩=>⟨τ,_,R,hw,fun t v H' S r q=>k t v H' (R.same.trans S) r q⟩
def sRetN:WS:=fun D _=>D.rt .non
def sIf(ua:WT)(t u:WS):WS:=fun D τ=>ua τ fun k=>(k=true->t D τ)/\(k=false->u D τ)
theorem jsif{c:Expr}{a b:List Stmt}(hc:JT X c ua)(ha:JSs X a t)(hb:JSs X b u):JS X (.If c a b pos) (sIf ua t u):=ps_of (ps_if hc ha hb) fun D σ H ⟨τ,D0,R,hw,kn,kr,kb,kc⟩=>by
 refine⟨τ,_,R,hw,fun d H1 S1 q=>?_⟩
 have K1:=Kp.of S1
 cases d with
 | true=>dsimp only;rw[if_pos rfl];exact⟨τ,D0,R.mono S1,q.1 rfl,fun τ2 σ2 H2 K2 R2 q2=>kn τ2 σ2 H2 (K1.trans K2) R2 q2,kr,fun τ2 σ2 H2 K2 R2 q2=>kb τ2 σ2 H2 (K1.trans K2) R2 q2,fun τ2 σ2 H2 K2 R2 q2=>kc τ2 σ2 H2 (K1.trans K2) R2 q2⟩
 | false=>dsimp only;rw[if_neg Bool.false_ne_true];exact⟨τ,D0,R.mono S1,q.2 rfl,fun τ2 σ2 H2 K2 R2 q2=>kn τ2 σ2 H2 (K1.trans K2) R2 q2,kr,fun τ2 σ2 H2 K2 R2 q2=>kb τ2 σ2 H2 (K1.trans K2) R2 q2,fun τ2 σ2 H2 K2 R2 q2=>kc τ2 σ2 H2 (K1.trans K2) R2 q2⟩
def sExpr(w:WE):WS:=fun D τ=>w τ fun _=>D.nx τ
def sSet(i:Nat)(w:WE):WS:=fun D τ=>w τ fun t=>D.nx (sput τ i (.val t))
theorem jset{i:Nat}{x:Str}{pos':Pos}(hN:X.N.Nodup)(hi:X.N[i]?=some x)(hx:Loc X.env.scope x)(he:JE X e w)(hs:swapsWith e (some (.Name x pos')) pos.line X.env=pure false:=by rfl)
  (hf:X.fn x=true∨X.env.scope.names.lookup x=some .local:=by first|exact .inl rfl|exact .inr rfl|assumption):JS X (.Assign [.Name x pos'] e pos) (sSet i w) :=
 ps_of (ps_set hN hi hx he hs hf) fun D σ H ⟨τ,D0,R,hw,k,_⟩=>⟨τ,_,R,hw,fun t v H' S r q=>k _ _ H' (.of S) ((R.mono S).put r) q⟩
def sOwn(i:Nat)(ws:WA):WS:=fun D τ=>ws τ fun ts=>ts.length<=1000/\D.nx (sput τ i (.own ts))
theorem jown{i:Nat}{x:Str}{pos' pl:Pos}(hN:X.N.Nodup)(hi:X.N[i]?=some x)(hx:Loc X.env.scope x)(he:JA X es ws)(hs:swapsWith (.List es pl) (some (.Name x pos')) pos.line X.env=pure false:=by rfl)
  (hf:X.fn x=true∨X.env.scope.names.lookup x=some .local:=by first|exact .inl rfl|exact .inr rfl|assumption):JS X (.Assign [.Name x pos'] (.List es pl) pos) (sOwn i ws) :=
 ps_of (ps_set hN hi hx (pe_lst he) hs hf) fun D σ H ⟨τ,D0,R,hw,k,_⟩=>⟨τ,_,R,hw,fun ts vs H' S r ⟨hl,q⟩ =>
  ⟨by rw[r.length];exact few hl,fun p hp=>k _ _ _ ((Kp.of S).trans (.of (same_new hp _))) ((R.mono S).putOwn hp r) q⟩⟩
def sApp(i:Nat)(w:WE):WS:=fun D τ=>match sget τ i with
 | .own ts=>w τ fun t=>ts.length < 1000/\D.nx (sput τ i (.own (ts++[t])))
 | _=>False
theorem japp{i:Nat}{x:Str}{px apos cpos:Pos}(hv:PE X (.Name x px) (tVar i))(he:JE X e w)
  (hs:swapsWith (.Call (.Attribute (.Name x px) "append" apos) [e] [] cpos) none pos.line X.env=pure false:=by rfl)
  (hbase:attributeBase (.Name x px) "append" X.env (eval (.Name x px) X.env)=eval (.Name x px) X.env:=by rfl)
  (hfew:((backTo cpos (starEach [e] X.env)).all (fun x=>!x.1)&&(backToKw cpos (keywordEach [] X.env)).all (fun x=>x.1.isSome)
   && decide ([e].length + ([]:List Keyword).length + (if ([]:List Keyword).isEmpty then 0 else 1) < 30))=true:=by rfl)
  (hline:(apos.endLine==cpos.line)=true:=by rfl) (hst:starEach [e] X.env=(false,eval e X.env)::starEach [] X.env:=by rfl) (hplain:(backTo cpos (starEach [] X.env)).any (·.1)=false:=by rfl) :
  JS X (.Expr (.Call (.Attribute (.Name x px) "append" apos) [e] [] cpos) pos) (sApp i w):=by
 refine ps_of (ps_expr (pe_bm PySem.F.plainAttrs_list PySem.F.slot_list_append PySem.F.type_list_append mt_append hv (pa_cons he pa_nil hst) hbase hfew hline hst hplain) hs) fun D σ H ⟨τ,D0,R,hw,k,_⟩=>?_
 unfold sApp at hw
 cases own:sget τ i with
 | no=>rw[own]at hw;exact hw.elim
 | val t=>rw[own]at hw;exact hw.elim
 | see t=>rw[own]at hw;exact hw.elim
 | dic t=>rw[own]at hw;exact hw.elim
 | vat t v=>rw[own]at hw;exact hw.elim
 | owd p q=>rw[own]at hw;exact hw.elim
 | own ts =>
  rw[own]at hw
  have sl:=R.slot i
  rw[own]at sl
  obtain⟨p,vs,ev,hp,rr,n0⟩:=sl
  refine⟨.ref p,ev,.inl ⟨rfl,vs,SqL.of hp⟩,τ,_,R,hw,fun t v H' S r q=>?_⟩
  refine⟨p,vs,v,rfl,rfl,S _ _ hp,by rw[rr.length];exact small1000 (Nat.le_of_lt q.1),?_⟩
  exact k _ _ _ ((Kp.of S).trans (Kp.write (S _ _ hp) _)) ((R.mono S).write own ev (S _ _ hp) ((rr.kp (.of S)).append (.one r))) q.2
def sFrz(i:Nat)(t:WS):WS:=fun D τ=>match sget τ i with
 | .own ts=>t D (sput τ i (.val (.lst ts)))
 | _=>False
theorem Inv.freeze{pins:List (Addr×Obj)}{σ:St}{H:Hp}{s:Shared}{p:Addr}{xs:List V}(I:Inv X pins σ H s)(h:H p=some (.lst xs)):∃o,Inv X pins σ (upd H p (.frz o (.lst xs))) s:=by
 obtain⟨z,its,n,r,e⟩:=I.hok p _ h
 refine⟨{cls:=.type "list", data:=.seq its.toArray n},?_⟩
 have ne:∀{b:Addr}{o:HO},H b=some o->o ≠ .lst xs->b≠p:=fun q d z=>by subst z;rw[h]at q;cases q;exact d rfl
 have nn:∀{b:Addr},H b=none->b≠p:=fun q z=>by subst z;rw[h]at q;cases q
 have u:Un X.fs [] H (upd H p (.frz {cls:=.type "list", data:=.seq its.toArray n} (.lst xs))) s.heap s.heap:=by
  refine⟨fun b o q _ _ _=>q,fun b o q _ _ _=>⟨o.slots,q⟩,fun b o _ q _=>by rw[upd_ne (nn q)];exact q,fun b o q _=>⟨o,q⟩,fun b ys q=>?_,fun b o' u' q=>?_,fun b ps q=>⟨#[],?_⟩⟩
  ·rw[upd_ne (by rintro rfl;rw[h]at q;cases q)];exact q
  ·rw[upd_ne (by rintro rfl;rw[h]at q;cases q)];exact q
  ·rw[upd_ne (by rintro rfl;rw[h]at q;cases q),q];simp
 have hok:HOk X.prog X.w (upd H p (.frz {cls:=.type "list", data:=.seq its.toArray n} (.lst xs))) s.heap:=fun b ob q=>by
  by_cases hb:b=p
  ·subst hb
   rw[upd_same]at q
   cases q
   exact⟨e,z,its,n,r,e⟩
  ·rw[upd_ne hb]at q
   refine(I.hok b ob q).stay (fun c v _ q=>q) (fun c q=>?_) fun c ys q=>?_
   ·rw[upd_ne (by rintro rfl;rw[h]at q;cases q)];exact q
   ·rw[upd_ne (by rintro rfl;rw[h]at q;cases q)];exact q
 have:=I.un (h':=s.heap) (t':=s.toks) u hok
 exact this
theorem jfrz(i:Nat){sts:List Stmt}(h:JSs X sts t):JSs X sts (sFrz i t):=by
 intro pins s σ H D I hw
 obtain⟨τ,D0,R,hw,kn,kr,kb,kc⟩:=hw
 unfold sFrz at hw
 cases own:sget τ i with
 | no=>rw[own]at hw;exact hw.elim
 | val t=>rw[own]at hw;exact hw.elim
 | see t=>rw[own]at hw;exact hw.elim
 | dic t=>rw[own]at hw;exact hw.elim
 | vat t v=>rw[own]at hw;exact hw.elim
 | owd p q=>rw[own]at hw;exact hw.elim
 | own ts =>
  rw[own]at hw
  have sl:=R.slot i
  rw[own]at sl
  obtain⟨p,vs,ev,hp,rr,n0⟩:=sl
  obtain⟨o,I'⟩:=Inv.freeze I hp
  have K1:=Kp.write hp (.frz o (.lst vs))
  exact h pins s σ _ D I' ⟨_,D0,R.freeze own ev hp rr,hw,fun τ2 σ2 H2 K2 R2 q2=>kn τ2 σ2 H2 (K1.trans K2) R2 q2,kr,fun τ2 σ2 H2 K2 R2 q2=>kb τ2 σ2 H2 (K1.trans K2) R2 q2,fun τ2 σ2 H2 K2 R2 q2=>kc τ2 σ2 H2 (K1.trans K2) R2 q2⟩
abbrev TGt:=T->List Slot->(List Slot->Prop)->Prop
abbrev TGts:=List T->List Slot->(List Slot->Prop)->Prop
def upG(K:PySem.W.Frag)(H0:Hp)(g:TGt):TG:=fun v σ H Q=>∃(t:T) (τ:List Slot) (Q0:List Slot->Prop),RepSt K H0 H σ τ/\Rep K H t v/\g t τ Q0/\∀τ' σ' H',Same H H'->RepSt K H0 H' σ' τ'->Q0 τ'->Q σ' H'
def upGs(K:PySem.W.Frag)(H0:Hp)(g:TGts):TGs:=fun vs σ H Q=>∃(ts:List T) (τ:List Slot) (Q0:List Slot->Prop),RepSt K H0 H σ τ/\Reps K H ts vs/\g ts τ Q0/\∀τ' σ' H',Same H H'->RepSt K H0 H' σ' τ'->Q0 τ'->Q σ' H'
def JG(X:Cx)(tg:Expr)(g:TGt):Prop:=PG X tg (upG X.K X.H₀ g)
def JGs(X:Cx)(tgs:List Expr)(g:TGts):Prop:=PGs X tgs (upGs X.K X.H₀ g)
theorem pg_of{tg:Expr}{t t':TG}(h:PG X tg t)(f:∀v σ H Q,t' v σ H Q->t v σ H Q):PG X tg t':=fun pins s σ H v u Q I r hw=>h pins s σ H v u Q I r (f v σ H Q hw)
theorem pgs_of{tg:List Expr}{t t':TGs}(h:PGs X tg t)(f:∀v σ H Q,t' v σ H Q->t v σ H Q):PGs X tg t':=fun pins s σ H v u Q I r hw=>h pins s σ H v u Q I r (f v σ H Q hw)
def gN(i:Nat):TGt:=fun t τ Q=>Q (sput τ i (.val t))
theorem jg{i:Nat}{x:Str}(hN:X.N.Nodup)(hi:X.N[i]?=some x)(hx:Loc X.env.scope x)(hf:X.fn x=true∨X.env.scope.names.lookup x=some .local:=by first|exact .inl rfl|exact .inr rfl|assumption):JG X (.Name x pos) (gN i) :=
 pg_of (pg_name hN hi hx hf) fun v σ H Q ⟨t,τ,Q0,R,r,hw,k⟩=>k _ _ H (.refl H) (R.put r) hw
def gs0:TGts:=fun ts τ Q=>match ts with|[]=>Q τ|_=>False
def gsC(g:TGt)(gs:TGts):TGts:=fun ts τ Q=>match ts with|t::r=>g t τ fun τ'=>gs r τ' Q|[]=>False
theorem jgs0:JGs X [] gs0:=pgs_of pgs_nil fun vs σ H Q ⟨ts,τ,Q0,R,r,hw,k⟩=>by
 cases ts with
 | nil=>exact⟨reps_nil.mp r,k τ σ H (.refl H) R hw⟩
 | cons t r=>exact hw.elim
theorem jgsc{e:Expr}{es:List Expr}{g:TGt}{gs:TGts}(h1:JG X e g)(h2:JGs X es gs)(hs:(assignEach (e::es) X.env).map (·.2)=assign e X.env::(assignEach es X.env).map (·.2):=by rfl):JGs X (e::es) (gsC g gs) :=
 pgs_of (pgs_cons h1 h2 hs) fun vs σ H Q ⟨ts,τ,Q0,R,r,hw,k⟩=>by
  cases ts with
  | nil=>exact hw.elim
  | cons t ts =>
   rw[reps_cons]at r
   obtain⟨v,vr,e1,r1,r2⟩:=r
   exact⟨v,vr,e1,t,τ,_,R,r1,hw,fun τ1 σ1 H1 S1 R1 q1=>⟨ts,τ1,Q0,R1,r2.kp (.of S1),q1,fun τ2 σ2 H2 S2 R2 q2=>k τ2 σ2 H2 (S1.trans S2) R2 q2⟩⟩
theorem draw_list{prog:Program}{w:World}{A:Around}{E:Value->Shared->Prop}{it l:Addr}{items:Array Value}(hne:l≠it):∀(n i:Nat)(s:Shared)(Q:List Value->Shared->Prop),s.heap.IsListIter it l i->s.heap.IsList l items->i + n<=items.size →
  (∀h',h'.IsListIter it l (i + n)->Heap.SameBut it s.heap h'->Q ((items.toList.drop i).take n) {s with heap:=h' })->wpAny (model prog w) A (draw (.ref it) n) Q E s
 | 0,i,s,Q,hit,_,_,hQ=>by
  show wpAny _ _ (pure []) Q E s
  exact wpAny_pure (by simpa using hQ s.heap hit (Heap.SameBut.refl ..))
 | n + 1,i,s,Q,hit,ht,hle,hQ=>by
  have hlt:i < items.size:=by omega
  show wpAny _ _ (pyNext (.ref it) >>= _) Q E s
  refine wpAny_bind (wpAny_pyNext_list_item hit ht (x:=items[i]) (by simp[hlt]) fun h₁ hit₁ hs₁=>?_)
  refine wpAny_bind (wpAny_holding (draw_list hne n (i + 1) _ _ hit₁ (ht.extBut hs₁.extBut hne) (by omega) fun h₂ hit₂ hs₂=>wpAny_pure ?_))
  have hd:items.toList.drop i=items[i]::items.toList.drop (i + 1):=by simp[List.drop_eq_getElem_cons,hlt]
  have:=hQ h₂ (by rw[show i + (n + 1)=i + 1 + n by omega];exact hit₂) (hs₁.trans hs₂)
  rw[hd,List.take_succ_cons]at this
  exact this
theorem unpackItems_list{prog:Program}{w:World}{A:Around}{E:Value->Shared->Prop}{s:Shared}{t:Addr}{items:Array Value}{Q:List Value->Shared->Prop}(hh:A.handled=none)(ht:s.heap.IsList t items)
  (hQ:∀h',Heap.ExtBut s.heap.objs.size s.heap h'->Q items.toList {s with heap:=h' }):wpAny (model prog w) A (unpackItems (.ref t) items.size none) Q E s:=by
 have hlt:t≠s.heap.objs.size:=by obtain⟨o,ho,_⟩:=ht;exact Nat.ne_of_lt (Heap.lt_size ho)
 unfold unpackItems
 refine wpAny_bind ?_
 ·unfold notIterableAtAll
  refine wpAny_bind (wpAny_specialOf ht.typeIs slot_list_iter.lookup ?_)
  refine wpAny_pure ?_
  simp only[Bool.false_eq_true,if_false]
  refine wpAny_bind (wpAny_holding (wpAny_pyIter_list ht ?_))
  have htp:(s.heap.push {cls:=.type "list_iterator", data:=.fields #[.ref t,.int 0 0]}).IsList t items:=by
   obtain⟨o,ho,r⟩:=ht
   exact⟨o,Heap.get?_push_of_some _ ho,r⟩
  refine wpAny_bind (wpAny_holding (draw_list hlt items.size 0 _ _ ⟨_,Heap.get?_push_size _ rfl,rfl,rfl⟩ htp (by omega) fun h₁ hit₁ hs₁=>?_))
  have hall:List.take items.size (List.drop 0 items.toList)=items.toList:=by
   rw[List.drop_zero];exact List.take_of_length_le (by simp)
  rw[hall]
  rw[if_neg (by simp)]
  have ht₁:h₁.IsList t items:=htp.extBut hs₁.extBut hlt
  refine wpAny_bind (wpAny_holding (wpAny_pyNext_list_end hh hit₁ ht₁ (by simp) fun h₂ he₂=>?_))
  simp only[Option.isSome_none,Bool.false_eq_true,if_false]
  refine wpAny_pure (hQ h₂ fun b o hb e=>he₂ b o hb (hs₁.extBut b o hb (Heap.get?_push_of_some _ e)))
theorem assign_Tuple_list{prog:Program}{w:World}{A:Around}{E:Value->Shared->Prop}{s:Shared}{env:Env}{elts:List Expr}{x1}{pos:Pos}{t:Addr}{items:Array Value}{Q:Unit->Shared->Prop}(hh:A.handled=none)(ht:s.heap.IsList t items)
  (hn:(assignEach elts env).length=items.size) (hstar:(assignEach elts env).findIdx? (·.1)=none)
  (h:∀h',Heap.ExtBut s.heap.objs.size s.heap h'->wpAny (model prog w) A (assignInOrder ((assignEach elts env).map (·.2)) items.toList) Q E {s with heap:=h' }) :
  wpAny (model prog w) A (assign (.Tuple elts x1 pos) env (.ref t)) Q E s:=by
 rw[assign_Tuple]
 refine wpAny_bind (wpAny_standAt ?_)
 unfold unpack
 rw[hn,hstar]
 exact wpAny_bind (wpAny_holding (unpackItems_list hh ht h))
def gT(n:Nat)(gs:TGts):TGt:=fun t τ Q=>match t with
 | .tup ts=>ts.length=n/\gs ts τ Q
 | .lst ts=>ts.length=n/\gs ts τ Q
 | _=>False
theorem jgt{es:List Expr}{k:Nat}{gs:TGts}{n:Nat}(hc:X.calm=true)(h:JGs X es gs)(hn:(assignEach es X.env).length=n:=by rfl)(hst:(assignEach es X.env).findIdx? (·.1)=none:=by rfl):JG X (.Tuple es k pos) (gT n gs):=by
 intro pins s σ H v u Q I r hw
 obtain⟨t,τ,Q0,R,rt,hw,kk⟩:=hw
 cases t<;>first|exact hw.elim|skip
 ·rename_i ts
  rw[rep_tup]at rt
  obtain⟨p,vs,rfl,sq,rr⟩:=rt
  cases r
  obtain⟨its,rv,ht,hz⟩:=I.tuple sq
  refine assign_Tuple_tuple (I.ok.hd hc) ht (by simp[hn,← hw.1,← rr.length,rv.length]) hst fun h' hx=>?_
  have I1:Inv X pins σ H {s with heap:=h' }:=I.kept (t':=s.toks) fun b o e=>hx b o (Nat.ne_of_lt (Heap.lt_size e)) e
  exact h pins _ σ H vs _ Q I1 (by simpa using rv) ⟨ts,τ,Q0,R,rr,hw.2,kk⟩
 ·rename_i ts
  rw[rep_lst]at rt
  obtain⟨p,vs,rfl,sq,rr⟩:=rt
  cases r
  obtain⟨its,rv,ht,hz⟩:=I.list sq.sq
  refine assign_Tuple_list (I.ok.hd hc) ht.isList (by simp[hn,← hw.1,← rr.length,rv.length]) hst fun h' hx=>?_
  have I1:Inv X pins σ H {s with heap:=h' }:=I.kept (t':=s.toks) fun b o e=>hx b o (Nat.ne_of_lt (Heap.lt_size e)) e
  exact h pins _ σ H vs _ Q I1 (by simpa using rv) ⟨ts,τ,Q0,R,rr,hw.2,kk⟩
def sAsg(g:TGt)(w:WE):WS:=fun D τ=>w τ fun t=>g t τ D.nx
theorem jasg{tg:Expr}{g:TGt}(hg:JG X tg g)(he:JE X e w)(hs:swapsWithSole [tg] e pos.line X.env=pure false:=by rfl)(hw:swappedStores [tg] e X.env=pure none:=by rfl)
  (h1:(assignEach [tg] X.env).map (·.2)=[assign tg X.env]:=by rfl):JS X (.Assign [tg] e pos) (sAsg g w) :=
 ps_of (ps_asg he hg hs hw h1) fun D σ H ⟨τ,D0,R,hw,k,_⟩=>⟨τ,_,R,hw,fun t v H' S r q=>⟨t,τ,_,R.mono S,r,q,fun τ' σ' H2 S2 R2 q2=>k τ' σ' H2 (.of (S.trans S2)) R2 q2⟩⟩
def sPar(i j:Nat)(ws:WA):WS:=fun D τ=>ws τ fun ts=>match ts with|[x,y]=>D.nx (sput (sput τ i (.val x)) j (.val y))|_=>False
theorem jpar{i j:Nat}{x y:Str}{px py pt:Pos}{kt k2 pt2}(hc:X.calm=true)(hN:X.N.Nodup)(hi:X.N[i]?=some x)(hj:X.N[j]?=some y)(hij:i≠j)
  (hx:X.env.scope.names.lookup x=some .local) (hy:X.env.scope.names.lookup y=some .local) (ha:JA X [a,b] ws)
  (hw:swappedStores [.Tuple [.Name x px,.Name y py] kt pt] (.Tuple [a,b] k2 pt2) X.env=pure (some [x,y]))
  (hs:swapsWithSole [.Tuple [.Name x px,.Name y py] kt pt] (.Tuple [a,b] k2 pt2) pos.line X.env=pure false:=by rfl) :
  JS X (.Assign [.Tuple [.Name x px,.Name y py] kt pt] (.Tuple [a,b] k2 pt2) pos) (sPar i j ws) :=
 ps_of (ps_par hc hN hi hj hij hx hy ha hw hs) fun D σ H ⟨τ,D0,R,hw,k,_⟩=>⟨τ,_,R,hw,fun ts vs H' S r q=>by
  unfold sPar at hw
  match ts,r,q with
  | [x,y],r,q =>
   obtain⟨v,v',rfl,r1,r2⟩:=reps2 r
   exact⟨v,v',rfl,k _ _ H' (.of S) (((R.mono S).put r1).put r2) q⟩
  | [],_,q=>exact q.elim
  | [_],_,q=>exact q.elim
  | _::_::_::_,_,q=>exact q.elim⟩
def sWhile(ua:WT)(t:WS):WS:=fun D τ=>∃I:Nat->List Slot->Prop,(∃m,I m τ)/\∀m τ,I m τ->ua τ fun k =>
 (k=true->t {D with nx:=fun τ'=>∃m',m' < m/\I m' τ',ct:=fun τ'=>∃m',m' < m/\I m' τ',bk:=D.nx} τ)/\(k=false->D.nx τ)
theorem jwhile{c:Expr}{body:List Stmt}(hp:PassesOwn (model X.prog X.w) X.A X.env X.xe)(hc:JT X c ua)(hb:JSs X body t):JS X (.While c body [] pos) (sWhile ua t) :=
 ps_of (ps_while hp hc hb) fun D σ H ⟨τ,D0,R,⟨I,⟨m0,h0⟩,turn⟩,kn,kr,kb,kc⟩=>by
  refine⟨fun m σ' H'=>∃τ',RepSt X.K X.H₀ H' σ' τ'/\Kp H H'/\I m τ',⟨m0,τ,R,.refl H,h0⟩,fun m σ1 H1 ⟨τ1,R1,K1,i1⟩=>?_⟩
  refine⟨τ1,_,R1,turn m τ1 i1,fun k H2 S2 q=>?_⟩
  cases k with
  | true =>
   rw[if_pos rfl]
   have K2:=K1.trans (.of S2)
   have nx:∀τ' σ' H',Kp H2 H'->RepSt X.K X.H₀ H' σ' τ'->(∃m',m' < m/\I m' τ')->∃m',m' < m/\∃τ',RepSt X.K X.H₀ H' σ' τ'/\Kp H H'/\I m' τ':=fun τ' σ' H' K3 R3 ⟨m',lt,i3⟩=>⟨m',lt,τ',R3,K2.trans K3,i3⟩
   exact⟨fun σ' H'=>∃m',m' < m/\∃τ',RepSt X.K X.H₀ H' σ' τ'/\Kp H H'/\I m' τ',fun σ' H' z=>z,τ1,_,R1.mono S2,q.1 rfl,nx,kr,fun τ' σ' H' K3 R3 q3=>kn τ' σ' H' (K2.trans K3) R3 q3,nx⟩
  | false =>
   rw[if_neg Bool.false_ne_true]
   exact kn τ1 σ1 H2 (K1.trans (.of S2)) (R1.mono S2) (q.2 rfl)
abbrev WI:=List Slot->(List T->Prop)->Prop
def Wk(K:PySem.W.Frag)(J:It)(ts:List T)(H1:Hp):Prop:=∀H2,Kp H1 H2->(∀i t,ts[i]?=some t->J.go i H2/\∀x H3,J.yld i H2 x H3->Same H2 H3/\Rep K H3 t x)/\J.stop ts.length H2
def upI(K:PySem.W.Frag)(H0:Hp)(w:WI):TI:=fun σ H R=>∃(τ:List Slot) (Q0:List T->Prop),RepSt K H0 H σ τ/\w τ Q0/\∀ts J H',Same H H'->Wk K J ts H'->Q0 ts->R J H'
def JI(X:Cx)(tg iter:Expr)(w:WI):Prop:=PI X tg iter (upI X.K X.H₀ w)
theorem pi_of{tg iter:Expr}{t t':TI}(h:PI X tg iter t)(f:∀σ H R,t' σ H R->t σ H R):PI X tg iter t':=fun pins s σ H R I hw=>h pins s σ H R I (f σ H R hw)
def forT(g:TGt)(t:WS):List T->WS
 | [],D,τ=>D.nx τ
 | x::xs,D,τ=>g x τ fun τ1=>t {D with nx:=forT g t xs D,ct:=forT g t xs D,bk:=D.nx} τ1
def sFor(wi:WI)(g:TGt)(t:WS):WS:=fun D τ=>wi τ fun ts=>forT g t ts D τ
theorem jfor{tg iter:Expr}{body:List Stmt}{wi:WI}{g:TGt}(hp:PassesOwn (model X.prog X.w) X.A X.env X.xe)(hc:X.calm=true)(hi:JI X tg iter wi)(hg:JG X tg g)(hb:JSs X body t)
  (hs:∀x,foldedSetIterable iter X.env x=pure x:=by intro _;rfl):JS X (.For tg iter body [] pos) (sFor wi g t) :=
 ps_of (ps_for hp hc hi hg hb hs) fun D σ H ⟨τ,D0,R,hw,kn,kr,kb,kc⟩=>by
  refine⟨τ,_,R,hw,fun ts J H1 S1 wk q=>?_⟩
  have K0:=Kp.of S1
  refine⟨fun i m σ' H'=>m=ts.length - i/\i<=ts.length/\∃τ',RepSt X.K X.H₀ H' σ' τ'/\Kp H1 H'/\forT g t (ts.drop i) D0 τ',⟨ts.length,by simp,Nat.zero_le _,τ,R.mono S1,.refl H1,by simpa using q⟩,?_⟩
  rintro i m σ2 H2 ⟨rfl,hi,τ2,R2,K2,q2⟩
  obtain⟨wi,ws⟩:=wk H2 K2
  by_cases hlt:i < ts.length
  ·refine .inr ?_
   have ei:ts[i]?=some ts[i]:=List.getElem?_eq_getElem hlt
   obtain⟨go,yl⟩:=wi i _ ei
   rw[List.drop_eq_getElem_cons hlt]at q2
   refine⟨go,fun σ' H'=>∃τ',RepSt X.K X.H₀ H' σ' τ'/\Kp H1 H'/\forT g t (ts.drop (i + 1)) D0 τ',fun σ' H' ⟨τ',R',K',q'⟩=>⟨ts.length - (i + 1),by omega,rfl,hlt,τ',R',K',q'⟩,fun x H3 y=>?_⟩
   obtain⟨S3,r3⟩:=yl x H3 y
   refine⟨ts[i],τ2,_,R2.mono S3,r3,q2,fun τ4 σ4 H4 S4 R4 q4=>?_⟩
   have K4:=K2.trans (.of (S3.trans S4))
   have nx:∀τ' σ' H',Kp H4 H'->RepSt X.K X.H₀ H' σ' τ'->forT g t (ts.drop (i + 1)) D0 τ'->∃τ',RepSt X.K X.H₀ H' σ' τ'/\Kp H1 H'/\forT g t (ts.drop (i + 1)) D0 τ':=fun τ' σ' H' K5 R5 q5=>⟨τ',R5,K4.trans K5,q5⟩
   exact⟨τ4,_,R4,q4,nx,kr,fun τ' σ' H' K5 R5 q5=>kn τ' σ' H' (K0.trans (K4.trans K5)) R5 q5,nx⟩
  ·have e:i=ts.length:=by omega
   subst e
   rw[List.drop_length]at q2
   exact .inl ⟨ws,kn τ2 σ2 H2 (K0.trans K2) R2 q2⟩
def iSeq(w:WE):WI:=fun τ Q=>w τ fun t=>match t with
 | .tup ts=>Q ts
 | .lst ts=>Q ts
 | _=>False
theorem jiSeq{tg l:Expr}(h:JE X l w):JI X tg l (iSeq w):=by
 intro pins s σ H R I hw
 obtain⟨τ,Q0,Rs,hw,k⟩:=hw
 refine thn (h pins s σ H (fun v H1=>∃t,Same H H1/\Rep X.K H1 t v/\(match t with | .tup ts=>Q0 ts | .lst ts=>Q0 ts|_=>False)) I ⟨τ,_,Rs,hw,fun t v H1 S r q=>⟨t,S,r,q⟩⟩) fun v s1 ⟨x,H1,I1,r1,t,S1,rt,q1⟩=>?_
 cases t<;>first|exact q1.elim|skip
 ·rename_i ts
  rw[rep_tup]at rt
  obtain⟨a,vs,rfl,hq,rr⟩:=rt
  cases r1
  obtain⟨its,rv,p,hz⟩:=I1.tuple hq
  refine wpAny_pyIter_tuple (show s1.heap.IsTuple a its.toArray from p) ?_
  refine⟨s1.heap.objs.size,[s1.heap.objs.size],_,_,H1,rfl,I1.kept (t':=s1.toks) fun b o e=>Heap.get?_push_of_some _ e,turn_tuple a _,⟨_,Heap.get?_push_size _ rfl,rfl,rfl⟩,fun b hb=>?_,k ts (Itt X.K a) H1 S1 ?_ q1⟩
  ·have e:b=s1.heap.objs.size:=by simpa using hb
   subst e
   exact I1.fpOk (Nat.le_refl _) (I1.hok.fresh (Nat.le_refl _))
  ·intro H2 K2
   have sq2:=sqT_kp K2 hq
   refine⟨fun i t ei=>?_,⟨vs,sq2,by rw[rr.length];exact Nat.le_refl _⟩⟩
   obtain⟨v,ev,rv⟩:=rr.get ei
   refine⟨⟨vs,v,sq2,ev⟩,fun x H3 y=>?_⟩
   obtain⟨rfl,y⟩:=y
   have z:=y vs sq2
   rw[ev]at z
   cases z
   exact⟨.refl _,rv.kp K2⟩
 ·rename_i ts
  rw[rep_lst]at rt
  obtain⟨a,vs,rfl,hq,rr⟩:=rt
  cases r1
  obtain⟨its,rv,p,hz⟩:=I1.list hq.sq
  refine wpAny_pyIter_list p.isList ?_
  refine⟨s1.heap.objs.size,[s1.heap.objs.size],_,_,H1,rfl,I1.kept (t':=s1.toks) fun b o e=>Heap.get?_push_of_some _ e,turn_list a _,⟨_,Heap.get?_push_size _ rfl,rfl,rfl⟩,fun b hb=>?_,k ts (Itl X.K a) H1 S1 ?_ q1⟩
  ·have e:b=s1.heap.objs.size:=by simpa using hb
   subst e
   exact I1.fpOk (Nat.le_refl _) (I1.hok.fresh (Nat.le_refl _))
  ·intro H2 K2
   have sq2:=(sqF_kp K2 hq).sq
   refine⟨fun i t ei=>?_,⟨vs,sq2,by rw[rr.length];exact Nat.le_refl _⟩⟩
   obtain⟨v,ev,rv⟩:=rr.get ei
   refine⟨⟨vs,v,sq2,ev⟩,fun x H3 y=>?_⟩
   obtain⟨rfl,y⟩:=y
   have z:=y vs sq2
   rw[ev]at z
   cases z
   exact⟨.refl _,rv.kp K2⟩
def rangeT:Int->Nat->List T
 | _,0=>[]
 | lo,n + 1=>.int lo::rangeT (lo + 1) n
theorem rangeT_length:∀(lo:Int)(n:Nat),(rangeT lo n).length=n
 | _,0=>rfl
 | lo,n + 1=>by simp[rangeT,rangeT_length (lo + 1) n]
theorem rangeT_get:∀(lo:Int)(n i:Nat),i < n->(rangeT lo n)[i]?=some (.int (lo + i))
 | _,0,_,h=>by omega
 | lo,n + 1,0,_=>by simp[rangeT]
 | lo,n + 1,i + 1,h=>by
  simp only[rangeT,List.getElem?_cons_succ]
  rw[rangeT_get (lo + 1) n i (by omega)]
  congr 2
  push_cast
  omega
theorem wk_range{K:PySem.W.Frag}{H:Hp}(lo:Int)(n:Nat):Wk K (Itr lo n) (rangeT lo n) H:=by
 intro H2 _
 refine⟨fun i t ei=>?_,by show n<=_;rw[rangeT_length];exact Nat.le_refl _⟩
 have hi:i < n:=by
  have:=(List.getElem?_eq_some_iff.mp ei).1
  rwa [rangeT_length]at this
 rw[rangeT_get lo n i hi]at ei
 cases ei
 refine⟨hi,fun x H3 y=>?_⟩
 obtain⟨rfl,rfl⟩:=y
 exact⟨.refl _,rep_int.mpr rfl⟩
def iRange1(ws:WA):WI:=fun τ Q=>ws τ fun ts=>match ts with
 | [.int j]=>(-(2 ^ 62)<=j/\j < 2 ^ 62)/\Q (rangeT 0 j.toNat)
 | _=>False
theorem one_int{P:Int->Prop}{ts:List T}(h:match ts with|[.int j]=>P j|_=>False):∃j,ts=[.int j]/\P j:=by
 split at h
 ·exact⟨_,rfl,h⟩
 ·exact h.elim
theorem two_int{P:Int->Int->Prop}{ts:List T}(h:match ts with|[.int i,.int j]=>P i j|_=>False):∃i j,ts=[.int i,.int j]/\P i j:=by
 split at h
 ·exact⟨_,_,rfl,h⟩
 ·exact h.elim
theorem jiRange1{tg:Expr}{p:Pos} (hg:Gl X "range") (hm:X.mg "range" = none) (ha:JA X [a] ws) (hs:starEach [a] X.env=[(false,eval a X.env)]:=by rfl):JI X tg (.Call (.Name "range" p) [a] [] pos) (iRange1 ws) :=
 pi_of (pi_range1 hg hm ha hs) fun σ H R ⟨τ,Q0,Rs,hw,k⟩=>⟨τ,_,Rs,hw,fun ts vs H1 S1 r q=>by
   obtain⟨j,e0,q⟩:=one_int (P:=fun j=>(-(2 ^ 62)<=j/\j < 2 ^ 62)/\Q0 (rangeT 0 j.toNat)) q
   subst e0
   obtain⟨v,rfl,r1⟩:=reps1 r
   exact⟨j,by rw[rep_int.mp r1],q.1.1,q.1.2,k _ _ H1 S1 (wk_range 0 j.toNat) q.2⟩⟩
def iRange2(ws:WA):WI:=fun τ Q=>ws τ fun ts=>match ts with
 | [.int i,.int j]=>(-(2 ^ 62)<=i/\i < 2 ^ 62 /\ -(2 ^ 62)<=j/\j < 2 ^ 62)/\Q (rangeT i (j - i).toNat)
 | _=>False
theorem jiRange2{tg:Expr}{p:Pos} (hg:Gl X "range") (hm:X.mg "range" = none) (ha:JA X [a,b] ws) (hs:starEach [a,b] X.env=[(false,eval a X.env),(false,eval b X.env)]:=by rfl) (hs2:starEach [b] X.env=[(false,eval b X.env)]:=by rfl) :
  JI X tg (.Call (.Name "range" p) [a,b] [] pos) (iRange2 ws) :=
 pi_of (pi_range2 hg hm ha hs hs2) fun σ H R ⟨τ,Q0,Rs,hw,k⟩=>⟨τ,_,Rs,hw,fun ts vs H1 S1 r q=>by
   obtain⟨i,j,e0,q⟩:=two_int (P:=fun i j=>(-(2 ^ 62)<=i/\i < 2 ^ 62 /\ -(2 ^ 62)<=j/\j < 2 ^ 62)/\Q0 (rangeT i (j - i).toNat)) q
   subst e0
   obtain⟨v,v',rfl,r1,r2⟩:=reps2 r
   exact⟨i,j,by rw[rep_int.mp r1,rep_int.mp r2],q.1,k _ _ H1 S1 (wk_range i (j - i).toNat) q.2⟩⟩
end
end TL
end
section
namespace TL
open PySem PySem.Spec PyProof.Rows L2
section
variable {X:Cx} {pins:List (Addr×Obj)} {σ:St} {H:Hp} {s:Shared} {h':Heap}
theorem Inv.turnedT{t':Nat}{ch:List Addr}{p:Addr}{xs:List V}{us:List Value}(I:Inv X pins σ H s)(k:∀b o,b∉ch->s.heap.get? b=some o->h'.get? b=some o)(kt:∀b∈ch,∃o,h'.get? b=some o)
  (hch:∀b∈ch,FpOk X pins H b) (hp:s.heap.objs.size<=p) (hz:xs.length<=sizeLine) (r:Vals xs us) (ht:IsTup h' p us.toArray):Inv X pins σ (upd H p (.tup xs)) {s with heap:=h',toks:=t' }:=by
 have hpn:H p=none:=I.hok.fresh hp
 have nch:∀b u,H b=some u->b∉ch:=fun b u e z=>by rw[(hch b z).1]at e;cases e
 have nep:∀b u,H b=some u->b≠p:=fun b u e z=>by subst z;rw[hpn]at e;cases e
 have nlt:∀b o,s.heap.get? b=some o->b≠p:=fun b o e=>Nat.ne_of_lt (Nat.lt_of_lt_of_le (Heap.lt_size e) hp)
 refine I.step (g':=s.gens) (d':=s.drawn) (ch:=ch) (fun b hb=>?_) (fun b o _ _ hc e _=>k b o hc e) (fun b o _ _ hc e _=>⟨o.slots,k b o hc e⟩) (fun b o _ e n=>by rw[upd_ne (nlt b o e)];exact n)
  (fun b o hc e=>⟨o,k b o hc e⟩) (fun b ys e=>by rw[upd_ne (nep b _ e)];exact e) (fun b o u e=>by rw[upd_ne (nep b _ e)];exact e) (fun b ps e=>⟨#[],by rw[upd_ne (nep b _ e),e];simp⟩) (fun m hm=>?_) (fun b u e=>?_) I.bare
 ·obtain⟨f0,f1,f2,f3,f4,f5⟩:=hch b hb
  exact⟨f3,f1,f4,f5⟩
 ·obtain⟨o,es,ep,ho,r⟩:=hm
  exact⟨o,es,ep,k _ o (fun z=>(hch _ z).2.1 rfl) ho,r⟩
 ·by_cases hb:b=p
  ·subst hb
   rw[upd_same]at e
   cases e
   exact⟨hz,us,r,ht⟩
  ·rw[upd_ne hb]at e
   refine(I.hok b u e).stay (fun c v hc q=>k c v ?_ q) (fun c q=>by rw[upd_ne (nep c _ q)];exact q) fun c ys q=>by rw[upd_ne (nep c _ q)];exact q
   rcases hc with z|z
   ·rw[z];exact nch b u e
   ·exact nch c _ z
theorem Inv.turnedL{t':Nat}{ch:List Addr}(I:Inv X pins σ H s)(k:∀b o,b∉ch->s.heap.get? b=some o->h'.get? b=some o)
  (hch:∀b∈ch,FpOk X pins H b):Inv X pins σ H {s with heap:=h',toks:=t' }:=by
 have nch:∀b u,H b=some u->b∉ch:=fun b u e z=>by rw[(hch b z).1]at e;cases e
 refine I.step (g':=s.gens) (d':=s.drawn) (ch:=ch) (fun b hb=>?_) (fun b o _ _ hc e _=>k b o hc e) (fun b o _ _ hc e _=>⟨o.slots,k b o hc e⟩) (fun b o _ e n=>n)
  (fun b o hc e=>⟨o,k b o hc e⟩) (fun b ys e=>e) (fun b o u e=>e) (fun b ps e=>⟨#[],by rw[e];simp⟩) (fun m hm=>?_) (fun b u e=>?_) I.bare
 ·obtain⟨f0,f1,f2,f3,f4,f5⟩:=hch b hb
  exact⟨f3,f1,f4,f5⟩
 ·obtain⟨o,es,ep,ho,r⟩:=hm
  exact⟨o,es,ep,k _ o (fun z=>(hch _ z).2.1 rfl) ho,r⟩
 ·refine(I.hok b u e).stay (fun c v hc q=>k c v ?_ q) (fun _ q=>q) fun _ _ q=>q
  rcases hc with z|z
  ·rw[z];exact nch b u e
  ·exact nch c _ z
end
def Ite(K:PySem.W.Frag)(a:Addr):It :=
 ⟨fun i H=>∃xs x,SqL K H a xs/\xs[i]?=some x,fun i H x H'=>∃p y,H p=none/\x=.ref p/\H'=upd H p (.tup [.int i,y])/\∀xs,SqL K H a xs->xs[i]?=some y,fun i H=>∃xs,SqL K H a xs/\xs.length<=i⟩
theorem turn_enum{P:Program}{w:World}{K:PySem.W.Frag}{elts:List Expr}{x1}{tp:Pos}(a it en:Addr)(hne:en≠it) :
  Turn P w K (.Tuple elts x1 tp) (Ite K a) [en,it] en (fun i h=>(∃old,IsEnum h en it i old)/\h.IsListIter it a i) where
 mem:=by simp
 obj:=fun i h st b hb=>by
  obtain⟨⟨old,he⟩,o,e,c,d⟩:=st
  rcases List.mem_cons.mp hb with rfl|hb
  ·exact⟨_,he,fun v z=>by cases z⟩
  ·have e':b=it:=by simpa using hb
   subst e'
   exact⟨o,e,fun v z=>by rw[d]at z;cases z⟩
 keep:=fun i h h' st k=>⟨let ⟨old,he⟩:=st.1;⟨old,k en (by simp) _ he⟩,st.2.at fun o e=>k it (by simp) o e⟩
 item:=by
  intro X hP hw hK hc i pins s σ H E I hf st hg
  subst hP hw hK
  obtain⟨⟨old,he⟩,hit⟩:=st
  obtain⟨xs,x,hq,hx⟩:=hg
  obtain⟨its,rv,p,hz⟩:=I.list hq
  obtain⟨u,hu,ru⟩:=rv.get hx
  refine wpAny_pyNext_enum_item he hit p.isList (x:=u) (by simpa using hu) hne fun h1 heo hit1 ht1 hz1 hk1=>⟨_,rfl,?_⟩
  refine wpAny_letOwnedTupleGo_enum heo fun h2 he2 hs2=>?_
  have hpn:H s.heap.objs.size=none:=I.hok.fresh (Nat.le_refl _)
  have lt:∀b∈[en,it],b < s.heap.objs.size:=fun b hb=>by
   rcases List.mem_cons.mp hb with rfl|hb
   ·exact Heap.lt_size he
   ·have e':b=it:=by simpa using hb
    subst e'
    obtain⟨o,e,_⟩:=hit
    exact Heap.lt_size e
  have ht2:IsTup h2 s.heap.objs.size [Value.int i s.toks,u].toArray:=⟨_,(hs2.2 _ (Nat.ne_of_gt (lt en (by simp)))).trans ht1,rfl,_,rfl⟩
  have I2:Inv X pins σ (upd H s.heap.objs.size (.tup [.int i,x])) {s with heap:=h2,toks:=s.toks + 1}:=by
   refine Inv.turnedT (ch:=[en,it]) I (fun b o hb e=>?_) (fun b hb=>?_) hf (Nat.le_refl _) (by show 2<=sizeLine;decide) (.cons ⟨_,rfl⟩ (.cons ru .nil)) ht2
   ·have n1:b≠en:=fun z=>hb (by simp[z])
    have n2:b≠it:=fun z=>hb (by simp[z])
    exact(hs2.2 b n1).trans (hk1 b o n1 n2 e)
   ·rcases List.mem_cons.mp hb with rfl|hb
    ·exact⟨_,he2⟩
    ·have e':b=it:=by simpa using hb
     subst e'
     obtain⟨o,e,_⟩:=hit1
     exact⟨o,(hs2.2 b (Ne.symm hne)).trans e⟩
  refine⟨.ref s.heap.objs.size,_,I2,rfl,⟨_,x,hpn,rfl,rfl,fun ys hy=>by rw[I.list_inj hy hq];exact hx⟩,⟨⟨u,?_⟩,?_⟩,fun b hb=>?_⟩
  ·exact he2
  ·obtain⟨o,e,r⟩:=hit1
   exact⟨o,(hs2.2 it (Ne.symm hne)).trans e,r⟩
  ·rw[upd_ne (Nat.ne_of_lt (lt b hb))]
   exact(hf b hb).1
 done:=by
  intro X hP hw hK hc i pins s σ H E I hf st hg
  subst hP hw hK
  obtain⟨⟨old,he⟩,hit⟩:=st
  obtain⟨xs,hq,hx⟩:=hg
  obtain⟨its,rv,p,hz⟩:=I.list hq
  have hl:=rv.length
  refine wpAny_pyNext_enum_end (I.ok.hd hc) he hit p.isList (by simp;omega) fun h1 eb=>⟨rfl,?_⟩
  refine Inv.turnedL (ch:=[en,it]) I (t':=s.toks) (fun b o hb e=>eb b o (fun z=>hb (by simp[z])) e) hf
 self:=fun _ _ _ _ _ st h=>let ⟨old,he⟩:=st.1;wpAny_pyIter_enum he h
def enumT:Nat->List T->List T
 | _,[]=>[]
 | i,x::xs=>.tup [.int i,x]::enumT (i + 1) xs
theorem enumT_length:∀(i:Nat)(ts:List T),(enumT i ts).length=ts.length
 | _,[]=>rfl
 | i,_::r=>by simp[enumT,enumT_length (i + 1) r]
theorem enumT_get:∀(ts:List T)(j i:Nat)(t:T),ts[i]?=some t->(enumT j ts)[i]?=some (.tup [.int ((j + i:Nat):Int),t])
 | [],_,_,_,h=>by simp at h
 | x::r,j,0,t,h=>by simp at h;subst h;simp[enumT]
 | x::r,j,i + 1,t,h=>by
  simp only[enumT,List.getElem?_cons_succ]
  rw[enumT_get r (j + 1) i t (by simpa using h)]
  congr 5
  omega
section
variable {X:Cx} {a:Expr} {wa w:WE} {ws:WA} {pos:Pos}
def iEnum(ws:WA):WI:=fun τ Q=>ws τ fun ts=>match ts with
 | [.lst xs]=>Q (enumT 0 xs)
 | _=>False
theorem one_lst{P:List T->Prop}{ts:List T}(h:match ts with|[.lst xs]=>P xs|_=>False):∃xs,ts=[.lst xs]/\P xs:=by
 split at h
 ·exact⟨_,rfl,h⟩
 ·exact h.elim
theorem jiEnum{elts:List Expr}{x1}{tp p:Pos} (hg:Gl X "enumerate") (hm:X.mg "enumerate" = none) (ha:JA X [a] ws) (hs:starEach [a] X.env=[(false,eval a X.env)]:=by rfl) :
  JI X (.Tuple elts x1 tp) (.Call (.Name "enumerate" p) [a] [] pos) (iEnum ws):=by
 intro pins s σ H R I hw
 obtain⟨τ,Q0,Rs,hw,k⟩:=hw
 refine Call_ (ld_blt I hg hm boot_enumerate (PyProof.Rows.callWith_type1 (thn (ha pos pins s σ H (fun vs H1=>∃ts,Same H H1/\Reps X.K H1 ts vs/\(match ts with|[.lst xs]=>Q0 (enumT 0 xs)|_=>False)) I ⟨τ,_,Rs,hw,fun ts vs H1 S r q=>⟨ts,S,r,q⟩⟩) fun us s1 ⟨vs,H1,I1,r1,ts,S1,rt,q1⟩=>?_) hs rfl))
 ·obtain⟨xs,e0,q1⟩:=one_lst (P:=fun xs=>Q0 (enumT 0 xs)) q1
  subst e0
  obtain⟨v,rfl,rt1⟩:=reps1 rt
  rw[rep_lst]at rt1
  obtain⟨l,vs,rfl,hq,rr⟩:=rt1
  obtain⟨u,rfl,ru⟩:=vals1 r1
  cases ru
  obtain⟨its,rv,pl,hz⟩:=I1.list hq.sq
  refine call_enumerate_list pl.isList fun h2 he hit hsz hk=>?_
  refine wpAny_pyIter_enum he ?_
  have I2:Inv X pins σ H1 {s1 with heap:=h2}:=I1.kept (t':=s1.toks) hk
  refine⟨s1.heap.objs.size + 1,[s1.heap.objs.size + 1,s1.heap.objs.size],_,Ite X.K l,H1,rfl,I2,turn_enum l s1.heap.objs.size (s1.heap.objs.size + 1) (Nat.succ_ne_self _),⟨⟨_,he⟩,hit⟩,fun b hb=>?_,k _ _ H1 S1 ?_ q1⟩
  ·have hb':s1.heap.objs.size<=b:=by
    rcases List.mem_cons.mp hb with rfl|hb
    ·exact Nat.le_succ _
    ·have e:b=s1.heap.objs.size:=by simpa using hb
     rw[e]
     exact Nat.le_refl _
   exact I1.fpOk hb' (I1.hok.fresh hb')
  ·intro H2 K2
   have sq2:=(sqF_kp K2 hq).sq
   refine⟨fun i t ei=>?_,⟨vs,sq2,by rw[rr.length,enumT_length];exact Nat.le_refl _⟩⟩
   have hi:i < xs.length:=by
    have:=(List.getElem?_eq_some_iff.mp ei).1
    rwa [enumT_length]at this
   have ex:xs[i]?=some xs[i]:=List.getElem?_eq_getElem hi
   rw[enumT_get xs 0 i _ ex]at ei
   cases ei
   obtain⟨v,ev,rv⟩:=rr.get ex
   refine⟨⟨vs,v,sq2,ev⟩,fun x H3 y=>?_⟩
   obtain⟨p,y,hp,rfl,rfl,hy⟩:=y
   have z:=hy vs sq2
   rw[ev]at z
   cases z
   refine⟨same_new hp _,rep_tup.mpr ⟨p,_,rfl,SqT.of upd_same,.cons (rep_int.mpr ?_) (.one ((rv.kp K2).kp (.of (same_new hp _))))⟩⟩
   simp
end
end TL
end
section
namespace TL
open PySem PySem.Spec PyProof.Rows L2
def Cal(P:Program)(w:World)(K:PySem.W.Frag)(mg:Str->Option Value)(base:Heap)(k:Nat)(x:Str)(ps:List Str)(S:SpT):Prop :=
 ∃f fd,FnT P w K mg base k f fd ps S/\Binds K fd ps []/\PySem.W.keepIn K (.ref f)=true/\mg x=some (.ref f)
theorem Cal.mk{P:Program}{w:World}{K:PySem.W.Frag}{mg:Str->Option Value}{base:Heap}{k:Nat}{x qual:Str}{ps:List Str}{S:SpT}{st:Stmt}{f:Addr}{fd:FuncData}(F:Fun K x qual st f fd)(m:mg x=some (.ref f))
  (b:Binds K fd ps []) (h:FnT P w K mg base k f fd ps S):Cal P w K mg base k x ps S:=⟨f,fd,h,b,F.kp,m⟩
section
variable {X:Cx} {a b c e:Expr} {es:List Expr} {wa wb wc w:WE} {ws:WA} {pos:Pos} {st:Stmt}
theorem jcallC{k:Nat}{ps:List Str}{S:SpT}{x:Str}{p:Pos}(C:Cal X.prog X.w X.K X.mg X.base k x ps S)(hr:Room k X.A)(hg:Gl X x)
  (ha:JA X (e::es) ws) (hdb:(x==("__debug__" : Str))=false:=by decide) (he:starEach (e::es) X.env=(false,eval e X.env)::starEach es X.env:=by exact star1 rfl)
  (hpl:(backTo pos (starEach es X.env)).any (·.1)=false:=by exact stars rfl):JE X (.Call (.Name x p) (e::es) [] pos) (wCall S ws):=by
 obtain⟨f,fd,F,hb,hk,hm⟩:=C
 exact jcall F hr hg hm hk hb ha hdb he hpl
def sNever:WS:=fun _ _=>False
theorem jnever:JS X st sNever:=ps_of ps_never fun D σ H ⟨τ,D0,R,hw,_⟩=>hw.elim
def GlV(K:PySem.W.Frag)(t:T)(u:Value):Prop:=∃v,RelV v u/\∀H,Rep K H t v
def GlC(K:PySem.W.Frag)(mg:Str->Option Value)(x:Str)(t:T):Prop:=∃u,mg x=some u/\GlV K t u
theorem jglobC{x:Str}{t:T}{pos:Pos}(g:GlC X.K X.mg x t)(hg:Gl X x) (hd:(x==("__debug__" : Str))=false:=by decide):JE X (.Name x pos) (wC t):=by
 obtain⟨u,hm,v,r,q⟩:=g
 exact jglob hg hm r q hd
end
def lawSp:SpT:=fun ts Q=>∃ns:List Int,ts=[.lst (ns.map T.int)]/\ns.length<=63/\Q (.bl true)
theorem len_law:∀ts Q,lawSp ts Q->ts.length=1:=fun ts Q ⟨ns,e,_⟩=>by subst e;rfl
theorem law_start{K:PySem.W.Frag}{H:Hp}{a:Addr}{ns:List Int}(hl:ns.length<=63)(hO:Only H)(hS:SqL K H a (ns.map V.int)):spT K 1 lawSp [.ref a] H (fun v _=>v=.bl true) fun _ _ _=>False:=by
 have sq:SqF K H a (ns.map V.int):=by
  rcases hS with (h|⟨o,h⟩)|h
  ·rcases hO a with z|⟨o,xs,z⟩
   ·rw[z]at h;cases h
   ·rw[z]at h;cases h
  ·exact .inl ⟨o,h⟩
  ·exact .inr h
 exact⟨_,fun t=>t=.bl true,rfl,.one (rep_lst.mpr ⟨a,_,rfl,sq,reps_ints ns⟩),⟨ns,rfl,hl,rfl⟩,fun t v H' S r q=>by subst q;exact rep_bl.mp r⟩
theorem walk{l:PySem.W.OpenLaw}{k:Nat}{x:Str}{q:Program}{loose:List Str}{XP:(Str->Option Value)->Heap->Prop}{YP:World->Heap->Prop}{d:DefRec}{K:Params->PySem.W.Frag}(hn:l.most=some 63)(hdf:d.params.defaults=[])(hr:Room k callerA)
  (hY:∀(w:World)(h:Heap),YP w h->(K w.params).In h)
  (F:∀(w:World)(mg:Str->Option Value)(fa:Addr)(h:Heap),(K w.params).In h->h.Ns mainGlobals mg->mg d.name=some (.ref fa) →
   ∃fd:FuncData,(∀(s:Shared)(u:Value),BindsTo s fd ⟨[u],[]⟩ [(x,u)])/\∀base:Heap,(K w.params).In base->base.Ns mainGlobals mg->FnOk l.prog w (K w.params) mg base CX0 k fa fd [x] (spT (K w.params) 1 lawSp)) :
  PySem.W.WalkO q loose XP YP l.row.toRowW d [] (fun f vs=>PySem.call f vs) :=
 L2.walk_of (n:=63) (k:=k) (x:=x) (CX:=fun _=>CX0) (sp:=fun w=>spT (K w.params) 1 lawSp) hn (by decide) hdf hr hY F (fun _ _ _ _ hl hO hS=>law_start hl hO hS) fun _ _ _ _ _ z=>z
end TL
end
section
namespace TL
open PySem PySem.Spec PyProof.Rows L2
theorem closLoop{env:Env}:∀(names:List (Str×NameKind))(cs:List (Str×Addr)),(∀x∈names,x.2=.free->∃c,env.cells.lookup x.1=some c)->(∀x c,cs.lookup x=some c->env.cells.lookup x=some c) →
  ∃cl,(forIn names cs fun x cs=>(if (x.2==NameKind.free)=true then do let a ← cellOf env x.1;pure (ForInStep.yield ((x.1,a)::cs)) else pure (ForInStep.yield cs):Sem (ForInStep (List (Str×Addr)))))=(pure cl:Sem (List (Str×Addr))) ∧
   (∀x c,cl.lookup x=some c->env.cells.lookup x=some c)/\(∀x c,cs.lookup x=some c->∃c,cl.lookup x=some c)/\∀x∈names,x.2=.free->∃c,cl.lookup x.1=some c
 | [],cs,_,hc=>⟨cs,rfl,hc,fun x c e=>⟨c,e⟩,fun _ h=>nomatch h⟩
 | (n,k)::r,cs,h,hc=>by
  by_cases hk:k=.free
  ·subst hk
   obtain⟨c,ec⟩:=h (n,.free) List.mem_cons_self rfl
   have e0:cellOf env n=pure c:=by unfold cellOf;rw[ec]
   obtain⟨cl,e,p1,p2,p3⟩:=closLoop (env:=env) r ((n,c)::cs) (fun x hx=>h x (List.mem_cons_of_mem _ hx)) (fun x d e=>by
    by_cases hx:x=n
    ·subst hx
     simp at e
     subst e
     exact ec
    ·have hb:(x==n)=false:=by simpa using hx
     rw[List.lookup_cons,hb]at e
     exact hc x d e)
   refine⟨cl,?_,p1,fun x d e=>?_,fun x hx hf=>?_⟩
   ·rw[List.forIn_cons]
    show ((if (NameKind.free==NameKind.free)=true then _ else _) >>= _)=_
    rw[if_pos (show (NameKind.free==NameKind.free)=true from rfl)]
    show ((cellOf env n >>= fun a=>pure (ForInStep.yield ((n,a)::cs))) >>= _)=_
    rw[e0]
    exact e
   ·by_cases hx:x=n
    ·subst hx
     exact p2 x c (by simp)
    ·have hb:(x==n)=false:=by simpa using hx
     exact p2 x d (by rw[List.lookup_cons,hb];exact e)
   ·rcases List.mem_cons.mp hx with rfl|hx
    ·exact p2 n c (by simp)
    ·exact p3 x hx hf
  ·have hb:(k==NameKind.free)=false:=by simpa using hk
   obtain⟨cl,e,p1,p2,p3⟩:=closLoop (env:=env) r cs (fun x hx=>h x (List.mem_cons_of_mem _ hx)) hc
   refine⟨cl,?_,p1,p2,fun x hx hf=>?_⟩
   ·rw[List.forIn_cons]
    show ((if (k==NameKind.free)=true then _ else _) >>= _)=_
    rw[if_neg (by rw[hb];exact Bool.false_ne_true)]
    exact e
   ·rcases List.mem_cons.mp hx with rfl|hx
    ·exact absurd hf hk
    ·exact p3 x hx hf
theorem closureFor_of{scope:Scope}{env:Env}(h:∀x∈scope.names,x.2=.free->∃c,env.cells.lookup x.1=some c) :
  ∃cl,closureFor scope env=pure cl/\(∀x c,cl.lookup x=some c->env.cells.lookup x=some c)/\∀x∈scope.names,x.2=.free->∃c,cl.lookup x.1=some c:=by
 obtain⟨cl,e,p1,_,p3⟩:=closLoop (env:=env) scope.names [] h (fun x c e=>by simp at e)
 refine⟨cl,?_,p1,p3⟩
 unfold closureFor
 have:(forIn scope.names ([]:List (Str×Addr)) fun x cs=>(match x with|(name,kind)=>(if (kind==NameKind.free)=true then do let a ← cellOf env name;pure (ForInStep.yield ((name,a)::cs)) else pure (ForInStep.yield cs):Sem (ForInStep (List (Str×Addr))))))=(pure cl:Sem (List (Str×Addr))):=e
 first
  | (rw[this];rfl)
  | (show (forIn scope.names ([]:List (Str×Addr)) _ >>= fun cs=>pure cs)=_;rw[this];rfl)
def compCx(X:Cx)(N:List Str)(scope:Scope)(cl:List (Str×Addr))(C:Addr)(s3:Shared)(H2:Hp)(ex:List Addr):Cx where
 prog:=X.prog
 w:=X.w
 K:=X.K
 mg:=X.mg
 base:=X.base
 A:=X.A
 N:=N
 s₀:=s3
 H₀:=H2
 env:=compEnvC scope cl C X.env
 outer:=X.stack
 stack:=X.stack
 ex:=ex
 fn:=fun _=>false
 calm:=true
 pn:=[]
 xe:=fun _ _=>False
section
variable {prog:Program} {w:World} {A:Around} {E:Value->Shared->Prop} {R:Result->Shared->Prop} {s:Shared}
theorem codeAny_compLoop_any{elt target iter:Expr}{ifs:List Expr}{scope:Scope}{pos:Pos}{it acc:Value}{env:Env}(I:Nat->Shared->Prop)
  (turn:∀n s,I n s->wpAny (model prog w) A (pyNext it) (fun r s₁=>match r with
   | none=>R (.ok .next) s₁
   | some v=>wpAny (model prog w) A (letOwnedTupleGo target it v) (fun _ s₁'=>wpAny (model prog w) A (assign target env v) (fun _ s₂ =>
     wpAny (model prog w) A (forIn ifs true fun c r=>if r=true then do let ok ← isTrue c env (eval c env);pure (ForInStep.yield ok) else pure (ForInStep.yield r)) (fun ok s₃ =>
      if ok=true then wpAny (model prog w) A (eval elt env) (fun x s₄ =>
       wpAny (model prog w) A (call (.builtin "list.append") [acc,x]) (fun _ s₅=>∃m,m < n/\I m s₅) (fun _ _=>False) s₄) (fun _ _=>False) s₃
      else ∃m,m < n/\I m s₃) (fun _ _=>False) s₂) (fun _ _=>False) s₁') (fun _ _=>False) s₁) (fun _ _=>False) s)
  (n:Nat) (h:I n s) :
  codeAny (model prog w) A (.compLoop (.ListComp elt [⟨target,iter,ifs,0⟩] scope pos) 0 it acc env) R s:=by
 refine codeAny_loop rfl I (fun n s hI=>?_) n h
 show wpAny _ A ((compTurn (.ListComp elt [⟨target,iter,ifs,0⟩] scope pos) 0 it acc env).onRaise (fun x=>do noteFrame x env;theTreesLotGoes x)) _ _ s
 refine wpAny_noted ?_
 rw[compTurn_list]
 refine wpAny_bind (wpAny_standAt (wpAny_bind (wpAny_mono (turn n s hI) (fun r s₁ h₁=>?_) fun _ _ h'=>h'.elim)))
 cases r with
 | none=>exact wpAny_pure h₁
 | some v =>
  refine wpAny_bind (wpAny_mono h₁ (fun _ s₁' h₁'=>?_) fun _ _ h'=>h'.elim)
  refine wpAny_bind (wpAny_mono h₁' (fun _ s₂ h₂=>wpAny_bind (wpAny_mono h₂ (fun ok s₃ h₃=>?_) fun _ _ h'=>h'.elim)) fun _ _ h'=>h'.elim)
  cases ok with
  | false=>exact wpAny_pure ⟨rfl,h₃⟩
  | true =>
   exact wpAny_bind (wpAny_bind (wpAny_mono h₃ (fun x s₄ h₄=>wpAny_bind (wpAny_mono h₄ (fun _ s₅ h₅=>wpAny_pure (wpAny_pure ⟨rfl,h₅⟩)) fun _ _ h'=>h'.elim)) fun _ _ h'=>h'.elim))
end
def hide:Slot->Slot
 | .own ts=>.see ts
 | .see _=>.no
 | .vat t _=>.val t
 | .owd _ _=>.no
 | s=>s
def compT(g:TGt)(ut:WT)(we:WE):List T->List T->List Slot->(List T->Prop)->Prop
 | [],acc,_,Q=>Q acc
 | x::xs,acc,τ,Q=>g x τ fun τ1=>ut τ1 fun k=>(k=true->we τ1 fun t=>compT g ut we xs (acc++[t]) τ1 Q)/\(k=false->compT g ut we xs acc τ1 Q)
def wComp(wi:WI)(g:TGt)(ut:WT)(we:WE)(n:Nat)(fr:List Nat):WE:=fun τ Q=>wi τ fun ts=>ts.length<=1000/\compT g ut we ts [] (List.replicate n Slot.no++fr.map fun i=>hide (sget τ i)) fun rs=>Q (.lst rs)
def JTs(X:Cx)(ifs:List Expr)(u:WT):Prop :=
 ∀(pins:List (Addr×Obj))(s:Shared)(σ:St)(H:Hp)(Q:Bool->Hp->Prop),Inv X pins σ H s->upT X.K X.H₀ u σ H Q →
  wpAny (model X.prog X.w) X.A (forIn ifs true fun c r=>if r=true then do let ok ← isTrue c X.env (eval c X.env);pure (ForInStep.yield ok) else pure (ForInStep.yield r)) (TP X pins σ Q) X.xe s
def tTrue:WT:=fun _ Q=>Q true
theorem jts0{X:Cx}:JTs X [] tTrue:=fun pins s σ H Q I ⟨τ,Q0,R,hw,k⟩=>wpAny_tests_nil ⟨H,I,k _ H (.refl H) hw⟩
theorem jts1{X:Cx}{c:Expr}{u:WT}(h:JT X c u):JTs X [c] u:=fun pins s σ H Q I hw=>wpAny_tests_one (h pins s σ H Q I hw)
theorem relabel_mem{scope:Scope}{env:Env}{x:Str}{k':NameKind}(h:(relabel scope env).names.lookup x=some k'):∃k,(x,k)∈scope.names/\(k'=k∨(k=.free/\k'=.cell)):=by
 have hm:=PySem.mem_of_lookup h
 obtain⟨⟨n,k⟩,hn,e⟩:=List.mem_map.mp hm
 by_cases hc:(k==NameKind.free&&env.scope.kind == .function&&env.kindOf n==some .cell)=true
 ·have e':(n,NameKind.cell)=(x,k'):=by simpa [hc] using e
  cases e'
  have hfree:=(Bool.and_eq_true_iff.mp (Bool.and_eq_true_iff.mp hc).1).1
  exact⟨_,hn,.inr ⟨by simpa using hfree,rfl⟩⟩
 ·have e':(n,k)=(x,k'):=by simpa [hc] using e
  cases e'
  exact⟨_,hn,.inl rfl⟩
theorem relabel_free{env:Env}(hk:env.scope.kind=.function):∀{names:List (Str×NameKind)}{x:Str},names.lookup x=some .free->env.kindOf x=some .cell →
  (names.map fun (n,k)=>if (k==NameKind.free&&env.scope.kind == .function&&env.kindOf n==some .cell) then (n,NameKind.cell) else (n,k)).lookup x=some .cell
 | [],_,h,_=>by simp at h
 | (n,k)::r,x,h,hx=>by
  have ih:=@relabel_free env hk r x
  show List.lookup x ((if (k==NameKind.free&&env.scope.kind == .function&&env.kindOf n==some .cell)=true then (n,NameKind.cell) else (n,k))::_)=_
  cases hb:x==n with
  | true =>
   have e:x=n:=by simpa using hb
   subst e
   simp only[List.lookup_cons,hb]at h
   cases h
   rw[if_pos (by rw[hk,hx];rfl)]
   simp[List.lookup_cons]
  | false =>
   simp only[List.lookup_cons,hb]at h
   by_cases hc:(k==NameKind.free&&env.scope.kind == .function&&env.kindOf n==some .cell)=true
   ·rw[if_pos hc];simp only[List.lookup_cons,hb];exact ih h hx
   ·rw[if_neg hc];simp only[List.lookup_cons,hb];exact ih h hx
section
variable {X:Cx} {pos:Pos}
theorem comp_start{pins:List (Addr×Obj)}{σ:St}{H:Hp}{s:Shared}{scope:Scope}{cl:List (Str×Addr)}{C:Addr}{N:List Str}{σ':St}{s4:Shared}{ex:List Addr}
  (I:Inv X pins σ H s) (hc:X.calm=true) (hk:scope.kind=.function) (hC:s.heap.objs.size<=C)
  (hcl:∀x c,cl.lookup x=some c->X.env.cells.lookup x=some c)
  (hhas:∀x,((relabel scope X.env).names.lookup x=some .cell∨(relabel scope X.env).names.lookup x=some .free)->∃c,cl.lookup x=some c)
  (hex:∀b∈ex,FpOk X pins H b) (hlt:∀b∈ex,b < s.heap.objs.size)
  (hos:s4.os=s.os) (hbare:AllBare s4.gens) (hkeep:∀b o,s.heap.get? b=some o->s4.heap.get? b=some o) {m:Str->Option Value} (hns:s4.heap.Ns C m)
  (hloc:∀(i:Nat)(x:Str)(v:V),N[i]?=some x->σ'[i]?=some (some v)->∃u,RelV v u/\Look (compEnvC scope cl C X.env) s4.heap m x u) (hlen:σ'.length=N.length) :
  Inv (compCx X N scope cl C s H ex) [] σ' H s4:=by
 have bs:=I.bs
 refine⟨⟨I.ok.mod,hk,I.ok.glob,I.ok.blt,hC,fun x y c h1 h2=>I.ok.inj x y c (hcl _ _ h1) (hcl _ _ h2),hhas,fun _ _ z=>(by cases z),fun _=>I.ok.hd hc,I.ok.frames,.inl rfl,
   fun b hb=>⟨Nat.ne_of_lt (Nat.lt_of_lt_of_le (hlt b hb) hC),fun x c e=>(hex b hb).2.2.2.2.1 x c (hcl _ _ e)⟩,bs,Nat.le_trans I.ok.bsz I.sz,fun b o e hb=>?_,fun b hb=>?_,I.stack,I.stkFree⟩,
  hos,hbare,Un.kept hkeep,⟨m,hns,fun i x v h1 h2 _=>hloc i x v h1 h2⟩,fun x c e=>?_,I.hok.fresh hC,fun x c e=>I.freeC x c (hcl _ _ e),fun p hp=>absurd (show p∈([]:List (Addr×Obj)) from hp) (by simp),I.hok.kept hkeep,hlen⟩
 ·rcases (hex b hb).2.2.2.1 with z|z
  ·exact I.ok.noex b o e z
  ·exact absurd (Nat.lt_of_lt_of_le (Heap.lt_size e) (Nat.le_trans I.ok.bsz z)) (Nat.lt_irrefl _)
 ·intro z
  obtain⟨_,f1,f2,_⟩:=hex b hb
  rcases List.mem_cons.mp (I.stkSub b z) with e|e
  ·exact f1 e
  ·exact f2 e
 ·obtain⟨v,o,ho,hd⟩:=I.cell x c (hcl _ _ e)
  exact⟨v,o,hkeep c o ho,hd⟩
def slotsOf(σ:St)(n:Nat)(fr:List (Str×Nat)):St:=List.replicate n none++fr.map fun p=>(σ[p.2]?).getD none
theorem repSt_comp{K:PySem.W.Frag}{H0 H H2:Hp}{σ:St}{τ:List Slot}(n:Nat)(fr:List (Str×Nat))(R:RepSt K H0 H σ τ)(S:Same H H2) :
  RepSt K H2 H2 (slotsOf σ n fr) (List.replicate n Slot.no++(fr.map (·.2)).map fun i=>hide (sget τ i)):=by
 have key:∀i,sget (List.replicate n Slot.no++(fr.map (·.2)).map fun i=>hide (sget τ i)) i=.no∨∃p,fr[i - n]?=some p/\n<=i/\sget (List.replicate n Slot.no++(fr.map (·.2)).map fun i=>hide (sget τ i)) i=hide (sget τ p.2):=fun i=>by
  by_cases hi:i < n
  ·left
   rw[sget_append_left (by simpa using hi),sget_no]
  ·rw[sget_append_right (by simpa using hi),List.length_replicate]
   have gen:∀(l:List (Str×Nat))(j:Nat),sget ((l.map (·.2)).map fun i=>hide (sget τ i)) j=.no∨∃p,l[j]?=some p/\sget ((l.map (·.2)).map fun i=>hide (sget τ i)) j=hide (sget τ p.2):=by
    intro l
    induction l with
    | nil=>intro j;left;rfl
    | cons p r ih =>
     intro j
     cases j with
     | zero=>exact .inr ⟨p,rfl,rfl⟩
     | succ j=>exact ih j
   rcases gen fr (i - n) with z|⟨p,e1,e2⟩
   ·exact .inl z
   ·exact .inr ⟨p,e1,by omega,e2⟩
 have noOwn:∀s ts,hide s ≠ .own ts:=fun s ts=>by cases s<;>simp[hide]
 refine⟨.refl H2,by simp[slotsOf],fun i=>?_,fun i j ts us p _ h1 _ _ _=>?_⟩
 ·rcases key i with z|⟨p,e1,hi,e2⟩
  ·rw[z];trivial
  ·rw[e2]
   have ge:(slotsOf σ n fr)[i]?=some ((σ[p.2]?).getD none):=by
    unfold slotsOf
    rw[List.getElem?_append_right (by simpa using hi),List.length_replicate,List.getElem?_map,e1]
    rfl
   have sl:=R.slot p.2
   cases e:sget τ p.2 with
   | no=>trivial
   | see ts=>trivial
   | owd _ _=>trivial
   | vat t v =>
    rw[e]at sl
    exact⟨v,by rw[ge,sl.1];rfl,sl.2.kp (.of S)⟩
   | dic ps =>
    rw[e]at sl
    obtain⟨q,o,kvs,ev,h1,ek,r⟩:=sl
    exact⟨q,o,kvs,by rw[ge,ev];rfl,S _ _ h1,ek,r.kp (.of S)⟩
   | own ts =>
    rw[e]at sl
    obtain⟨q,vs,ev,h1,r,_⟩:=sl
    exact⟨q,vs,by rw[ge,ev];rfl,S _ _ h1,r.kp (.of S),by rw[S _ _ h1];exact fun z=>by cases z⟩
   | val t =>
    rw[e]at sl
    obtain⟨v,ev,r⟩:=sl
    exact⟨v,by rw[ge,ev];rfl,r.kp (.of S)⟩
 ·rcases key i with z|⟨p,_,_,e2⟩
  ·rw[z]at h1;cases h1
  ·rw[e2]at h1;exact noOwn _ _ h1
theorem comp_end{X X':Cx}{pins pins':List (Addr×Obj)}{σ σ5:St}{H2 H5:Hp}{s2 s6:Shared}{fp:List Addr}{Da:Addr}{h3:Heap}{vs:List V}{its:List Value}{k5:Nat}(eP:X'.prog=X.prog)(eW:X'.w=X.w)(eFs:X'.fs=frs X.stack)(eEx:X'.ex=Da::fp)(eH:X'.H₀=H2)
  (eS:X'.s₀.heap=h3) (eOs:X'.s₀.os=s2.os) (hCn:X'.env.locals=Da + 1) (pushK:∀b o,s2.heap.get? b=some o->h3.get? b=some o) (hDa:s2.heap.objs.size=Da) (I2:Inv X pins σ H2 s2) (f2:∀b∈fp,FpOk X pins H2 b) (I6:Inv X' pins' σ5 H5 s6)
  (frD:H5 Da=none) (hD:s6.heap.get? Da=some {cls:=.type "list", dict:=none,data:=.seq its.toArray k5}) (rv:Vals vs its) (hz:vs.length<=sizeLine) :
  Inv X pins σ (upd H5 Da (.frz {cls:=.type "list", dict:=none,data:=.seq its.toArray k5} (.lst vs))) s6:=by
 have un:=I6.base
 rw[eFs,eEx,eH,eS]at un
 have old:∀b o,s2.heap.get? b=some o->b≠Da:=fun b o e=>by
  have lt:=Heap.lt_size e
  rw[hDa]at lt
  exact Nat.ne_of_lt lt
 have hnD:∀b,H5 b≠none->b≠Da:=fun b h z=>h (by rw[z];exact frD)
 have ex:∀b o,s2.heap.get? b=some o->b∉fp->b∉Da::fp:=fun b o e hb z=>by
  rcases List.mem_cons.mp z with z|z
  ·exact old b o e z
  ·exact hb z
 refine I2.call' (s':=s6) (ch:=fp) (by rw[I6.os,eOs]) ⟨fun b o e n hf hx=>?_,fun b o e n hf hx=>?_,fun b o e n hx=>?_,fun b o e hx=>?_,fun b xs e=>?_,fun b o u e=>?_,fun b ps e=>?_⟩ (fun b ob eb=>?_) I6.bare fun b hb=>?_
 ·exact un.keep b o (pushK b o e) n hf (ex b o e hx)
 ·exact un.slot b o (pushK b o e) n hf (ex b o e hx)
 ·rw[upd_ne (old b o e)]
  exact un.free b o (pushK b o e) n (ex b o e hx)
 ·exact un.there b o (pushK b o e) (ex b o e hx)
 ·have e1:=un.tups b xs e
  rw[upd_ne (hnD b (by rw[e1];simp))]
  exact e1
 ·have e1:=un.frzs b o u e
  rw[upd_ne (hnD b (by rw[e1];simp))]
  exact e1
 ·obtain⟨more,e1⟩:=un.tbls b ps e
  exact⟨more,by rw[upd_ne (hnD b (by rw[e1];simp))];exact e1⟩
 ·by_cases hb:b=Da
  ·subst hb
   rw[upd_same]at eb
   cases eb
   exact⟨hD,hz,its,k5,rv,hD⟩
  ·rw[upd_ne hb]at eb
   have o5:=I6.hok b ob eb
   rw[eP,eW]at o5
   exact o5.stay (fun c v hc q=>q) (fun c q=>by rw[upd_ne (hnD c (by rw[q];simp))];exact q) fun c ys q=>by rw[upd_ne (hnD c (by rw[q];simp))];exact q
 ·obtain⟨g1,g2,g3,g4,g5,g6⟩:=f2 b hb
  exact⟨g4,g2,g5,g6⟩
def WkS(K:PySem.W.Frag)(J:It)(ts:List T)(H1:Hp):Prop:=∀H2,Same H1 H2->(∀i t,ts[i]?=some t->J.go i H2/\∀x H3,J.yld i H2 x H3->Same H2 H3/\Rep K H3 t x)/\J.stop ts.length H2
theorem Wk.s{K:PySem.W.Frag}{J:It}{ts:List T}{H:Hp}(h:Wk K J ts H):WkS K J ts H:=fun H2 S=>h H2 (.of S)
def upIc(K:PySem.W.Frag)(H0:Hp)(w:WI):TI:=fun σ H R=>∃(τ:List Slot) (Q0:List T->Prop),RepSt K H0 H σ τ/\w τ Q0/\∀ts J H',Same H H'->WkS K J ts H'->Q0 ts->R J H'
def JIc(X:Cx)(tg iter:Expr)(w:WI):Prop:=PI X tg iter (upIc X.K X.H₀ w)
theorem JI.c{X:Cx}{tg iter:Expr}{w:WI}(h:JI X tg iter w):JIc X tg iter w:=pi_of h fun σ H R ⟨τ,Q0,R0,hw,k⟩=>⟨τ,Q0,R0,hw,fun ts J H' S wk q=>k ts J H' S wk.s q⟩
inductive CompInv (K:PySem.W.Frag) (X':Cx) (ts:List T) (g:TGt) (ut:WT) (we:WE) (Q0:T->Prop) (tn':Nat->Heap->Prop) (Da:Addr) (fp:List Addr) (n:Nat) (s':Shared):Prop
 | mk (i:Nat) (σ':St) (H':Hp) (τ':List Slot) (acc:List T) (vs:List V) (its:List Value) (k:Nat) (e:n=ts.length - i) (hi:i<=ts.length) (I:Inv X' [] σ' H' s') (st:tn' i s'.heap) (fr:∀b∈Da::fp,H' b=none)
  (R:RepSt X'.K X'.H₀ H' σ' τ') (hD:s'.heap.get? Da=some {cls:=.type "list", dict:=none,data:=.seq (List.toArray its) k}) (rv:Vals vs its) (ra:Reps K H' acc vs) (hl:acc.length<=i) (q:compT g ut we (ts.drop i) acc τ' fun rs=>Q0 (.lst rs)) :
  CompInv K X' ts g ut we Q0 tn' Da fp n s'
theorem comp_loop{X X':Cx}{elt target iter:Expr}{ifs:List Expr}{scope:Scope}{pos:Pos}{g:TGt}{ut:WT}{we:WE}{use:Option (Value->Sem Unit)}{QQ:Value->Shared->Prop}{pins:List (Addr×Obj)}{σ σ4:St}{H H2:Hp}{s2 s4:Shared}{h3:Heap}{it Da:Addr}{fp:List Addr}{tn':Nat->Heap->Prop}{J:It}{ts:List T}{Q0:T->Prop}{τ4:List Slot}
  (hg':JG X' target g) (hu':JTs X' ifs ut) (he':JE X' elt we) (eP:X'.prog=X.prog) (eW:X'.w=X.w) (eK:X'.K=X.K) (eA:X'.A=X.A) (eH:X'.H₀=H2) (eE:X'.xe=fun _ _=>False) (eC:X'.calm=true) (eFs:X'.fs=frs X.stack) (eEx:X'.ex=Da::fp) (eS:X'.s₀.heap=h3) (eOs:X'.s₀.os=s2.os) (ePn:X'.pn=[])
  (hCn:X'.env.locals=Da + 1) (pushK:∀b o,s2.heap.get? b=some o->h3.get? b=some o) (hDa:s2.heap.objs.size=Da) (I2:Inv X pins σ H2 s2) (f2:∀b∈fp,FpOk X pins H2 b) (Tn:Turn X.prog X.w X.K target J fp it tn') (ne:Da∉fp) (S2:Same H H2) (wk:WkS X.K J ts H2) (hlen:ts.length<=1000)
  (J4:Inv X' [] σ4 H2 s4) (R4:RepSt X'.K X'.H₀ H2 σ4 τ4) (st4:tn' 0 s4.heap) (fr4:∀b∈Da::fp,H2 b=none) (hDat:s4.heap.get? Da=some {cls:=.type "list", dict:=none,data:=.seq ([]:List Value).toArray}) (q:compT g ut we ts [] τ4 fun rs=>Q0 (.lst rs))
  (hfp:∀H6:Hp,H6 X'.env.locals=none->FpOk X pins H6 X'.env.locals)
  (hend:∀(s6:Shared)(H6:Hp)(D C:Addr)(m6:Str->Option Value)(t:T)(f:Flow),Inv X pins σ H6 s6->FpOk X pins H6 C->s6.heap.Ns C m6->Same H H6->Rep X.K H6 t (.ref D)->Q0 t->(∃(H5:Hp) (o:Obj) (vs:List V) (ts:List T),H6=upd H5 D (.frz o (.lst vs))/\H5 D=none/\Same H H5/\t=.lst ts/\Reps X.K H5 ts vs)->compPost (model X.prog X.w) X.A X.xe use QQ (.ref D) C (.ok f) s6) :
  codeAny (model X.prog X.w) X.A (.compLoop (.ListComp elt [⟨target,iter,ifs,0⟩] scope pos) 0 (.ref it) (.ref Da) X'.env) (compPost (model X.prog X.w) X.A X.xe use QQ (.ref Da) X'.env.locals) s4:=by
 have stat:∀{H':Hp}{b:Addr},b∈Da::fp->H' b=none->FpOk X' [] H' b:=fun {H' b} hb hn=>by
  have o:=(J4.ok.exf b (by rw[eEx];exact hb))
  refine⟨hn,o.1,J4.ok.exfs b (by rw[eEx];exact hb),.inl (by rw[eEx];exact hb),o.2,fun p hp=>?_⟩
  rw[ePn]at hp
  exact absurd (show p∈([]:List (Addr×Obj)) from hp) (by simp)
 refine codeAny_compLoop_any (CompInv X.K X' ts g ut we Q0 tn' Da fp) ?_ ts.length
  ⟨0,_,H2,_,[],[],[],0,by simp,Nat.zero_le _,J4,st4,fr4,R4,hDat,.nil,reps_nil.mpr rfl,Nat.le_refl _,by simpa using q⟩
 rintro n s5 ⟨i,σ5,H5,τ5,acc,vs,its,k5,rfl,hi5,I5,st5,fr5,R5,hD5,rv5,ra5,hl5,q5⟩
 have K5:Same H2 H5:=by
  have:=R5.same
  rwa [eH]at this
 obtain⟨wi5,ws5⟩:=wk H5 K5
 have fp5:∀b∈fp,FpOk X' [] H5 b:=fun b hb=>stat (List.mem_cons_of_mem _ hb) (fr5 b (List.mem_cons_of_mem _ hb))
 rw[← eA]
 by_cases hlt:i < ts.length
 ·have ei:ts[i]?=some ts[i]:=List.getElem?_eq_getElem hlt
  obtain⟨go,yl⟩:=wi5 i _ ei
  rw[List.drop_eq_getElem_cons hlt]at q5
  have ID:Inv X' ([]++pinsAt [Da] s5.heap) σ5 H5 s5:=I5.pinned (fp:=[Da]) (fun b hb=>stat (by rw[List.mem_singleton.mp hb];exact List.mem_cons_self) (fr5 b (by rw[List.mem_singleton.mp hb];exact List.mem_cons_self))) fun b hb=>by
   rw[List.mem_singleton.mp hb]
   exact⟨_,hD5,fun v z=>(by cases z)⟩
  have fpp:∀{H':Hp},(∀b∈fp,H' b=none)->∀b∈fp,FpOk X' ([]++pinsAt [Da] s5.heap) H' b:=fun hn b hb=>by
   obtain⟨g1,g2,g3,g4,g5,g6⟩:=stat (H':=_) (List.mem_cons_of_mem _ hb) (hn b hb)
   refine⟨g1,g2,g3,g4,g5,fun p hp=>?_⟩
   rcases List.mem_append.mp hp with z|z
   ·rw[ePn]at z;exact absurd (show p∈([]:List (Addr×Obj)) from z) (by simp)
   ·rw[List.nil_append]at z
    obtain⟨z1,_⟩:=of_pinsAt z
    rw[List.mem_singleton.mp z1]
    intro e
    exact ne (by rw[e];exact hb)
  have frf:∀b∈fp,H5 b=none:=fun b hb=>fr5 b (List.mem_cons_of_mem _ hb)
  refine wpAny_mono (Tn.item X' eP eW eK eC i _ s5 σ5 H5 (fun _ _=>False) ID (fpp frf) st5 go) (fun r s6 h6=>?_) fun _ _ z=>z
  obtain⟨u,rfl,h6⟩:=h6
  refine wpAny_mono h6 (fun _ s7 h7=>?_) fun _ _ z=>z
  obtain⟨x,H7,I7,rx,y7,st7,fr7⟩:=h7
  obtain⟨S7,r7⟩:=yl x H7 y7
  have I7p:=I7.pinned (fpp fr7) (Tn.obj _ _ st7)
  have R7:=R5.mono S7
  have g7:=hg' _ s7 σ5 H7 x u (fun σ8 H8=>∃τ8,Same H7 H8/\RepSt X'.K X'.H₀ H8 σ8 τ8/\ut τ8 fun k=>(k=true->we τ8 fun t=>compT g ut we (ts.drop (i + 1)) (acc++[t]) τ8 fun rs=>Q0 (.lst rs))/\(k=false->compT g ut we (ts.drop (i + 1)) acc τ8 fun rs=>Q0 (.lst rs))) I7p rx
   ⟨ts[i],τ5,_,R7,(by rw[eK];exact r7),q5,fun τ8 σ8 H8 S8 R8 q8=>⟨τ8,S8,R8,q8⟩⟩
  rw[eE,eP,eW]at g7
  refine wpAny_mono g7 (fun _ s8 h8=>?_) fun _ _ z=>z
  obtain⟨σ8,H8,I8,τ8,S8,R8,q8⟩:=h8
  have u8:=hu' _ s8 σ8 H8 (fun k H9=>Same H8 H9/\((k=true->we τ8 fun t=>compT g ut we (ts.drop (i + 1)) (acc++[t]) τ8 fun rs=>Q0 (.lst rs))/\(k=false->compT g ut we (ts.drop (i + 1)) acc τ8 fun rs=>Q0 (.lst rs)))) I8 ⟨τ8,_,R8,q8,fun k H9 S9 q9=>⟨S9,q9⟩⟩
  rw[eE,eP,eW]at u8
  refine wpAny_mono u8 (fun k s9 h9=>?_) fun _ _ z=>z
  obtain⟨H9,I9,S9,q9⟩:=h9
  have R9:=R8.mono S9
  have pinD:∀{s':Shared}{σ':St}{H':Hp},Inv X' (([]++pinsAt [Da] s5.heap)++pinsAt fp s7.heap) σ' H' s'->s'.heap.get? Da=some {cls:=.type "list", dict:=none,data:=.seq its.toArray k5}/\H' Da=none:=fun I'=>by
   have z:=I'.pin (Da,_) (List.mem_append_right _ (List.mem_append_left _ (by rw[List.nil_append];exact mem_pinsAt (List.mem_singleton.mpr rfl) hD5)))
   exact⟨z.1,z.2.1⟩
  have pinF:∀{s':Shared}{σ':St}{H':Hp},Inv X' (([]++pinsAt [Da] s5.heap)++pinsAt fp s7.heap) σ' H' s'->tn' (i + 1) s'.heap/\∀b∈fp,H' b=none:=fun {s' σ' H'} I'=>by
   refine⟨Tn.keep _ _ _ st7 fun b hb o e=>(I'.pin (b,o) (List.mem_append_right _ (List.mem_append_right _ (mem_pinsAt hb e)))).1,fun b hb=>?_⟩
   obtain⟨o,e,d⟩:=Tn.obj _ _ st7 b hb
   exact(I'.pin (b,o) (List.mem_append_right _ (List.mem_append_right _ (mem_pinsAt hb e)))).2.1
  have frD:∀{H':Hp},H' Da=none->(∀b∈fp,H' b=none)->∀b∈Da::fp,H' b=none:=fun h1 h2 b hb=>by
   rcases List.mem_cons.mp hb with rfl|hb
   ·exact h1
   ·exact h2 b hb
  have unp:∀{s':Shared}{σ':St}{H':Hp},Inv X' (([]++pinsAt [Da] s5.heap)++pinsAt fp s7.heap) σ' H' s'->Inv X' [] σ' H' s':=fun I'=>I'.pins_of fun p hp=>absurd hp (by simp)
  cases k with
  | false =>
   rw[if_neg Bool.false_ne_true]
   refine⟨ts.length - (i + 1),by omega,i + 1,σ8,H9,τ8,acc,vs,its,k5,rfl,hlt,unp I9,(pinF I9).1,frD (pinD I9).2 (pinF I9).2,R9,(pinD I9).1,rv5,ra5.kp (.of (S7.trans (S8.trans S9))),by omega,q9.2 rfl⟩
  | true =>
   rw[if_pos rfl]
   have e9:=he' _ s9 σ8 H9 (fun v H10=>∃t,Same H9 H10/\Rep X'.K H10 t v/\compT g ut we (ts.drop (i + 1)) (acc++[t]) τ8 fun rs=>Q0 (.lst rs)) I9 ⟨τ8,_,R9,q9.1 rfl,fun t v H10 S10 r10 q10=>⟨t,S10,r10,q10⟩⟩
   rw[eE,eP,eW]at e9
   refine wpAny_mono e9 (fun y s10 h10=>?_) fun _ _ z=>z
   obtain⟨v,H10,I10,rv,t,S10,r10,q10⟩:=h10
   have hlen5:its.length<=1000:=by
    have e1:=rv5.length
    have e2:=ra5.length
    omega
   refine wpAny_list_append_plain (hsz:=by rw[List.size_toArray];exact few hlen5) ⟨k5,(pinD I10).1⟩ fun h11 hl11 hs11=>?_
   obtain⟨k11,hl11⟩:=hl11
   have I11:Inv X' [] σ8 H10 {s10 with heap:=h11}:=by
    obtain⟨g1,g2,g3,g4,g5,g6⟩:=stat (H':=H10) List.mem_cons_self (pinD I10).2
    exact(unp I10).turned (t':=s10.toks) (it:=Da) (fun b o hb e=>(hs11.2 b hb).trans e) g1 g2 g4 g5 g6
   have st11:tn' (i + 1) h11:=Tn.keep _ _ _ (pinF I10).1 fun b hb o e=>(hs11.2 b (fun z=>ne (by rw[← z];exact hb))).trans e
   refine⟨ts.length - (i + 1),by omega,i + 1,σ8,H10,τ8,acc++[t],vs++[v],its++[y],k11,rfl,hlt,I11,st11,frD (pinD I10).2 (pinF I10).2,R9.mono S10,?_,rv5.append (.cons rv .nil),(ra5.kp (.of (S7.trans (S8.trans (S9.trans S10))))).append (.one (by rw[← eK];exact r10)),by simp;omega,q10⟩
   have ea:(its++[y]).toArray=its.toArray.push y:=by simp
   rw[ea]
   exact hl11
 ·have e:i=ts.length:=by omega
  subst e
  rw[List.drop_length]at q5
  have q5':Q0 (.lst acc):=q5
  refine wpAny_mono (Tn.done X' eP eW eK eC ts.length ([]++pinsAt [Da] s5.heap) s5 σ5 H5 (fun _ _=>False) ?_ ?_ st5 ws5) (fun r s6 h6=>?_) fun _ _ z=>z
  ·exact I5.pinned (fp:=[Da]) (fun b hb=>stat (by rw[List.mem_singleton.mp hb];exact List.mem_cons_self) (fr5 b (by rw[List.mem_singleton.mp hb];exact List.mem_cons_self))) fun b hb=>by
    rw[List.mem_singleton.mp hb]
    exact⟨_,hD5,fun v z=>(by cases z)⟩
  ·intro b hb
   obtain⟨g1,g2,g3,g4,g5,g6⟩:=stat (H':=H5) (List.mem_cons_of_mem _ hb) (fr5 b (List.mem_cons_of_mem _ hb))
   refine⟨g1,g2,g3,g4,g5,fun p hp=>?_⟩
   rcases List.mem_append.mp hp with z|z
   ·rw[ePn]at z;exact absurd (show p∈([]:List (Addr×Obj)) from z) (by simp)
   ·rw[List.nil_append]at z
    obtain⟨z1,_⟩:=of_pinsAt z
    rw[List.mem_singleton.mp z1]
    intro e
    exact ne (by rw[e];exact hb)
  obtain⟨rfl,I6⟩:=h6
  have z6:=I6.pin (Da,_) (List.mem_append_right _ (by rw[List.nil_append];exact mem_pinsAt (List.mem_singleton.mpr rfl) hD5))
  obtain⟨m6,hn6,_⟩:=I6.loc
  have hz:vs.length<=sizeLine:=by rw[ra5.length];exact few (by omega)
  have fin:=comp_end eP eW eFs eEx eH eS eOs hCn pushK hDa I2 f2 I6 (fr5 _ List.mem_cons_self) z6.1 rv5 hz
  have S5:Same H2 H5:=by have:=R5.same;rwa [eH]at this
  have S6:Same H2 (upd H5 Da (.frz {cls:=.type "list", dict:=none,data:=.seq its.toArray k5} (.lst vs))):=S5.trans (same_new (fr5 _ List.mem_cons_self) _)
  have hfpC:=hfp _ (show (upd H5 Da (.frz {cls:=.type "list", dict:=none,data:=.seq its.toArray k5} (.lst vs))) X'.env.locals=none by rw[upd_ne (by rw[hCn];exact Nat.succ_ne_self _)];exact I6.free)
  show compPost (model X.prog X.w) X'.A X.xe use QQ (.ref Da) X'.env.locals (.ok .next) s6
  rw[eA]
  exact hend s6 _ _ _ m6 (.lst acc) _ fin hfpC hn6 (S2.trans S6) (rep_lst.mpr ⟨_,vs,rfl,.inl ⟨_,upd_same⟩,ra5.kp (.of (same_new (fr5 _ List.mem_cons_self) _))⟩) q5' ⟨H5,_,vs,acc,rfl,fr5 _ List.mem_cons_self,S2.trans S5,rfl,ra5⟩
theorem comp_core{elt target iter:Expr}{ifs:List Expr}{scope sc0:Scope}{tn N0:List Str}{fr:List (Str×Nat)}{wi:WI}{g:TGt}{ut:WT}{we:WE}(hsc:X.env.scope=sc0)(hN0:X.N=N0)(hc:X.calm=true)
  (hi:JIc X target iter wi) (hk:scope.kind=.function) (hk0:sc0.kind=.function)
  (hnames:(scope.names.all fun x=>x.2 != .local||scope.names.lookup x.1==some .local)=true) (hcell:(scope.names.all fun x=>x.2 != .cell)=true)
  (hfree:(scope.names.all fun x=>x.2 != .free||sc0.names.lookup x.1==some .cell)=true)
  (hfr:(fr.all fun p=>(sc0.names.lookup p.1==some .cell&&scope.names.lookup p.1==some .free)&&N0[p.2]?==some p.1)=true)
  (hg:∀cl C s3 H2 ex,JG (compCx X (tn++fr.map (·.1)) scope cl C s3 H2 ex) target g) (hu:∀cl C s3 H2 ex,JTs (compCx X (tn++fr.map (·.1)) scope cl C s3 H2 ex) ifs ut)
  (he:∀cl C s3 H2 ex,JE (compCx X (tn++fr.map (·.1)) scope cl C s3 H2 ex) elt we)
  (hs:∀x,foldedSetIterable iter X.env x=pure x) {pos':Pos} {pins:List (Addr×Obj)} {s:Shared} {σ:St} {H:Hp} {QQ:Value->Shared->Prop} {use:Option (Value->Sem Unit)} (I:Inv X pins σ H s)
  {τ:List Slot} {Q0:T->Prop} (R0:RepSt X.K X.H₀ H σ τ) (hw:wComp wi g ut we tn.length (fr.map (·.2)) τ Q0)
  (hend:∀(s6:Shared)(H6:Hp)(D C:Addr)(m6:Str->Option Value)(t:T)(f:Flow),Inv X pins σ H6 s6->FpOk X pins H6 C->s6.heap.Ns C m6->Same H H6->Rep X.K H6 t (.ref D)->Q0 t->(∃(H5:Hp) (o:Obj) (vs:List V) (ts:List T),H6=upd H5 D (.frz o (.lst vs))/\H5 D=none/\Same H H5/\t=.lst ts/\Reps X.K H5 ts vs)->compPost (model X.prog X.w) X.A X.xe use QQ (.ref D) C (.ok f) s6) :
  wpAny (model X.prog X.w) X.A (comprehension (.ListComp elt [⟨target,iter,ifs,0⟩] scope pos) scope X.env pos' (newList []) false (eval iter X.env) use) QQ X.xe s:=by
 have hkindOf:∀x,X.env.kindOf x=sc0.names.lookup x:=fun x=>by show X.env.scope.names.lookup x=_;rw[hsc]
 have hfree':∀x∈scope.names,x.2=.free->X.env.kindOf x.1=some .cell:=fun x hx hf=>by
  have:=List.all_eq_true.mp hfree x hx
  rw[hkindOf]
  simpa [hf] using this
 have hcell':∀x∈scope.names,x.2 ≠ .cell:=fun x hx=>by
  have:=List.all_eq_true.mp hcell x hx
  simpa using this
 have hfN:∀p∈fr,X.N[p.2]?=some p.1:=fun p hp=>by
  have:=List.all_eq_true.mp hfr p hp
  rw[hN0]
  simp only[Bool.and_eq_true,beq_iff_eq]at this
  exact this.2
 have hfr':∀p∈fr,X.env.kindOf p.1=some .cell/\scope.names.lookup p.1=some .free:=fun p hp=>by
  have:=List.all_eq_true.mp hfr p hp
  rw[hkindOf]
  simp only[Bool.and_eq_true,beq_iff_eq]at this
  exact this.1
 obtain⟨cl,hclos,p1,p3⟩:=closureFor_of (scope:=scope) (env:=X.env) fun x hx hf=>I.ok.has x.1 (.inl (hfree' x hx hf))
 refine wpAny_comprehension_free (use:=use) rfl hs hclos hk (fun x hx hl=>?_) ?_
 ·have:=List.all_eq_true.mp hnames x hx
  simpa [hl] using this
 refine thn (hi pins s σ H (fun J H1=>∃ts,Same H H1/\WkS X.K J ts H1/\ts.length<=1000/\compT g ut we ts [] (List.replicate tn.length Slot.no++(fr.map (·.2)).map fun i=>hide (sget τ i)) fun rs=>Q0 (.lst rs)) I
  ⟨τ,_,R0,hw,fun ts J H' S wk q=>⟨ts,S,wk,q.1,q.2⟩⟩) fun v s1 h1=>thn h1 fun itv s2 h2=>?_
 obtain⟨it,fp,tn',J,H2,rfl,I2,Tn,st2,f2,ts,S2,wk,hlen,q⟩:=h2
 refine wpAny_newObj_type (wpAny_newFunctionEnv hcell' (by intro y hy;simp at hy) (fun h4 hns hsb=>?_) hk)
 dsimp only at hns hsb ⊢
 have hDn:H2 s2.heap.objs.size=none:=I2.hok.fresh (Nat.le_refl _)
 have I3:Inv X pins σ H2 {s2 with heap:=s2.heap.push {cls:=.type "list", dict:=none,data:=.seq ([]:List Value).toArray} }:=I2.kept (t':=s2.toks) fun b u e=>Heap.get?_push_of_some _ e
 have hsz:(s2.heap.push {cls:=.type "list", dict:=none,data:=.seq ([]:List Value).toArray}).objs.size=s2.heap.objs.size + 1:=Heap.size_push ..
 have hkeep:∀b o,(s2.heap.push {cls:=.type "list", dict:=none,data:=.seq ([]:List Value).toArray}).get? b=some o->h4.get? b=some o:=fun b o e=>hsb.extBut b o (Nat.ne_of_lt (Heap.lt_size e)) (Heap.get?_push_of_some _ e)
 have hDat:h4.get? s2.heap.objs.size=some {cls:=.type "list", dict:=none,data:=.seq ([]:List Value).toArray}:=hkeep _ _ (Heap.get?_push_size _ rfl)
 have fpD:∀b∈s2.heap.objs.size::fp,FpOk X pins H2 b:=fun b hb=>by
  rcases List.mem_cons.mp hb with rfl|hb
  ·exact I2.fpOk (Nat.le_refl _) hDn
  ·exact f2 b hb
 have ltD:∀b∈fp,b < s2.heap.objs.size:=fun b hb=>by
  obtain⟨o,e,_⟩:=Tn.obj _ _ st2 b hb
  exact Heap.lt_size e
 have ltD':∀b∈s2.heap.objs.size::fp,b < (s2.heap.push {cls:=.type "list", dict:=none,data:=.seq ([]:List Value).toArray}).objs.size:=fun b hb=>by
  rw[hsz]
  rcases List.mem_cons.mp hb with rfl|hb
  ·exact Nat.lt_succ_self _
  ·exact Nat.lt_succ_of_lt (ltD b hb)
 have hhas:∀x,((relabel scope X.env).names.lookup x=some .cell∨(relabel scope X.env).names.lookup x=some .free)->∃c,cl.lookup x=some c:=fun x hx=>by
  have z:∃k',(relabel scope X.env).names.lookup x=some k'/\(k'=.cell∨k'=.free):=by
   rcases hx with hx|hx
   ·exact⟨_,hx,.inl rfl⟩
   ·exact⟨_,hx,.inr rfl⟩
  obtain⟨k',e,hk'⟩:=z
  obtain⟨k,hm,hkk⟩:=relabel_mem e
  have hf:k=.free:=by
   rcases hkk with rfl|⟨h,_⟩
   ·rcases hk' with rfl|rfl
    ·exact absurd rfl (hcell' _ hm)
    ·rfl
   ·exact h
  subst hf
  exact p3 (x,.free) hm rfl
 obtain⟨m3,hn3,hl3⟩:=I3.loc
 have J4:Inv (compCx X (tn++fr.map (·.1)) scope cl (s2.heap.push {cls:=.type "list", dict:=none,data:=.seq ([]:List Value).toArray}).objs.size {s2 with heap:=s2.heap.push {cls:=.type "list", dict:=none,data:=.seq ([]:List Value).toArray} } H2 (s2.heap.objs.size::fp)) []
   (slotsOf σ tn.length fr) H2 {s2 with heap:=h4,toks:=s2.toks + ([]:List (Str×Value)).length}:=by
  refine comp_start I3 hc hk (Nat.le_refl _) p1 hhas fpD ltD' rfl I2.bare hkeep hns (fun i x v h1 h2=>?_) (by simp[slotsOf])
  unfold slotsOf at h2
  by_cases hi:i < tn.length
  ·rw[List.getElem?_append_left (by simpa using hi),List.getElem?_replicate]at h2
   split at h2<;>cases h2
  ·rw [List.getElem?_append_right (by simpa using hi),List.length_replicate,List.getElem?_map]at h2
   rw[List.getElem?_append_right (by omega),List.getElem?_map]at h1
   cases ep:fr[i - tn.length]? with
   | none=>rw[ep]at h1;cases h1
   | some p =>
    rw[ep]at h1 h2
    have h1':p.1=x:=by simpa using h1
    have h2':(σ[p.2]?).getD none=some v:=by simpa using h2
    have h2'':σ[p.2]?=some (some v):=by
     cases e:σ[p.2]? with
     | none=>rw[e]at h2';cases h2'
     | some z=>rw[e]at h2';exact congrArg some h2'
    have hp:p∈fr:=List.mem_of_getElem? ep
    obtain⟨k1,k2⟩:=hfr' p hp
    subst h1'
    obtain⟨u,ru,lk⟩:=hl3 p.2 p.1 v (hfN p hp) h2'' (.inr (.inl k1))
    refine⟨u,ru,.inr ⟨.inl ?_,?_⟩⟩
    ·exact relabel_free (by rw[hsc];exact hk0) k2 k1
    ·rcases lk with ⟨z,_⟩|⟨_,c,e,o,ho,hd⟩
     ·rw[k1]at z;cases z
     ·obtain⟨c',e'⟩:=p3 (p.1,.free) (PySem.mem_of_lookup k2) rfl
      have:=p1 _ _ e'
      rw[e]at this
      cases this
      exact⟨c,e',o,hkeep c o ho,hd⟩
 have R4:RepSt X.K H2 H2 (slotsOf σ tn.length fr) (List.replicate tn.length Slot.no++(fr.map (·.2)).map fun i=>hide (sget τ i)):=repSt_comp tn.length fr R0 S2
 have ne:(s2.heap.objs.size:Addr)∉fp:=fun z=>absurd (ltD _ z) (Nat.lt_irrefl _)
 have st4:tn' 0 h4:=Tn.keep _ _ _ st2 fun b hb o e=>hkeep b o (Heap.get?_push_of_some _ e)
 have lp:=comp_loop (scope:=scope) (H2:=H2) (s2:=s2) (X:=X) (X':=compCx X (tn++fr.map (·.1)) scope cl (s2.heap.push {cls:=.type "list", dict:=none,data:=.seq ([]:List Value).toArray}).objs.size {s2 with heap:=s2.heap.push {cls:=.type "list", dict:=none,data:=.seq ([]:List Value).toArray} } H2 (s2.heap.objs.size::fp)) (h3:=s2.heap.push {cls:=.type "list", dict:=none,data:=.seq ([]:List Value).toArray}) (pins:=pins) (s4:={s2 with heap:=h4,toks:=s2.toks + ([]:List (Str×Value)).length}) (use:=use) (QQ:=QQ) (iter:=iter) (pos:=pos) (hg _ _ _ _ _) (hu _ _ _ _ _) (he _ _ _ _ _) rfl rfl rfl rfl rfl rfl rfl rfl rfl rfl rfl rfl hsz (fun b o e=>Heap.get?_push_of_some _ e) rfl I2 f2 Tn ne S2 wk hlen J4 R4 st4 (fun b hb=>(fpD b hb).1) hDat q (fun H6 h=>I3.fpOk (Nat.le_refl _) h) hend
 exact codeAny_compStart_list lp (Tn.self _ 0 _ _ _ st4 lp)
theorem jcomp{elt target iter:Expr}{ifs:List Expr}{scope sc0:Scope}{tn N0:List Str}{fr:List (Str×Nat)}{wi:WI}{g:TGt}{ut:WT}{we:WE}(hsc:X.env.scope=sc0)(hN0:X.N=N0)(hc:X.calm=true)
  (hi:JI X target iter wi) (hk:scope.kind=.function) (hk0:sc0.kind=.function)
  (hnames:(scope.names.all fun x=>x.2 != .local||scope.names.lookup x.1==some .local)=true) (hcell:(scope.names.all fun x=>x.2 != .cell)=true)
  (hfree:(scope.names.all fun x=>x.2 != .free||sc0.names.lookup x.1==some .cell)=true)
  (hfr:(fr.all fun p=>(sc0.names.lookup p.1==some .cell&&scope.names.lookup p.1==some .free)&&N0[p.2]?==some p.1)=true)
  (hg:∀cl C s3 H2 ex,JG (compCx X (tn++fr.map (·.1)) scope cl C s3 H2 ex) target g) (hu:∀cl C s3 H2 ex,JTs (compCx X (tn++fr.map (·.1)) scope cl C s3 H2 ex) ifs ut)
  (he:∀cl C s3 H2 ex,JE (compCx X (tn++fr.map (·.1)) scope cl C s3 H2 ex) elt we)
  (hs:∀x,foldedSetIterable iter X.env x=pure x:=by intro _;rfl):JE X (.ListComp elt [⟨target,iter,ifs,0⟩] scope pos) (wComp wi g ut we tn.length (fr.map (·.2))):=by
 intro pins s σ H Q I hw
 obtain⟨τ,Q0,R0,hw,kk⟩:=hw
 rw[eval_ListComp]
 refine comp_core hsc hN0 hc hi.c hk hk0 hnames hcell hfree hfr hg hu he hs (pos':=_) (use:=none) I R0 hw fun s6 H6 D C m6 t f I6 fp hn S r q _=>?_
 refine⟨m6,hn,fun h7 hs7=>?_⟩
 obtain⟨g1,g2,g3,g4,g5,g6⟩:=fp
 exact⟨.ref D,H6,I6.turned (t':=s6.toks) (it:=C) (fun b o hb e=>(hs7.2 b hb).trans e) g1 g2 g4 g5 g6,rfl,kk _ _ _ S r q⟩
theorem jsetc{elt target iter:Expr}{ifs:List Expr}{scope sc0:Scope}{tn N0:List Str}{fr:List (Str×Nat)}{wi:WI}{g:TGt}{ut:WT}{we:WE}{i:Nat}{x:Str}{pos' spos:Pos}(hN:X.N.Nodup)(hiN:X.N[i]?=some x)(hx:Loc X.env.scope x)
  (hsc:X.env.scope=sc0) (hN0:X.N=N0) (hc:X.calm=true)
  (hi:JI X target iter wi) (hk:scope.kind=.function) (hk0:sc0.kind=.function)
  (hnames:(scope.names.all fun x=>x.2 != .local||scope.names.lookup x.1==some .local)=true) (hcell:(scope.names.all fun x=>x.2 != .cell)=true)
  (hfree:(scope.names.all fun x=>x.2 != .free||sc0.names.lookup x.1==some .cell)=true)
  (hfr:(fr.all fun p=>(sc0.names.lookup p.1==some .cell&&scope.names.lookup p.1==some .free)&&N0[p.2]?==some p.1)=true)
  (hg:∀cl C s3 H2 ex,JG (compCx X (tn++fr.map (·.1)) scope cl C s3 H2 ex) target g) (hu:∀cl C s3 H2 ex,JTs (compCx X (tn++fr.map (·.1)) scope cl C s3 H2 ex) ifs ut)
  (he:∀cl C s3 H2 ex,JE (compCx X (tn++fr.map (·.1)) scope cl C s3 H2 ex) elt we)
  (hs:∀x,foldedSetIterable iter X.env x=pure x:=by intro _;rfl)
  (hsw:swapsWith (.ListComp elt [⟨target,iter,ifs,0⟩] scope pos) (some (.Name x pos')) spos.line X.env=pure true:=by rfl)
  (hf:X.fn x=true∨X.env.scope.names.lookup x=some .local:=by first|exact .inl rfl|exact .inr rfl|assumption) :
  JS X (.Assign [.Name x pos'] (.ListComp elt [⟨target,iter,ifs,0⟩] scope pos) spos) (sSet i (wComp wi g ut we tn.length (fr.map (·.2)))):=by
 intro pins s σ H D I ⟨τ,D0,R0,hw,k,_⟩
 rw[exec_Assign_Name_used _ _ _ _ hsw]
 refine wpAny_bind (wpAny_standAt (wpAny_bind ?_))
 rw[arm_evalThenUse_ListComp]
 dsimp only
 refine wpAny_bind (wpAny_mono (comp_core (QQ:=fun _ s'=>SP X pins D .next s') hsc hN0 hc hi.c hk hk0 hnames hcell hfree hfr hg hu he hs (use:=some (assign (.Name x pos') X.env)) I R0 hw fun s6 H6 Da C m6 t f I6 fp hn S r q _=>?_) (fun _ s' h=>wpAny_pure (wpAny_pure h)) fun _ _ z=>z)
 obtain⟨oC,es,ep,hoC,hdC,hrC⟩:=id hn
 have Ip:=I6.pinned (fp:=[C]) (fun b hb=>by rw[List.mem_singleton.mp hb];exact fp) fun b hb=>by
  rw[List.mem_singleton.mp hb]
  exact⟨oC,hoC,fun v z=>by rw[hdC]at z;cases z⟩
 have gn:=pg_name (pos:=pos') hN hiN hx hf _ s6 σ H6 (.ref Da) (.ref Da) (fun σ' H'=>σ'=σ.set i (some (.ref Da))/\H'=H6) Ip rfl ⟨rfl,rfl⟩
 refine wpAny_mono gn (fun _ s7 h7=>?_) fun _ _ z=>z
 obtain⟨σ7,H7,I7,rfl,rfl⟩:=h7
 have pC:=(I7.pin (C,oC) (List.mem_append_right _ (List.mem_append_right _ (mem_pinsAt (List.mem_singleton.mpr rfl) hoC)))).1
 refine⟨m6,⟨oC,es,ep,pC,hdC,hrC⟩,fun h8 hs8=>?_⟩
 obtain⟨g1,g2,g3,g4,g5,g6⟩:=fp
 have I8:Inv X pins (σ.set i (some (.ref Da))) H7 s7:=I7.pins_of fun p hp=>I7.pin p (List.mem_append_right _ (List.mem_append_left _ hp))
 exact⟨_,H7,I8.turned (t':=s7.toks) (it:=C) (fun b o hb e=>(hs8.2 b hb).trans e) g1 g2 g4 g5 g6,k _ _ H7 (.of S) ((R0.mono S).put r) q⟩
end
end TL
end
section
namespace TL
open PySem PySem.Spec PyProof.Rows L2
def SeqIt(h:Heap)(it l:Addr)(k:Nat)(xs:Array Value):Prop:=(h.IsListIter it l k/\h.IsList l xs)∨(h.IsTupleIter it l k/\h.IsTuple l xs)
theorem SeqIt.keep{h h':Heap}{it l:Addr}{k:Nat}{xs:Array Value}(x:SeqIt h it l k xs)(q:∀b o,b=it∨b=l->h.get? b=some o->h'.get? b=some o):SeqIt h' it l k xs:=by
 rcases x with ⟨⟨o,e,r⟩,p,e2,r2⟩|⟨⟨o,e,r⟩,p,e2,r2⟩
 ·exact .inl ⟨⟨o,q _ _ (.inl rfl) e,r⟩,p,q _ _ (.inr rfl) e2,r2⟩
 ·exact .inr ⟨⟨o,q _ _ (.inl rfl) e,r⟩,p,q _ _ (.inr rfl) e2,r2⟩
theorem SeqIt.lt{h:Heap}{it l:Addr}{k:Nat}{xs:Array Value}(x:SeqIt h it l k xs):it < h.objs.size/\l < h.objs.size:=by
 rcases x with ⟨⟨o,e,_⟩,p,e2,_⟩|⟨⟨o,e,_⟩,p,e2,_⟩
 ·exact⟨Heap.lt_size e,Heap.lt_size e2⟩
 ·exact⟨Heap.lt_size e,Heap.lt_size e2⟩
theorem SeqIt.ne{h:Heap}{it l:Addr}{k:Nat}{xs:Array Value}(x:SeqIt h it l k xs):l≠it:=by
 rintro rfl
 rcases x with ⟨⟨o,e,c,d⟩,p,e2,c2,n,d2⟩|⟨⟨o,e,c,d⟩,p,e2,c2,n,d2⟩
 ·rw[e]at e2;cases e2;rw[d]at d2;cases d2
 ·rw[e]at e2;cases e2;rw[d]at d2;cases d2
theorem SeqIt.obj{h:Heap}{it l:Addr}{k:Nat}{xs:Array Value}(x:SeqIt h it l k xs):∃o,h.get? it=some o/\∀v,o.data ≠ .cell v:=by
 rcases x with ⟨⟨o,e,c,d⟩,_⟩|⟨⟨o,e,c,d⟩,_⟩
 ·exact⟨o,e,fun v z=>by rw[d]at z;cases z⟩
 ·exact⟨o,e,fun v z=>by rw[d]at z;cases z⟩
section
variable {prog:Program} {w:World} {A:Around} {E:Value->Shared->Prop} {s:Shared}
theorem nextOf_tup{it t:Addr}{i:Nat}{xs:Array Value}{x:Value}{Q:Value->Shared->Prop}(hit:s.heap.IsTupleIter it t i)(ht:s.heap.IsTuple t xs)(hx:xs[i]?=some x)
  (hQ:∀g,g.IsTupleIter it t (i + 1)->Heap.SameBut it s.heap g->Q x {s with heap:=g}):wpAny (model prog w) A (Builtin.SmallTypes.nextOf (.ref it)) Q E s:=by
 have hT:=hit.typeIs
 obtain⟨oi,e1,e2,e3⟩:=hit
 obtain⟨ot,f1,_,fn,f2⟩:=ht
 unfold Builtin.SmallTypes.nextOf
 refine wpAny_bind (wpAny_callSpecial?_slot (name:=Str.ofString "__next__") hT F.slot_tuple_iterator_next (wpAny_call_entry F.slot_tuple_iterator_next hT F.entry_tuple_iterator_next ?_ (F.args_tuple_iterator_next_1 _)))
 show wpAny (model prog w) _ (field (.ref it) 0 >>= _) _ _ s
 refine wpAny_bind (wpAny_field e1 e3 (x:=.ref t) rfl ?_)
 show wpAny (model prog w) _ (if (Value.ref t==Value.none)=true then _ else _) _ _ s
 rw[if_neg (show ¬ (Value.ref t==Value.none)=true from Bool.false_ne_true)]
 show wpAny (model prog w) _ (field (.ref it) 1 >>= _) _ _ s
 refine wpAny_bind (wpAny_field e1 e3 (x:=.int i 0) rfl ?_)
 show wpAny (model prog w) _ (seqItems? (.ref t) >>= _) _ _ s
 refine wpAny_bind (wpAny_seqItems f1 f2 ?_)
 simp only[hx,Int.toNat_natCast]
 refine wpAny_bind (wpAny_setField e1 e3 (by simp) (wpAny_pure ⟨x,rfl,wpAny_pure (hQ _ ⟨_,Heap.get?_update_self _ e1 (Obj.isFreed_of_fields (Obj.data_mapFields e3 _)),(Obj.cls_mapFields ..).trans e2,?_⟩ (Heap.SameBut.update ..))⟩))
 rw[Obj.data_mapFields e3]
 simp[rawInt]
theorem nextOf_tup_end{it t:Addr}{i:Nat}{xs:Array Value}{Q:Value->Shared->Prop}(hh:A.handled=none)(hit:s.heap.IsTupleIter it t i)(ht:s.heap.IsTuple t xs)(hx:xs[i]?=none)
  (hE:∀g e,Heap.ExtBut it s.heap g->(∃o,g.get? e=some o/\o.cls=.type "StopIteration")->E (.ref e) {s with heap:=g}):wpAny (model prog w) A (Builtin.SmallTypes.nextOf (.ref it)) Q E s:=by
 have hT:=hit.typeIs
 obtain⟨oi,e1,e2,e3⟩:=hit
 obtain⟨ot,f1,_,fn,f2⟩:=ht
 unfold Builtin.SmallTypes.nextOf
 refine wpAny_bind (wpAny_callSpecial?_slot (name:=Str.ofString "__next__") hT F.slot_tuple_iterator_next (wpAny_call_entry F.slot_tuple_iterator_next hT F.entry_tuple_iterator_next ?_ (F.args_tuple_iterator_next_1 _)))
 show wpAny (model prog w) _ (field (.ref it) 0 >>= _) _ _ s
 refine wpAny_bind (wpAny_field e1 e3 (x:=.ref t) rfl ?_)
 show wpAny (model prog w) _ (if (Value.ref t==Value.none)=true then _ else _) _ _ s
 rw[if_neg (show ¬ (Value.ref t==Value.none)=true from Bool.false_ne_true)]
 show wpAny (model prog w) _ (field (.ref it) 1 >>= _) _ _ s
 refine wpAny_bind (wpAny_field e1 e3 (x:=.int i 0) rfl ?_)
 show wpAny (model prog w) _ (seqItems? (.ref t) >>= _) _ _ s
 refine wpAny_bind (wpAny_seqItems f1 f2 ?_)
 simp only[hx,Int.toNat_natCast]
 refine wpAny_bind (wpAny_rule (wpAny_bind (wpAny_setField e1 e3 (by simp) ?_)))
 show wpAny (model prog w) _ (newExc (.type "StopIteration") [] >>= _) _ _ _
 refine wpAny_bind ?_
 simp only[newTuple,newExc]
 refine wpAny_bind (wpAny_newObj_type (wpAny_bind (m:=firstArgMember _ _) (wpAny_of_eq (a:=Value.none) (by first|rfl|(simp only[firstArgMember];rfl)) (wpAny_newObj_type ?_ (by size_fits)))) (by size_fits))
 simp only[raiseNew]
 refine wpAny_bind (wpAny_handled ?_)
 first|rw[show A.in1.handled=none from hh]|rw[hh]
 exact wpAny_bind (wpAny_pure (wpAny_throw (hE _ _ (((Heap.SameBut.update ..).extBut.push _).push _) ⟨_,Heap.get?_push_size _ rfl,rfl⟩)))
theorem nextOf_seq{it l:Addr}{k:Nat}{xs:Array Value}{x:Value}{Q:Value->Shared->Prop}(h:SeqIt s.heap it l k xs)(hx:xs[k]?=some x)(hQ:∀g,SeqIt g it l (k + 1) xs->Heap.SameBut it s.heap g->Q x {s with heap:=g}) :
  wpAny (model prog w) A (Builtin.SmallTypes.nextOf (.ref it)) Q E s:=by
 have ne:=h.ne
 rcases h with ⟨a,b⟩|⟨a,b⟩
 ·exact wpAny_nextOf_list_item a b hx fun g g1 g2=>hQ g (.inl ⟨g1,b.extBut g2.extBut ne⟩) g2
 ·exact nextOf_tup a b hx fun g g1 g2=>hQ g (.inr ⟨g1,b.extBut g2.extBut ne⟩) g2
theorem nextOf_seq_end{it l:Addr}{k:Nat}{xs:Array Value}{Q:Value->Shared->Prop}(hh:A.handled=none)(h:SeqIt s.heap it l k xs)(hx:xs[k]?=none)
  (hE:∀g e,Heap.ExtBut it s.heap g->(∃o,g.get? e=some o/\o.cls=.type "StopIteration")->E (.ref e) {s with heap:=g}):wpAny (model prog w) A (Builtin.SmallTypes.nextOf (.ref it)) Q E s:=by
 rcases h with ⟨a,b⟩|⟨a,b⟩
 ·exact wpAny_nextOf_list_end hh a b hx hE
 ·exact nextOf_tup_end hh a b hx hE
structure Zp(h:Heap)(z TI TO i j l m:Addr)(f:Value)(k:Nat)(xs ys:Array Value):Prop where
 z:IsZip h z TI TO f
 ti:IsPair h TI (.ref i) (.ref j)
 to:∃a b,IsPair h TO a b
 one:SeqIt h i l k xs
 two:SeqIt h j m k ys
structure Zd(z TI TO i j l m:Addr):Prop where
 nd:[z,TI,TO,i,j].Nodup
 l:l∉[z,TI,TO,i,j]
 m:m∉[z,TI,TO,i,j]
theorem Zd.all{z TI TO i j l m:Addr}(d:Zd z TI TO i j l m):(z≠TI/\z≠TO/\z≠i/\z≠j)/\(TI≠TO/\TI≠i/\TI≠j)/\(TO≠i/\TO≠j)/\i≠j/\(l≠z/\l≠TI/\l≠TO/\l≠i/\l≠j)/\(m≠z/\m≠TI/\m≠TO/\m≠i/\m≠j):=by
 obtain⟨a,b,c⟩:=d
 simp only[List.nodup_cons,List.mem_cons,List.not_mem_nil,or_false,not_or,List.nodup_nil,not_false_eq_true,and_true]at a b c
 exact⟨⟨a.1.1,a.1.2.1,a.1.2.2.1,a.1.2.2.2⟩,⟨a.2.1.1,a.2.1.2.1,a.2.1.2.2⟩,⟨a.2.2.1.1,a.2.2.1.2⟩,a.2.2.2,⟨b.1,b.2.1,b.2.2.1,b.2.2.2.1,b.2.2.2.2⟩,c.1,c.2.1,c.2.2.1,c.2.2.2.1,c.2.2.2.2⟩
theorem zipped{z TI TO i j l m:Addr}{k:Nat}{xs ys:Array Value}{x y:Value}{Q:Value->Shared->Prop}(d:Zd z TI TO i j l m)(Z:Zp s.heap z TI TO i j l m .none k xs ys)(hx:xs[k]?=some x)(hy:ys[k]?=some y)
  (hQ:∀g,Zp g z TI TO i j l m (rawInt s.heap.objs.size) (k + 1) xs ys->IsPair g s.heap.objs.size x y->g.objs.size=s.heap.objs.size + 1->(∀b o,b∉[z,TO,i,j]->s.heap.get? b=some o->g.get? b=some o)->Q (.ref s.heap.objs.size) {s with heap:=g}) :
  wpAny (model prog w) A (Builtin.«zip.__next__» ⟨[.ref z],[]⟩) (fun fin s'=>∃v,fin=.done (.ret v)/\Q v s') E s:=by
 obtain⟨⟨zTI,zTO,zi,zj⟩,⟨TITO,TIi,TIj⟩,⟨TOi,TOj⟩,ij,⟨lz,lTI,lTO,li,lj⟩,mz,mTI,mTO,mi,mj⟩:=d.all
 obtain⟨hz,hTI,⟨a,b,hTO⟩,h1,h2⟩:=Z
 show wpAny (model prog w) A (field (.ref z) 2 >>= _) _ _ _
 refine wpAny_bind (wpAny_field hz rfl (x:=.bool false) rfl (show wpAny (model prog w) A (field (.ref z) 3 >>= _) _ _ _ from wpAny_bind (wpAny_field hz rfl (x:=.ref TI) rfl (wpAny_bind (wpAny_seqItems hTI rfl ?_)))))
 show wpAny (model prog w) A (Builtin.SmallTypes.ownedTupleIsFree (.ref z) >>= _) _ _ _
 refine wpAny_bind ?_
 unfold Builtin.SmallTypes.ownedTupleIsFree
 refine wpAny_bind (wpAny_field hz rfl (x:=.none) rfl (wpAny_pure ?_))
 simp only[if_true]
 refine wpAny_bind (wpAny_rule (wpAny_bind (wpAny_field hz rfl (x:=.ref TO) rfl (wpAny_bind (wpAny_setField_rec hz (by simp) fun g1 z1 s1=>?_)))))
 replace z1:IsZip g1 z TI TO .ellipsis:=z1
 refine wpAny_bind ?_
 simp only[List.zipIdx_cons,List.zipIdx_nil,List.forIn_cons,List.forIn_nil]
 have k1:SeqIt g1 i l k xs:=h1.keep fun c o hc e=>(s1.2 c (by rcases hc with rfl|rfl;exact Ne.symm zi;exact lz)).trans e
 refine wpAny_bind (wpAny_bind (wpAny_onRaise ?_))
 show wpAny (model prog w) A (Builtin.SmallTypes.nextOf (.ref i) >>= _) _ _ _
 refine wpAny_bind (nextOf_seq k1 hx fun g2 k2 s2=>wpAny_pure ?_)
 have t2:IsPair g2 TO a b:=(s2.2 TO TOi).trans ((s1.2 TO (Ne.symm zTO)).trans hTO)
 refine wpAny_bind (wpAny_seqItems t2 rfl (wpAny_bind (wpAny_updateSeq_pair t2 fun g3 t3 s3=>?_)))
 replace t3:IsPair g3 TO x b:=t3
 refine wpAny_bind (wpAny_letGo (wpAny_pure ?_))
 have e3:SeqIt g3 j m k ys:=h2.keep fun c o hc e=>by
  have n:c≠z/\c≠i/\c≠TO:=by
   rcases hc with rfl|rfl
   ·exact⟨Ne.symm zj,Ne.symm ij,Ne.symm TOj⟩
   ·exact⟨mz,mi,mTO⟩
  exact(s3.2 c n.2.2).trans ((s2.2 c n.2.1).trans ((s1.2 c n.1).trans e))
 refine wpAny_bind (wpAny_bind (wpAny_onRaise ?_))
 show wpAny (model prog w) A (Builtin.SmallTypes.nextOf (.ref j) >>= _) _ _ _
 refine wpAny_bind (nextOf_seq e3 hy fun g4 e4 s4=>wpAny_pure ?_)
 have t4:IsPair g4 TO x b:=(s4.2 TO TOj).trans t3
 refine wpAny_bind (wpAny_seqItems t4 rfl (wpAny_bind (wpAny_updateSeq_pair t4 fun g5 t5 s5=>?_)))
 replace t5:IsPair g5 TO x y:=t5
 refine wpAny_bind (wpAny_letGo (wpAny_pure (wpAny_pure ?_)))
 refine wpAny_bind (wpAny_seqItems t5 rfl (wpAny_bind (wpAny_newTuple ?_)))
 have sz:g5.objs.size=s.heap.objs.size:=by rw[s5.1,s4.1,s3.1,s2.1,s1.1]
 have up5:∀c o,c≠z->c≠TO->c≠i->c≠j->s.heap.get? c=some o->g5.get? c=some o:=fun c o c1 c2 c3 c4 e=>(s5.2 c c2).trans ((s4.2 c c4).trans ((s3.2 c c2).trans ((s2.2 c c3).trans ((s1.2 c c1).trans e))))
 have z5:IsZip g5 z TI TO .ellipsis:=(s5.2 z zTO).trans ((s4.2 z zj).trans ((s3.2 z zTO).trans ((s2.2 z zi).trans z1)))
 have k5:SeqIt g5 i l (k + 1) xs:=k2.keep fun c o hc e=>by
  have n:c≠j/\c≠TO:=by
   rcases hc with rfl|rfl
   ·exact⟨ij,Ne.symm TOi⟩
   ·exact⟨lj,lTO⟩
  exact(s5.2 c n.2).trans ((s4.2 c n.1).trans ((s3.2 c n.2).trans e))
 have e5:SeqIt g5 j m (k + 1) ys:=e4.keep fun c o hc e=>(s5.2 c (by rcases hc with rfl|rfl;exact Ne.symm TOj;exact mTO)).trans e
 have zlt:z < g5.objs.size:=Heap.lt_size z5
 show wpAny (model prog w) A (Builtin.SmallTypes.ownedTupleHandOut (.ref z) (.ref g5.objs.size) >>= _) _ _ _
 refine wpAny_bind ?_
 unfold Builtin.SmallTypes.ownedTupleHandOut
 have z6:IsZip (g5.push {cls:=.type "tuple", data:=.seq #[x,y]}) z TI TO .ellipsis:=Heap.get?_push_of_some _ z5
 refine wpAny_bind (wpAny_setField_rec z6 (by simp) fun g7 z7 s7=>?_)
 replace z7:IsZip g7 z TI TO (rawInt g5.objs.size):=z7
 refine wpAny_setField_rec z7 (by simp) fun g8 z8 s8=>wpAny_pure ⟨_,rfl,?_⟩
 replace z8:IsZip g8 z TI TO (rawInt g5.objs.size):=z8
 have up:∀c o,c≠z->g5.get? c=some o->g8.get? c=some o:=fun c o c1 e=>(s8.2 c c1).trans ((s7.2 c c1).trans (Heap.get?_push_of_some _ e))
 have T8:IsPair g8 g5.objs.size x y:=(s8.2 _ (Nat.ne_of_gt zlt)).trans ((s7.2 _ (Nat.ne_of_gt zlt)).trans (Heap.get?_push_size _ rfl))
 have w8:g8.objs.size=g5.objs.size + 1:=by rw[s8.1,s7.1,Heap.size_push]
 rw[sz]at z8 T8 w8
 show Q (.ref g5.objs.size) _
 rw[sz]
 refine hQ g8 ⟨z8,up _ _ (Ne.symm zTI) (up5 _ _ (Ne.symm zTI) TITO TIi TIj hTI),⟨x,y,up _ _ (Ne.symm zTO) t5⟩,k5.keep fun c o hc e=>up c o (by rcases hc with rfl|rfl;exact Ne.symm zi;exact lz) e,
  e5.keep fun c o hc e=>up c o (by rcases hc with rfl|rfl;exact Ne.symm zj;exact mz) e⟩ T8 w8 fun c o hc e=>?_
 have n1:c≠z:=fun q=>hc (by simp[q])
 exact up c o n1 (up5 c o n1 (fun q=>hc (by simp[q])) (fun q=>hc (by simp[q])) (fun q=>hc (by simp[q])) e)
theorem zip_over{z TI TO i j l m:Addr}{k:Nat}{xs ys:Array Value}{Q:Fin->Shared->Prop}(hh:A.handled=none)(d:Zd z TI TO i j l m)(Z:Zp s.heap z TI TO i j l m .none k xs ys)(hend:xs[k]?=none∨ys[k]?=none)
  (hE:∀g e,(∀b o,b∉[z,TO,i,j]->s.heap.get? b=some o->g.get? b=some o)->(∃o,g.get? e=some o/\o.cls=.type "StopIteration")->E (.ref e) {s with heap:=g}) :
  wpAny (model prog w) A (Builtin.«zip.__next__» ⟨[.ref z],[]⟩) Q E s:=by
 obtain⟨⟨zTI,zTO,zi,zj⟩,⟨TITO,TIi,TIj⟩,⟨TOi,TOj⟩,ij,⟨lz,lTI,lTO,li,lj⟩,mz,mTI,mTO,mi,mj⟩:=d.all
 obtain⟨hz,hTI,⟨a,b,hTO⟩,h1,h2⟩:=Z
 show wpAny (model prog w) A (field (.ref z) 2 >>= _) _ _ _
 refine wpAny_bind (wpAny_field hz rfl (x:=.bool false) rfl (show wpAny (model prog w) A (field (.ref z) 3 >>= _) _ _ _ from wpAny_bind (wpAny_field hz rfl (x:=.ref TI) rfl (wpAny_bind (wpAny_seqItems hTI rfl ?_)))))
 show wpAny (model prog w) A (Builtin.SmallTypes.ownedTupleIsFree (.ref z) >>= _) _ _ _
 refine wpAny_bind ?_
 unfold Builtin.SmallTypes.ownedTupleIsFree
 refine wpAny_bind (wpAny_field hz rfl (x:=.none) rfl (wpAny_pure ?_))
 simp only[if_true]
 refine wpAny_bind (wpAny_rule (wpAny_bind (wpAny_field hz rfl (x:=.ref TO) rfl (wpAny_bind (wpAny_setField_rec hz (by simp) fun g1 z1 s1=>?_)))))
 replace z1:IsZip g1 z TI TO .ellipsis:=z1
 refine wpAny_bind ?_
 simp only[List.zipIdx_cons,List.zipIdx_nil,List.forIn_cons,List.forIn_nil]
 have k1:SeqIt g1 i l k xs:=h1.keep fun c o hc e=>(s1.2 c (by rcases hc with rfl|rfl;exact Ne.symm zi;exact lz)).trans e
 refine wpAny_bind (wpAny_bind (wpAny_onRaise ?_))
 show wpAny (model prog w) A (Builtin.SmallTypes.nextOf (.ref i) >>= _) _ _ _
 have nz:∀{g:Heap}{e:Addr},IsZip g z TI TO .ellipsis->(∃o,g.get? e=some o/\o.cls=.type "StopIteration")->e≠z:=fun hg ⟨o,ho,hc⟩ q=>by
  subst q
  rw[hg]at ho
  cases ho
  simp at hc
 cases hx:xs[k]? with
 | none =>
  refine wpAny_bind (nextOf_seq_end hh k1 hx fun g2 e s2 he=>?_)
  have z2:IsZip g2 z TI TO .ellipsis:=s2 z _ zi z1
  have ez:=nz z2 he
  refine wpAny_setField_rec z2 (by simp) fun g3 _ s3=>hE g3 e (fun c o hc q=>?_) (let ⟨o,ho,hc⟩:=he;⟨o,(s3.2 e ez).trans ho,hc⟩)
  have n1:c≠z:=fun q=>hc (by simp[q])
  exact(s3.2 c n1).trans (s2 c o (fun q=>hc (by simp[q])) ((s1.2 c n1).trans q))
 | some x =>
  have hy:ys[k]?=none:=by rcases hend with q|q;rw[hx]at q;cases q;exact q
  refine wpAny_bind (nextOf_seq k1 hx fun g2 k2 s2=>wpAny_pure ?_)
  have t2:IsPair g2 TO a b:=(s2.2 TO TOi).trans ((s1.2 TO (Ne.symm zTO)).trans hTO)
  refine wpAny_bind (wpAny_seqItems t2 rfl (wpAny_bind (wpAny_updateSeq_pair t2 fun g3 t3 s3=>?_)))
  refine wpAny_bind (wpAny_letGo (wpAny_pure ?_))
  have e3:SeqIt g3 j m k ys:=h2.keep fun c o hc e=>by
   have n:c≠z/\c≠i/\c≠TO:=by
    rcases hc with rfl|rfl
    ·exact⟨Ne.symm zj,Ne.symm ij,Ne.symm TOj⟩
    ·exact⟨mz,mi,mTO⟩
   exact(s3.2 c n.2.2).trans ((s2.2 c n.2.1).trans ((s1.2 c n.1).trans e))
  refine wpAny_bind (wpAny_bind (wpAny_onRaise ?_))
  show wpAny (model prog w) A (Builtin.SmallTypes.nextOf (.ref j) >>= _) _ _ _
  refine wpAny_bind (nextOf_seq_end hh e3 hy fun g4 e s4 he=>?_)
  have z4:IsZip g4 z TI TO .ellipsis:=s4 z _ zj ((s3.2 z zTO).trans ((s2.2 z zi).trans z1))
  have ez:=nz z4 he
  refine wpAny_setField_rec z4 (by simp) fun g5 _ s5=>hE g5 e (fun c o hc q=>?_) (let ⟨o,ho,hc⟩:=he;⟨o,(s5.2 e ez).trans ho,hc⟩)
  have n1:c≠z:=fun q=>hc (by simp[q])
  exact(s5.2 c n1).trans (s4 c o (fun q=>hc (by simp[q])) ((s3.2 c (fun q=>hc (by simp[q]))).trans ((s2.2 c (fun q=>hc (by simp[q]))).trans ((s1.2 c n1).trans q))))
theorem pyNext_zip{z TI TO i j l m:Addr}{k:Nat}{xs ys:Array Value}{x y:Value}{Q:Option Value->Shared->Prop}(d:Zd z TI TO i j l m)(Z:Zp s.heap z TI TO i j l m .none k xs ys)(hx:xs[k]?=some x)(hy:ys[k]?=some y)
  (hQ:∀g,Zp g z TI TO i j l m (rawInt s.heap.objs.size) (k + 1) xs ys->IsPair g s.heap.objs.size x y->g.objs.size=s.heap.objs.size + 1->(∀b o,b∉[z,TO,i,j]->s.heap.get? b=some o->g.get? b=some o)->Q (some (.ref s.heap.objs.size)) {s with heap:=g}) :
  wpAny (model prog w) A (pyNext (.ref z)) Q E s:=by
 have hT:s.TypeIs (.ref z) "zip" := ⟨_,Z.z,rfl⟩
 unfold pyNext
 exact wpAny_bind (wpAny_attempt (wpAny_callSpecial?_slot (name:=Str.ofString "__next__") hT F.slot_zip_next (wpAny_call_entry F.slot_zip_next hT F.entry_zip_next (zipped d Z hx hy fun g a1 a2 a3 a4=>wpAny_pure (hQ g a1 a2 a3 a4)) (F.args_zip_next_1 _))))
theorem pyNext_zip_end{z TI TO i j l m:Addr}{k:Nat}{xs ys:Array Value}{Q:Option Value->Shared->Prop}(hh:A.handled=none)(d:Zd z TI TO i j l m)(Z:Zp s.heap z TI TO i j l m .none k xs ys)(hend:xs[k]?=none∨ys[k]?=none)
  (hQ:∀g,(∀b o,b∉[z,TO,i,j]->s.heap.get? b=some o->g.get? b=some o)->Q none {s with heap:=g}):wpAny (model prog w) A (pyNext (.ref z)) Q E s:=by
 have hT:s.TypeIs (.ref z) "zip" := ⟨_,Z.z,rfl⟩
 unfold pyNext
 refine wpAny_bind (wpAny_attempt (wpAny_callSpecial?_slot (name:=Str.ofString "__next__") hT F.slot_zip_next (wpAny_call_entry F.slot_zip_next hT F.entry_zip_next (zip_over hh d Z hend fun g e hk ⟨o,ho,hc⟩=>?_) (F.args_zip_next_1 _))))
 exact wpAny_bind (wpAny_isInstance (T := "StopIteration") (b:=true) ⟨o,ho,hc⟩ isSubtype_stop (wpAny_pure (hQ _ hk)))
end
end TL
end
section
namespace TL
open PySem PySem.Spec PyProof.Rows L2
def SeqK(h:Heap)(c:Bool)(l:Addr)(xs:Array Value):Prop:=match c with|true=>h.IsList l xs|false=>h.IsTuple l xs
def itK:Bool->String
 | true => "list_iterator"
 | false => "tuple_iterator"
def itO(c:Bool)(l:Addr):Obj:={cls:=.type (itK c),data:=.fields #[.ref l,.int 0 0]}
def ItK(h:Heap)(c:Bool)(it l:Addr)(k:Nat):Prop:=match c with|true=>h.IsListIter it l k|false=>h.IsTupleIter it l k
theorem SeqK.lt{h:Heap}{c:Bool}{l:Addr}{xs:Array Value}(x:SeqK h c l xs):l < h.objs.size:=by
 cases c
 ·obtain⟨o,e,_⟩:=x;exact Heap.lt_size e
 ·obtain⟨o,e,_⟩:=x;exact Heap.lt_size e
theorem SeqK.push{h:Heap}{c:Bool}{l:Addr}{xs:Array Value}(x:SeqK h c l xs)(o:Obj):SeqK (h.push o) c l xs:=by
 cases c
 ·exact Heap.IsTuple.push x o
 ·exact Heap.IsList.push x o
theorem ItK.get{h:Heap}{c:Bool}{it l:Addr}{k:Nat}(x:ItK h c it l k):∃o,h.get? it=some o/\∀v,o.data ≠ .cell v:=by
 cases c
 ·obtain⟨o,e,c,d⟩:=x;exact⟨o,e,fun v z=>by rw[d]at z;cases z⟩
 ·obtain⟨o,e,c,d⟩:=x;exact⟨o,e,fun v z=>by rw[d]at z;cases z⟩
theorem ItK.keep{h h':Heap}{c:Bool}{it l:Addr}{k:Nat}(x:ItK h c it l k)(q:∀o,h.get? it=some o->h'.get? it=some o):ItK h' c it l k:=by
 cases c
 ·obtain⟨o,e,r⟩:=x;exact⟨o,q o e,r⟩
 ·obtain⟨o,e,r⟩:=x;exact⟨o,q o e,r⟩
theorem ItK.seq{h:Heap}{c:Bool}{it l:Addr}{k:Nat}{xs:Array Value}(x:ItK h c it l k)(y:SeqK h c l xs):SeqIt h it l k xs:=by
 cases c
 ·exact .inr ⟨x,y⟩
 ·exact .inl ⟨x,y⟩
theorem SeqIt.kind{h:Heap}{c:Bool}{it l:Addr}{k:Nat}{xs ys:Array Value}(x:SeqIt h it l k xs)(y:SeqK h c l ys):ItK h c it l k:=by
 rcases x with ⟨a,o,e,c1,_⟩|⟨a,o,e,c1,_⟩
 ·cases c
  ·obtain⟨o',e',c2,_⟩:=y
   rw[e]at e';cases e';rw[c1]at c2;simp at c2
  ·exact a
 ·cases c
  ·exact a
  ·obtain⟨o',e',c2,_⟩:=y
   rw[e]at e';cases e';rw[c1]at c2;simp at c2
section
variable {prog:Program} {w:World} {A:Around} {E:Value->Shared->Prop} {s:Shared}
theorem pyIter_k{c:Bool}{l:Addr}{xs:Array Value}{Q:Value->Shared->Prop}(hl:SeqK s.heap c l xs)(hQ:Q (.ref s.heap.objs.size) {s with heap:=s.heap.push (itO c l)}):wpAny (model prog w) A (pyIter (.ref l)) Q E s:=by
 cases c
 ·exact wpAny_pyIter_tuple hl hQ
 ·exact wpAny_pyIter_list hl hQ
end
abbrev zK1(h:Heap)(c:Bool)(l1:Addr):Heap:=h.push (itO c l1)
abbrev zK2(h:Heap)(c d:Bool)(l1 l2:Addr):Heap:=(zK1 h c l1).push (itO d l2)
abbrev zK3(h:Heap)(c d:Bool)(l1 l2:Addr):Heap:=(zK2 h c d l1 l2).push {cls:=.type "tuple", data:=.seq #[.ref h.objs.size,.ref (zK1 h c l1).objs.size]}
abbrev zK4(h:Heap)(c d:Bool)(l1 l2:Addr):Heap:=(zK3 h c d l1 l2).push {cls:=.type "tuple", data:=.seq #[.none,.none]}
abbrev zK5(h:Heap)(c d:Bool)(l1 l2:Addr):Heap:=(zK4 h c d l1 l2).push {cls:=.type "zip", data:=.fields #[.none,.bool false,.bool false,.ref (zK2 h c d l1 l2).objs.size,.ref (zK3 h c d l1 l2).objs.size]}
theorem meets_zipK(c d:Bool)(l1 l2:Addr)(xs ys:Array Value) :
  Meets (Builtin.«zip.__new__» ⟨[.type "zip", .ref l1,.ref l2],[]⟩) (fun _ R s=>SeqK s.heap c l1 xs/\SeqK s.heap d l2 ys ∧
   R (.ok (.ret (.ref (zK4 s.heap c d l1 l2).objs.size))) {s with heap:=zK5 s.heap c d l1 l2}) :=
 .of_wp fun prog w A R s h=>by
  obtain⟨hp,g,dr,tk,os⟩:=s
  obtain⟨hl1,hl2,h⟩:=h
  have hsub:=sub_zip
  have hL1:SeqK (Shared.heap ⟨hp,g,dr,tk,os⟩) c l1 xs:=hl1
  have hL2:SeqK (Shared.heap ⟨hp.push (itO c l1),g,dr,tk,os⟩) d l2 ys:=hl2.push _
  wp_walk using pyIter_k hL1,pyIter_k hL2
  exact⟨_,rfl,h⟩
theorem itK_at{h:Heap}{c:Bool}{l it:Addr}(e:h.get? it=some (itO c l)):ItK h c it l 0:=by
 cases c
 ·exact⟨_,e,rfl,rfl⟩
 ·exact⟨_,e,rfl,rfl⟩
section
variable {prog:Program} {w:World} {A:Around} {E:Value->Shared->Prop} {s:Shared}
theorem call_zipK{c d:Bool}{l1 l2:Addr}{xs ys:Array Value}{Q:Value->Shared->Prop}(hl1:SeqK s.heap c l1 xs)(hl2:SeqK s.heap d l2 ys)
  (h:∀h',IsZip h' (s.heap.objs.size + 4) (s.heap.objs.size + 2) (s.heap.objs.size + 3) .none->IsPair h' (s.heap.objs.size + 2) (.ref s.heap.objs.size) (.ref (s.heap.objs.size + 1)) →
   IsPair h' (s.heap.objs.size + 3) .none .none->ItK h' c s.heap.objs.size l1 0->ItK h' d (s.heap.objs.size + 1) l2 0 →
   (∀b o,s.heap.get? b=some o->h'.get? b=some o)->Q (.ref (s.heap.objs.size + 4)) {s with heap:=h' }) :
  wpAny (model prog w) A (call (.type "zip") [.ref l1,.ref l2]) Q E s:=by
 refine callType_new F.called_zip (by decide) (F.typeCall_zip_2 _ _) (F.newCall_zip_2 _ _) (fun obj=>F.args_object_init_3 obj _ _) F.entry_zip_new (meets_zipK c d l1 l2 xs ys) ⟨hl1,hl2,?_⟩
 have z1:(zK1 s.heap c l1).objs.size=s.heap.objs.size + 1:=Heap.size_push ..
 have z2:(zK2 s.heap c d l1 l2).objs.size=s.heap.objs.size + 2:=by rw[Heap.size_push,z1]
 have z3:(zK3 s.heap c d l1 l2).objs.size=s.heap.objs.size + 3:=by rw[Heap.size_push,z2]
 have z4:(zK4 s.heap c d l1 l2).objs.size=s.heap.objs.size + 4:=by rw[Heap.size_push,z3]
 have g5:(zK5 s.heap c d l1 l2).get? (zK4 s.heap c d l1 l2).objs.size=some _:=Heap.get?_push_size _ rfl
 have g4:(zK5 s.heap c d l1 l2).get? (zK3 s.heap c d l1 l2).objs.size=some _:=Heap.get?_push_of_some _ (Heap.get?_push_size _ rfl)
 have g3:(zK5 s.heap c d l1 l2).get? (zK2 s.heap c d l1 l2).objs.size=some _:=Heap.get?_push_of_some _ (Heap.get?_push_of_some _ (Heap.get?_push_size _ rfl))
 have g2:(zK5 s.heap c d l1 l2).get? (zK1 s.heap c l1).objs.size=some (itO d l2):=Heap.get?_push_of_some _ (Heap.get?_push_of_some _ (Heap.get?_push_of_some _ (Heap.get?_push_size _ rfl)))
 have g1:(zK5 s.heap c d l1 l2).get? s.heap.objs.size=some (itO c l1):=Heap.get?_push_of_some _ (Heap.get?_push_of_some _ (Heap.get?_push_of_some _ (Heap.get?_push_of_some _ (Heap.get?_push_size _ rfl))))
 show _/\_
 rw[z2,z3,z4]at g5
 rw[z1,z2]at g3
 rw[z3]at g4
 rw[z1]at g2
 rw[z4]
 exact⟨⟨_,g5,rfl⟩,h _ g5 g3 g4 (itK_at g1) (itK_at g2) fun c o x =>
  Heap.get?_push_of_some _ (Heap.get?_push_of_some _ (Heap.get?_push_of_some _ (Heap.get?_push_of_some _ (Heap.get?_push_of_some _ x))))⟩
end
def SqK(K:PySem.W.Frag)(H:Hp)(c:Bool)(a:Addr)(xs:List V):Prop:=match c with|true=>SqF K H a xs|false=>SqT K H a xs
theorem SqK.kp{K:PySem.W.Frag}{H H':Hp}{c:Bool}{a:Addr}{xs:List V}(h:SqK K H c a xs)(k:Kp H H'):SqK K H' c a xs:=by
 cases c
 ·exact sqT_kp k h
 ·exact sqF_kp k h
theorem inv_seqK{X:Cx}{pins:List (Addr×Obj)}{σ:St}{H:Hp}{s:Shared}{c:Bool}{a:Addr}{xs:List V}(I:Inv X pins σ H s)(h:SqK X.K H c a xs):∃its:List Value,Vals xs its/\SeqK s.heap c a its.toArray:=by
 cases c
 ·obtain⟨its,r,p,_⟩:=I.tuple h
  exact⟨its,r,p⟩
 ·obtain⟨its,r,p,_⟩:=I.list (SqF.sq h)
  exact⟨its,r,p.isList⟩
theorem inv_seqK_inj{X:Cx}{pins:List (Addr×Obj)}{σ:St}{H:Hp}{s:Shared}{c:Bool}{a:Addr}{xs ys:List V}(I:Inv X pins σ H s)(h:SqK X.K H c a xs)(h':SqK X.K H c a ys):xs=ys:=by
 cases c
 ·exact I.tuple_inj h h'
 ·exact I.list_inj (SqF.sq h) (SqF.sq h')
def Itz(K:PySem.W.Frag)(c d:Bool)(a b:Addr):It :=
  ⟨fun i H=>∃xs ys x y,SqK K H c a xs/\SqK K H d b ys/\xs[i]?=some x/\ys[i]?=some y,
   fun i H v H'=>∃p x y,H p=none/\v=.ref p/\H'=upd H p (.tup [x,y])/\(∀xs,SqK K H c a xs->xs[i]?=some x)/\∀ys,SqK K H d b ys->ys[i]?=some y,
   fun i H=>∃xs ys,SqK K H c a xs/\SqK K H d b ys/\(xs.length<=i∨ys.length<=i)⟩
structure Zt(h:Heap)(z TI TO i j l m:Addr)(c d:Bool)(k:Nat):Prop where
 z:IsZip h z TI TO .none
 ti:IsPair h TI (.ref i) (.ref j)
 to:∃a b,IsPair h TO a b
 one:ItK h c i l k
 two:ItK h d j m k
theorem turn_zip{P:Program}{w:World}{K:PySem.W.Frag}{elts:List Expr}{x1}{tp:Pos}{z TI TO i j l m:Addr}{c d:Bool}(D:Zd z TI TO i j l m) :
  Turn P w K (.Tuple elts x1 tp) (Itz K c d l m) [z,TI,TO,i,j] z (fun k h=>Zt h z TI TO i j l m c d k) where
 mem:=by simp
 obj:=fun k h st b hb=>by
  obtain⟨h1,h2,⟨a,a',h3⟩,h4,h5⟩:=st
  simp only[List.mem_cons,List.not_mem_nil,or_false]at hb
  rcases hb with rfl|rfl|rfl|rfl|rfl
  ·exact⟨_,h1,fun v z=>by cases z⟩
  ·exact⟨_,h2,fun v z=>by cases z⟩
  ·exact⟨_,h3,fun v z=>by cases z⟩
  ·exact h4.get
  ·exact h5.get
 keep:=fun k h h' st q=>by
  obtain⟨h1,h2,⟨a,a',h3⟩,h4,h5⟩:=st
  exact⟨q _ (by simp) _ h1,q _ (by simp) _ h2,⟨a,a',q _ (by simp) _ h3⟩,h4.keep fun o e=>q _ (by simp) o e,h5.keep fun o e=>q _ (by simp) o e⟩
 item:=by
  intro X hP hw hK hc k pins s σ H E I hf st hg
  subst hP hw hK
  obtain⟨xs,ys,x,y,hq,hq',hx,hy⟩:=hg
  obtain⟨h1,h2,h3,h4,h5⟩:=st
  obtain⟨its,rv,pl⟩:=inv_seqK I hq
  obtain⟨its',rv',pl'⟩:=inv_seqK I hq'
  obtain⟨u,hu,ru⟩:=rv.get hx
  obtain⟨u',hu',ru'⟩:=rv'.get hy
  have lt:∀b∈[z,TI,TO,i,j],b < s.heap.objs.size:=fun b hb=>by
   simp only[List.mem_cons,List.not_mem_nil,or_false]at hb
   rcases hb with rfl|rfl|rfl|rfl|rfl
   ·exact Heap.lt_size h1
   ·exact Heap.lt_size h2
   ·obtain⟨_,_,e⟩:=h3;exact Heap.lt_size e
   ·obtain⟨_,e,_⟩:=h4.get;exact Heap.lt_size e
   ·obtain⟨_,e,_⟩:=h5.get;exact Heap.lt_size e
  refine pyNext_zip D ⟨h1,h2,h3,h4.seq pl,h5.seq pl'⟩ (x:=u) (y:=u') (by simpa using hu) (by simpa using hu') fun g Z hp hz hk=>⟨_,rfl,?_⟩
  refine wpAny_letOwnedTupleGo_zip Z.z fun h2' z2 s2=>?_
  have hpn:H s.heap.objs.size=none:=I.hok.fresh (Nat.le_refl _)
  obtain⟨⟨zTI,zTO,zi,zj⟩,_,_,_,⟨lz,lTI,lTO,li,lj⟩,mz,mTI,mTO,mi,mj⟩:=D.all
  have up:∀b o,b≠z->g.get? b=some o->h2'.get? b=some o:=fun b o n e=>(s2.2 b n).trans e
  have kl:∀{e:Bool}{b:Addr}{vs:Array Value},b∉[z,TI,TO,i,j]->SeqK s.heap e b vs->SeqK g e b vs:=fun {e b vs} n q=>by
   have nb:b∉[z,TO,i,j]:=fun q=>n (by simp only[List.mem_cons,List.not_mem_nil,or_false]at q ⊢;rcases q with q|q|q|q<;>simp[q])
   cases e
   ·obtain⟨o,e,r⟩:=q;exact⟨o,hk b o nb e,r⟩
   ·obtain⟨o,e,r⟩:=q;exact⟨o,hk b o nb e,r⟩
  have t1:Zt h2' z TI TO i j l m c d (k + 1):=by
   obtain⟨a1,a2,⟨q,q',a3⟩,a4,a5⟩:=Z
   refine⟨z2,up _ _ (Ne.symm zTI) a2,⟨q,q',up _ _ (Ne.symm zTO) a3⟩,(a4.kind (kl D.l pl)).keep fun o e=>up _ _ (Ne.symm zi) e,(a5.kind (kl D.m pl')).keep fun o e=>up _ _ (Ne.symm zj) e⟩
  have ht2:IsTup h2' s.heap.objs.size [u,u'].toArray:=⟨_,up _ _ (Nat.ne_of_gt (lt z (by simp))) hp,rfl,_,rfl⟩
  have I2:Inv X pins σ (upd H s.heap.objs.size (.tup [x,y])) {s with heap:=h2',toks:=s.toks}:=by
   refine Inv.turnedT (ch:=[z,TI,TO,i,j]) I (fun b o hb e=>?_) (fun b hb=>?_) hf (Nat.le_refl _) (by show 2<=sizeLine;decide) (.cons ru (.cons ru' .nil)) ht2
   ·have n1:b≠z:=fun z=>hb (by simp[z])
    refine up b o n1 (hk b o (fun q=>hb ?_) e)
    simp only[List.mem_cons,List.not_mem_nil,or_false]at q ⊢
    rcases q with q|q|q|q<;>simp[q]
   ·simp only[List.mem_cons,List.not_mem_nil,or_false]at hb
    rcases hb with rfl|rfl|rfl|rfl|rfl
    ·exact⟨_,t1.z⟩
    ·exact⟨_,t1.ti⟩
    ·obtain⟨_,_,e⟩:=t1.to;exact⟨_,e⟩
    ·obtain⟨_,e,_⟩:=t1.one.get;exact⟨_,e⟩
    ·obtain⟨_,e,_⟩:=t1.two.get;exact⟨_,e⟩
  refine⟨.ref s.heap.objs.size,_,I2,rfl,⟨_,x,y,hpn,rfl,rfl,fun zs hs=>by rw[inv_seqK_inj I hs hq];exact hx,fun zs hs=>by rw[inv_seqK_inj I hs hq'];exact hy⟩,t1,fun b hb=>?_⟩
  rw[upd_ne (Nat.ne_of_lt (lt b hb))]
  exact(hf b hb).1
 done:=by
  intro X hP hw hK hc k pins s σ H E I hf st hg
  subst hP hw hK
  obtain⟨xs,ys,hq,hq',hx⟩:=hg
  obtain⟨h1,h2,h3,h4,h5⟩:=st
  obtain⟨its,rv,pl⟩:=inv_seqK I hq
  obtain⟨its',rv',pl'⟩:=inv_seqK I hq'
  have hl:=rv.length
  have hl':=rv'.length
  refine pyNext_zip_end (I.ok.hd hc) D ⟨h1,h2,h3,h4.seq pl,h5.seq pl'⟩ (by rcases hx with q|q;exact .inl (by simp;omega);exact .inr (by simp;omega)) fun g hk=>⟨rfl,?_⟩
  refine Inv.turnedL (ch:=[z,TI,TO,i,j]) I (t':=s.toks) (fun b o hb e=>hk b o (fun q=>hb ?_) e) hf
  simp only[List.mem_cons,List.not_mem_nil,or_false]at q ⊢
  rcases q with q|q|q|q<;>simp[q]
 self:=fun _ _ _ _ _ st h=>wpAny_pyIter_zip st.z h
def seqOf:T->Option (List T)
 | .tup ts=>some ts
 | .lst ts=>some ts
 | _=>none
def zipT:List T->List T->List T
 | x::xs,y::ys=>.tup [x,y]::zipT xs ys
 | _,_=>[]
theorem zipT_get:∀{xs ys:List T}{i:Nat}{t:T},(zipT xs ys)[i]?=some t->∃x y,xs[i]?=some x/\ys[i]?=some y/\t=.tup [x,y]
 | [],_,_,_,h=>by simp[zipT]at h
 | _::_,[],_,_,h=>by simp[zipT]at h
 | x::xs,y::ys,0,t,h=>by simp[zipT]at h;exact⟨x,y,by simp,by simp,h.symm⟩
 | x::xs,y::ys,i + 1,t,h=>by
  simp only[zipT,List.getElem?_cons_succ]at h ⊢
  exact zipT_get h
theorem zipT_len:∀(xs ys:List T),xs.length<=(zipT xs ys).length∨ys.length<=(zipT xs ys).length
 | [],_=>.inl (by simp)
 | _::_,[]=>.inr (by simp)
 | x::xs,y::ys=>by
  simp only[zipT,List.length_cons]
  rcases zipT_len xs ys with h|h
  ·exact .inl (by omega)
  ·exact .inr (by omega)
theorem rep_seq{K:PySem.W.Frag}{H:Hp}{t:T}{xs:List T}{v:V}(e:seqOf t=some xs)(r:Rep K H t v):∃c p vs,v=.ref p/\SqK K H c p vs/\Reps K H xs vs:=by
 cases t with
 | tup ts =>
  simp only[seqOf,Option.some.injEq]at e
  subst e
  rw[rep_tup]at r
  obtain⟨p,vs,e,q,rr⟩:=r
  exact⟨false,p,vs,e,q,rr⟩
 | lst ts =>
  simp only[seqOf,Option.some.injEq]at e
  subst e
  rw[rep_lst]at r
  obtain⟨p,vs,e,q,rr⟩:=r
  exact⟨true,p,vs,e,q,rr⟩
 | _=>simp[seqOf]at e
def iZip(ws:WA):WI:=fun τ Q=>ws τ fun ts=>match ts with
 | [a,b]=>(match seqOf a,seqOf b with|some xs,some ys=>Q (zipT xs ys)|_,_=>False)
 | _=>False
theorem two_seq{P:List T->Prop}{ts:List T}(h:match ts with|[a,b]=>(match seqOf a,seqOf b with|some xs,some ys=>P (zipT xs ys)|_,_=>False)|_=>False) :
  ∃a b xs ys,ts=[a,b]/\seqOf a=some xs/\seqOf b=some ys/\P (zipT xs ys):=by
 split at h
 ·rename_i a b
  split at h
  ·rename_i xs ys e1 e2
   exact⟨a,b,xs,ys,rfl,e1,e2,h⟩
  ·exact h.elim
 ·exact h.elim
section
variable {X:Cx} {a b:Expr} {ws:WA} {pos:Pos}
theorem jiZip{elts:List Expr}{x1}{tp p:Pos} (hg:Gl X "zip") (hm:X.mg "zip" = none) (ha:JA X [a,b] ws) (hs:starEach [a,b] X.env=(false,eval a X.env)::starEach [b] X.env:=by exact star1 rfl)
  (hpl:(backTo pos (starEach [b] X.env)).any (·.1)=false:=by exact stars rfl) :
  JI X (.Tuple elts x1 tp) (.Call (.Name "zip" p) [a,b] [] pos) (iZip ws):=by
 intro pins s σ H R I hw
 obtain⟨τ,Q0,Rs,hw,k⟩:=hw
 refine Call_ (ld_blt I hg hm boot_zip (PyProof.Rows.callWith_type1 (thn (ha pos pins s σ H (fun vs H1=>∃ts,Same H H1/\Reps X.K H1 ts vs/\(match ts with|[a,b]=>(match seqOf a,seqOf b with|some xs,some ys=>Q0 (zipT xs ys)|_,_=>False)|_=>False)) I ⟨τ,_,Rs,hw,fun ts vs H1 S r q=>⟨ts,S,r,q⟩⟩) fun us s1 ⟨vs,H1,I1,r1,ts,S1,rt,q1⟩=>?_) hs hpl))
 obtain⟨a,b,xs,ys,rfl,e1,e2,q1⟩:=two_seq (P:=Q0) q1
 obtain⟨v,v',rfl,rt1,rt2⟩:=reps2 rt
 obtain⟨c,l,vs,rfl,hq,rr⟩:=rep_seq e1 rt1
 obtain⟨d,m,vs',rfl,hq',rr'⟩:=rep_seq e2 rt2
 obtain⟨u,u',rfl,ru,ru'⟩:=vals2 r1
 cases ru
 cases ru'
 obtain⟨its,rv,pl⟩:=inv_seqK I1 hq
 obtain⟨its',rv',pl'⟩:=inv_seqK I1 hq'
 refine call_zipK pl pl' fun h2 z1 z2 z3 z4 z5 hk=>?_
 refine wpAny_pyIter_zip z1 ?_
 have I2:Inv X pins σ H1 {s1 with heap:=h2}:=I1.kept (t':=s1.toks) hk
 have D:Zd (s1.heap.objs.size + 4) (s1.heap.objs.size + 2) (s1.heap.objs.size + 3) s1.heap.objs.size (s1.heap.objs.size + 1) l m:=by
  have a1:=pl.lt
  have a2:=pl'.lt
  refine⟨?_,?_,?_⟩
  ·simp
  ·intro q
   simp only[List.mem_cons,List.not_mem_nil,or_false]at q
   rcases q with q|q|q|q|q<;>(rw[q]at a1;exact absurd a1 (Nat.not_lt.mpr (by first|exact Nat.le_refl _|exact Nat.le_add_right _ _)))
  ·intro q
   simp only[List.mem_cons,List.not_mem_nil,or_false]at q
   rcases q with q|q|q|q|q<;>(rw[q]at a2;exact absurd a2 (Nat.not_lt.mpr (by first|exact Nat.le_refl _|exact Nat.le_add_right _ _)))
 refine⟨s1.heap.objs.size + 4,[s1.heap.objs.size + 4,s1.heap.objs.size + 2,s1.heap.objs.size + 3,s1.heap.objs.size,s1.heap.objs.size + 1],_,Itz X.K c d l m,H1,rfl,I2,turn_zip D,⟨z1,z2,⟨_,_,z3⟩,z4,z5⟩,fun b hb=>?_,k _ _ H1 S1 ?_ q1⟩
 ·have hb':s1.heap.objs.size<=b:=by
   simp only[List.mem_cons,List.not_mem_nil,or_false]at hb
   rcases hb with rfl|rfl|rfl|rfl|rfl<;>first|exact Nat.le_refl _|exact Nat.le_add_right _ _
  exact I1.fpOk hb' (I1.hok.fresh hb')
 ·intro H2 K2
  have sq:=hq.kp K2
  have sq':=hq'.kp K2
  refine⟨fun i t ei=>?_,⟨vs,vs',sq,sq',by rw[rr.length,rr'.length];exact zipT_len xs ys⟩⟩
  obtain⟨x,y,ex,ey,rfl⟩:=zipT_get ei
  obtain⟨v,ev,rx⟩:=rr.get ex
  obtain⟨v',ev',ry⟩:=rr'.get ey
  refine⟨⟨vs,vs',v,v',sq,sq',ev,ev'⟩,fun x H3 y=>?_⟩
  obtain⟨p,y1,y2,hp,rfl,rfl,hy,hy'⟩:=y
  have w1:=hy vs sq
  have w2:=hy' vs' sq'
  rw[ev]at w1
  rw[ev']at w2
  cases w1
  cases w2
  exact⟨same_new hp _,rep_tup.mpr ⟨p,_,rfl,SqT.of upd_same,.cons ((rx.kp K2).kp (.of (same_new hp _))) (.one ((ry.kp K2).kp (.of (same_new hp _))))⟩⟩
end
end TL
end
section
namespace TL
open PySem PySem.Spec PyProof.Rows L2
section
variable {X:Cx}
def intsOf:List T->Option (List Int)
 | []=>some []
 | .int i::r=>(intsOf r).map (i :: ·)
 | _=>none
theorem intsOf_eq:∀{ts:List T}{ns:List Int},intsOf ts=some ns->ts=ns.map T.int
 | [],ns,h=>by simp only[intsOf,Option.some.injEq]at h;subst h;rfl
 | t::r,ns,h=>by
  cases t with
  | int i =>
   simp only[intsOf,Option.map_eq_some_iff]at h
   obtain⟨ms,e,rfl⟩:=h
   rw[intsOf_eq e]
   rfl
  | _=>simp[intsOf]at h
theorem reps_ints_inv{K:PySem.W.Frag}{H:Hp}:∀{ns:List Int}{vs:List V},Reps K H (ns.map T.int) vs->vs=ns.map V.int
 | [],vs,h=>by simpa using reps_nil.mp h
 | n::ns,vs,h=>by
  simp only[List.map_cons]at h
  rw[reps_cons]at h
  obtain⟨v,r,rfl,h1,h2⟩:=h
  rw[rep_int.mp h1,reps_ints_inv h2]
  rfl
def rSumT(ts:List T)(Q:T->Prop):Prop:=match ts with
 | [.lst xs]=>(match intsOf xs with|some ns=>Q (.int ns.sum)|none=>False)
 | _=>False
theorem boolsAre_of:∀{bs:List Bool}{us:List Value},Vals (bs.map V.bl) us->LSm.BoolsAre us bs
 | [],us,h=>by cases h;exact .nil
 | b::bs,us,h=>by
  simp only[List.map_cons]at h
  cases h with
  | cons r1 r2=>cases r1;exact .cons b (boolsAre_of r2)
theorem call_allL(hc:X.calm=true):CallR X (.builtin "all") (fun xs H Q=>∃(p:Addr) (bs:List Bool),xs=[.ref p]/\SqL X.K H p (bs.map V.bl)/\Q (.bl (bs.all id)) H):=by
 intro pins s σ H xs us Q I r h
 obtain⟨p,bs,rfl,hq,q⟩:=h
 obtain⟨u,rfl,rx⟩:=vals1 r
 cases rx
 obtain⟨its,r',pl,hz⟩:=I.list hq
 have hb:LSm.BoolsAre its bs:=boolsAre_of r'
 have hl:=pl.isList
 have hlt:p < s.heap.objs.size:=by obtain⟨_,e,_⟩:=hl;exact Heap.lt_size e
 refine call_all_walk (wpAny_pyIter_list hl ?_)
 refine⟨s.heap.objs.size,[s.heap.objs.size,p],[s.heap.objs.size],its.toArray.size,_,_,fun i=>(bs[i]?).getD true,rfl,Walks.list (A:=X.A.in1) (I.ok.hd hc) _ p (Nat.ne_of_lt hlt) its.toArray,
  ⟨⟨_,Heap.get?_push_size _ rfl,rfl,rfl⟩,hl.push _⟩,fun i v s' Q' E' hP hQ=>?_,fun h' tk hk=>?_⟩
 ·obtain⟨b,e,rfl⟩:=hb.get i v (by simpa using hP)
  simp only[e,Option.getD_some]at hQ
  exact wpAny_truthy_bool hQ
 ·have e:((List.range its.toArray.size).all fun i=>(bs[i]?).getD true)=bs.all id:=by
   rw[List.size_toArray,hb.length];exact LSm.range_all bs
  rw[e]
  exact⟨.bl (bs.all id),H,I.kept (t':=tk) (LSm.kept_iter hk),rfl,q⟩
def boolsOf:List T->Option (List Bool)
 | []=>some []
 | .bl i::r=>(boolsOf r).map (i :: ·)
 | _=>none
theorem boolsOf_eq:∀{ts:List T}{ns:List Bool},boolsOf ts=some ns->ts=ns.map T.bl
 | [],ns,h=>by simp only[boolsOf,Option.some.injEq]at h;subst h;rfl
 | t::r,ns,h=>by
  cases t with
  | bl i =>
   simp only[boolsOf,Option.map_eq_some_iff]at h
   obtain⟨ms,e,rfl⟩:=h
   rw[boolsOf_eq e]
   rfl
  | _=>simp[boolsOf]at h
theorem reps_bools_inv{K:PySem.W.Frag}{H:Hp}:∀{ns:List Bool}{vs:List V},Reps K H (ns.map T.bl) vs->vs=ns.map V.bl
 | [],vs,h=>by simpa using reps_nil.mp h
 | n::ns,vs,h=>by
  simp only[List.map_cons]at h
  rw[reps_cons]at h
  obtain⟨v,r,rfl,h1,h2⟩:=h
  rw[rep_bl.mp h1,reps_bools_inv h2]
  rfl
def rAllT(ts:List T)(Q:T->Prop):Prop:=match ts with
 | [.lst xs]=>(match boolsOf xs with|some bs=>Q (.bl (bs.all id))|none=>False)
 | _=>False
theorem bl_all(hc:X.calm=true):BlR X (.builtin "all") rAllT:=by
 refine⟨_,call_allL hc,fun ts vs H Q0 Q r q k=>?_⟩
 unfold rAllT at q
 split at q
 ·obtain⟨v,rfl,r1⟩:=reps1 r
  split at q
  ·rename_i ns e
   rw[boolsOf_eq e,rep_lst]at r1
   obtain⟨p,ys,rfl,sq,rr⟩:=r1
   rw[reps_bools_inv rr]at sq
   exact⟨p,ns,rfl,sq.sq,k _ _ H (.refl H) (rep_bl.mpr rfl) q⟩
  ·exact q.elim
 ·exact q.elim
theorem upd_upd{H:Hp}{p:Addr}{a b:HO}:upd (upd H p a) p b=upd H p b:=by
 funext c
 by_cases h:c=p
 ·subst h;rw[upd_same,upd_same]
 ·rw[upd_ne h,upd_ne h,upd_ne h]
theorem call_listF:CallR X (.type "list") (fun xs H Q=>∃p ys,xs=[.ref p]/\(SqL X.K H p ys∨SqT X.K H p ys)/\∀l o,H l=none->Q (.ref l) (upd H l (.frz o (.lst ys)))):=by
 intro pins s σ H xs us Q I r h
 obtain⟨p,ys,e,hq,q⟩:=h
 refine thn (call_list_of pins s σ H xs us (fun v H'=>∃l,v=.ref l/\H l=none/\H'=upd H l (.lst ys)) I r ⟨p,ys,e,hq,fun l hl=>⟨l,rfl,hl,rfl⟩⟩) fun u s1 ⟨v,H1,I1,rv,l,e1,hl,e2⟩=>?_
 subst e1 e2
 obtain⟨o,I2⟩:=Inv.freeze I1 (upd_same (o:=.lst ys))
 rw[upd_upd]at I2
 exact⟨_,_,I2,rv,q l o hl⟩
def rListT(ts:List T)(Q:T->Prop):Prop:=match ts with
 | [.tup xs]=>Q (.lst xs)
 | [.lst xs]=>Q (.lst xs)
 | _=>False
theorem ty_list:BlR X (.type "list") rListT:=by
 refine⟨_,call_listF,fun ts vs H Q0 Q r q k=>?_⟩
 have fin:∀{xs:List T}{ys:List V},Q0 (.lst xs)->Reps X.K H xs ys->∀l o,H l=none->Q (.ref l) (upd H l (.frz o (.lst ys))):=fun q rr l o hl =>
  k _ _ _ (same_new hl _) (rep_lst.mpr ⟨l,_,rfl,.inl ⟨o,upd_same⟩,rr.kp (.of (same_new hl _))⟩) q
 unfold rListT at q
 split at q
 ·obtain⟨v,rfl,r1⟩:=reps1 r
  rw[rep_tup]at r1
  obtain⟨p,ys,rfl,sq,rr⟩:=r1
  exact⟨p,ys,rfl,.inr sq,fin q rr⟩
 ·obtain⟨v,rfl,r1⟩:=reps1 r
  rw[rep_lst]at r1
  obtain⟨p,ys,rfl,sq,rr⟩:=r1
  exact⟨p,ys,rfl,.inl sq.sq,fin q rr⟩
 ·exact q.elim
end
end TL
end
section
namespace TL
open PySem PySem.Spec PyProof.Rows L2
section
variable {X:Cx} {a b c e:Expr} {es:List Expr} {wa wb wc w:WE} {ws:WA} {pos:Pos}
def rSeqCat(K:PySem.W.Frag):R2:=fun x y H Q=>∃a b xs ys,x=.ref a/\y=.ref b/\xs.length + ys.length<=sizeLine ∧
  ((SqL K H a xs/\SqL K H b ys/\∀p o,H p=none->Q (.ref p) (upd H p (.frz o (.lst (xs++ys))))) ∨
   (SqT K H a xs/\SqT K H b ys/\(xs=[]->Q (.ref b) H)/\(xs≠[]->ys=[]->Q (.ref a) H)/\(xs≠[]->ys≠[]->∀p,H p=none->Q (.ref p) (upd H p (.tup (xs++ys))))))
theorem op_seqCat:OpR X (binaryOp .Add) (rSeqCat X.K):=by
 intro pins s σ H x y v u Q I rx ry h
 obtain⟨a,b,xs,ys,rfl,rfl,hz,h⟩:=h
 cases rx
 cases ry
 rcases h with ⟨ha,hb,q⟩|⟨ha,hb,q0,q1,q2⟩
 ·obtain⟨its,r1,p1,_⟩:=I.list ha
  obtain⟨its2,r2,p2,_⟩:=I.list hb
  have hl1:=r1.length
  have hl2:=r2.length
  obtain⟨⟨cls,dd,data,sl⟩,ho,hc,n,hd⟩:=p1.isList
  obtain⟨⟨cls2,dd2,data2,sl2⟩,ho2,hc2,n2,hd2⟩:=p2.isList
  simp only at hc hd hc2 hd2
  subst hc hd hc2 hd2
  refine concat_meets ⟨_,ho,rfl⟩ ⟨_,ho2,rfl⟩ noFill_list_add seq_list_add PySem.F.slot_list_add PySem.F.entry_list_add (PySem.F.args_list_add_2 _ _) (list_addW a b its.toArray its2.toArray n n2 dd dd2 sl sl2 (by simp only[List.size_toArray];omega)) ⟨ho,ho2,?_⟩
  have e:its.toArray++its2.toArray=(its++its2).toArray:=by simp
  rw[e]
  have hf:H s.heap.objs.size=none:=I.hok.fresh (Nat.le_refl _)
  refine⟨.ref s.heap.objs.size,upd H s.heap.objs.size (.frz {cls:=.type "list", data:=.seq (its++its2).toArray} (.lst (xs++ys))),I.laid (t':=s.toks) (fun b u e=>Heap.get?_push_of_some _ e) (Nat.le_refl _) ?_,rfl,q _ _ hf⟩
  exact⟨Heap.get?_push_size _ rfl,by rw[List.length_append];exact hz,its++its2,0,r1.append r2,Heap.get?_push_size _ rfl⟩
 ·obtain⟨its,r1,p1,_⟩:=I.tuple ha
  obtain⟨its2,r2,p2,_⟩:=I.tuple hb
  by_cases hx:xs=[]
  ·subst hx
   have hi:its=[]:=r1.nil_iff.mpr rfl
   subst hi
   obtain⟨⟨cls,dd,data,sl⟩,ho,hc,n,hd⟩:=p1
   obtain⟨⟨cls2,dd2,data2,sl2⟩,ho2,hc2,n2,hd2⟩:=p2
   simp only at hc hd hc2 hd2
   subst hc hd hc2 hd2
   refine concat_meets ⟨_,ho,rfl⟩ ⟨_,ho2,rfl⟩ noFill_tuple_add seq_tuple_add PySem.F.slot_tuple_add PySem.F.entry_tuple_add (PySem.F.args_tuple_add_2 _ _) (tuple_addW0 a b _ _ n n2 dd dd2 sl sl2 rfl) ⟨ho,ho2,?_⟩
   exact⟨.ref b,H,I,rfl,q0 rfl⟩
  ·refine HT.cat_tup p1 p2 (fun z=>hx (r1.nil_iff.mp z)) (fun z=>⟨.ref a,H,I,rfl,q1 hx (r2.nil_iff.mp z)⟩) (fun z=>?_) (by rw[← r1.length,← r2.length];exact hz)
   refine⟨.ref s.heap.objs.size,_,I.laid (t':=s.toks) (o:=.tup (xs++ys)) (fun b ob q=>Heap.get?_push_of_some _ q) (Nat.le_refl _) ?_,rfl,q2 hx (fun w=>z (r2.nil_iff.mpr w)) _ (I.hok.fresh (Nat.le_refl _))⟩
   exact⟨by rw[List.length_append];exact hz,_,r1.append r2,IsTup.new _ _⟩
def rCatLT(x y:T)(Q:T->Prop):Prop:=match x,y with
 | .lst xs,.lst ys=>xs.length + ys.length<=1000/\Q (.lst (xs++ys))
 | .tup xs,.tup ys=>xs.length + ys.length<=1000/\Q (.tup (xs++ys))
 | _,_=>False
theorem b_cat:BR X .Add rCatLT:=by
 refine⟨_,op_seqCat,fun t1 t2 v1 v2 H Q0 Q r1 r2 q k=>?_⟩
 unfold rCatLT at q
 split at q
 ·rw[rep_lst]at r1 r2
  obtain⟨p,vs,rfl,sq,rr⟩:=r1
  obtain⟨p',vs',rfl,sq',rr'⟩:=r2
  exact⟨p,p',vs,vs',rfl,rfl,by rw[rr.length,rr'.length];exact few q.1,.inl ⟨sq.sq,sq'.sq,fun l o hl =>
   k _ _ _ (same_new hl _) (rep_lst.mpr ⟨l,_,rfl,.inl ⟨o,upd_same⟩,(rr.append rr').kp (.of (same_new hl _))⟩) q.2⟩⟩
 ·have e1:=r1
  have e2:=r2
  rw[rep_tup]at r1 r2
  obtain⟨p,vs,rfl,sq,rr⟩:=r1
  obtain⟨p',vs',rfl,sq',rr'⟩:=r2
  have z1:=rr.length
  have z2:=rr'.length
  refine⟨p,p',vs,vs',rfl,rfl,by rw[rr.length,rr'.length];exact few q.1,.inr ⟨sq,sq',fun hx=>?_,fun _ hy=>?_,fun _ _ l hl =>
   k _ _ _ (same_new hl _) (rep_tup.mpr ⟨l,_,rfl,SqT.of upd_same,(rr.append rr').kp (.of (same_new hl _))⟩) q.2⟩⟩
  ·subst hx
   rename_i xs ys
   have:xs=[]:=List.length_eq_zero_iff.mp (by simpa using z1.symm)
   subst this
   exact k _ _ H (.refl H) e2 q.2
  ·rename_i xs ys _
   subst hy
   have:ys=[]:=List.length_eq_zero_iff.mp (by simpa using z2.symm)
   subst this
   have q':=q.2
   rw[List.append_nil]at q'
   exact k _ _ H (.refl H) e1 q'
 ·exact q.elim
def rMin3T(ts:List T)(Q:T->Prop):Prop:=match ts with
 | [.int i,.int j,.int k]=>Q (.int (if j < i then (if k < j then k else j) else (if k < i then k else i)))
 | _=>False
end
end TL
end
section
namespace TL
open PySem PySem.Spec PyProof.Rows L2
section
variable {prog:Program} {w:World} {A:Around} {E:Value->Shared->Prop} {s:Shared}
end
section
variable {X:Cx} {a b c e:Expr} {es:List Expr} {wa wb wc w:WE} {ws:WA} {pos:Pos}
def wRevA(wa ws:WE):WE:=fun τ Q=>wa τ fun x=>ws τ fun y=>match x,y with | .tup ts,.int i=>i=-1/\Q (.tup ts.reverse) | .lst ts,.int i=>i=-1/\Q (.lst ts.reverse)|_,_=>False
abbrev WO:=List Slot->(Option Int->Prop)->Prop
def upO(K:PySem.W.Frag)(H0:Hp)(w:WO):TO:=fun σ H Q=>∃(τ:List Slot) (Q0:Option Int->Prop),RepSt K H0 H σ τ/\w τ Q0/\∀o H',Same H H'->Q0 o->Q o H'
def JO(X:Cx)(e:Option Expr)(w:WO):Prop:=PO X e (upO X.K X.H₀ w)
def wo0:WO:=fun _ Q=>Q none
def wo(wa:WE):WO:=fun τ Q=>wa τ fun x=>match x with | .int i=>Q (some i)|_=>False
theorem po_of{e:Option Expr}{t t':TO}(h:PO X e t)(f:∀σ H Q,t' σ H Q->t σ H Q):PO X e t':=fun pins s σ H Q I hw=>h pins s σ H Q I (f σ H Q hw)
theorem jo0:JO X none wo0:=po_of po_none fun σ H Q ⟨τ,Q0,R,hw,k⟩=>k _ H (.refl H) hw
theorem jo(h:JE X e wa):JO X (some e) (wo wa):=po_of (po_some h) fun σ H Q ⟨τ,Q0,R,hw,k⟩=>⟨τ,_,R,hw,fun t v H1 S1 r q=>by
 cases t<;>first|exact q.elim|skip
 exact⟨_,rep_int.mp r,k _ H1 S1 q⟩⟩
def cutT(ts:List T)(lo hi:Option Int):List T:=(ts.drop (HT.sIx ts.length 0 lo)).take (HT.sIx ts.length ts.length hi - HT.sIx ts.length 0 lo)
theorem cut_reps{K:PySem.W.Frag}{H:Hp}{ts:List T}{vs:List V}{lo hi:Option Int}(r:Reps K H ts vs):Reps K H (cutT ts lo hi) (cutV vs lo hi):=by
 unfold cutT cutV
 rw[r.length]
 exact(r.drop _).take _
def rSlTT(x:T)(lo hi:Option Int)(Q:T->Prop):Prop:=match x with
 | .tup ts=>¬ (HT.sIx ts.length 0 lo=0/\HT.sIx ts.length ts.length hi=ts.length)/\Q (.tup (cutT ts lo hi))
 | .lst ts=>Q (.lst (cutT ts lo hi))
 | _=>False
def wSl(wa:WE)(wl wh:WO):WE:=fun τ Q=>wa τ fun x=>wl τ fun lo=>wh τ fun hi=>rSlTT x lo hi Q
def rSlF(K:PySem.W.Frag):V->Option Int->Option Int->Hp->VK->Prop:=fun x lo hi H Q=>∃a xs,x=.ref a/\SqL K H a xs/\∀p o,H p=none->Q (.ref p) (upd H p (.frz o (.lst (cutV xs lo hi))))
theorem sl_listF:SlR X (rSlF X.K):=by
 intro pins s σ H x v vl vu lo hi sl Q I rx hs pl pu h
 obtain⟨a,xs,rfl,hx,q⟩:=h
 cases rx
 obtain⟨its,r,ht,hz⟩:=I.list hx
 have hlen:=r.length
 refine⟨"list", _,slot_list_getitem.lookup,ht.isList.typeIs,?_⟩
 refine wpAny_getItem_list_slice ht.isList hs pl pu .none (by simp) ?_ (by rw[List.size_toArray]<;>omega)
 rw[slicePick_cut,← hlen]
 refine⟨.ref s.heap.objs.size,_,I.laid (t':=s.toks) (o:=.frz {cls:=.type "list", data:=.seq ((its.drop (HT.sIx xs.length 0 lo)).take (HT.sIx xs.length xs.length hi - HT.sIx xs.length 0 lo)).toArray} (.lst (cutV xs lo hi))) (fun b ob q=>Heap.get?_push_of_some _ q) (Nat.le_refl _) ?_,rfl,q _ _ (I.hok.fresh (Nat.le_refl _))⟩
 exact⟨Heap.get?_push_size _ rfl,Nat.le_trans (cutV_length xs lo hi) hz,_,0,(r.drop (HT.sIx xs.length 0 lo)).take (HT.sIx xs.length xs.length hi - HT.sIx xs.length 0 lo),Heap.get?_push_size _ rfl⟩
theorem jsl{lo hi:Option Expr}{wl wh:WO}{p2:Pos}(ha:JE X e wa)(hl:JO X lo wl)(hh:JO X hi wh):JE X (.Subscript e (.Slice lo hi none p2) pos) (wSl wa wl wh):=pe_of (pe_slice (sl_listF.or sl_tup) ha hl hh) fun σ H Q ⟨τ,Q0,R,hw,k⟩ =>
 ⟨τ,_,R,hw,fun t v H1 S1 r1 q1=>⟨τ,_,R.mono S1,q1,fun l H2 S2 q2=>⟨τ,_,R.mono (S1.trans S2),q2,fun h H3 S3 q3=>by
  have r1':=r1.kp (.of (S2.trans S3))
  cases t<;>first|exact q3.elim|skip
  ·rename_i ts
   rw[rep_tup]at r1'
   obtain⟨p,vs,rfl,sq,rr⟩:=r1'
   refine .inr ⟨p,vs,rfl,sq,by rw[rr.length];exact q3.1,fun pp hp=>k _ _ _ (S1.trans (S2.trans (S3.trans (same_new hp _)))) (rep_tup.mpr ⟨pp,_,rfl,SqT.of upd_same,(cut_reps rr).kp (.of (same_new hp _))⟩) q3.2⟩
  ·rename_i ts
   rw[rep_lst]at r1'
   obtain⟨p,vs,rfl,sq,rr⟩:=r1'
   exact .inl ⟨p,vs,rfl,sq.sq,fun pp o hp=>k _ _ _ (S1.trans (S2.trans (S3.trans (same_new hp _)))) (rep_lst.mpr ⟨pp,_,rfl,.inl ⟨o,upd_same⟩,(cut_reps rr).kp (.of (same_new hp _))⟩) q3⟩⟩⟩⟩
end
end TL
end
section
namespace TL
open PySem PySem.Spec PyProof.Rows L2
section
variable {X:Cx} {a b c e:Expr} {es:List Expr} {wa wb wc w:WE} {pos:Pos}
def wOIx(i:Nat)(wb:WE):WE:=fun τ Q=>match sget τ i with
 | .own ts=>wb τ fun y=>(match y with | .int k=>(match atI ts k with|some t=>Q t|none=>False)|_=>False)
 | _=>False
theorem jixO{i:Nat}{x:Str}{p:Pos}(hv:PE X (.Name x p) (tVar i))(hb:JE X b wb)(hs:PlainIx b:=by intro _ _;rfl):JE X (.Subscript (.Name x p) b pos) (wOIx i wb):=pe_of (pe_ix ix_seq hv hb hs) fun σ H Q ⟨τ,Q0,R,hw,k⟩=>by
 unfold wOIx at hw
 cases own:sget τ i with
 | no=>rw[own]at hw;exact hw.elim
 | val t=>rw[own]at hw;exact hw.elim
 | see t=>rw[own]at hw;exact hw.elim
 | dic t=>rw[own]at hw;exact hw.elim
 | vat t v=>rw[own]at hw;exact hw.elim
 | owd p q=>rw[own]at hw;exact hw.elim
 | own ts =>
  rw[own]at hw
  have sl:=R.slot i
  rw[own]at sl
  obtain⟨q,vs,ev,hp,rr,n0⟩:=sl
  refine⟨.ref q,ev,τ,_,R,hw,fun t2 v2 H2 S2 r2 q2=>?_⟩
  cases t2<;>first|exact q2.elim|skip
  rename_i j
  have q':(match atI ts j with|some t=>Q0 t|none=>False):=q2
  cases e:atI ts j with
  | none=>rw[e]at q';exact q'.elim
  | some t =>
   rw[e]at q'
   obtain⟨v,ev,rv⟩:=atI_reps (rr.kp (.of S2)) e
   exact .inl ⟨q,vs,j,v,rfl,rep_int.mp r2,SqL.of (S2 _ _ hp),ev,k _ _ H2 S2 rv q'⟩
end
end TL
end
section
namespace TL
open PySem PySem.Spec PyProof.Rows L2
section
variable {X:Cx} {a b c e:Expr} {es:List Expr} {wa wb wc w:WE} {pos:Pos}
def rIxST(x y:T)(Q:T->Prop):Prop:=match x,y with
 | .str z,.int i=>z.length<=1000/\(match atI z.cps.toList i with|some c=>Q (.str ⟨#[c]⟩)|none=>False)
 | _,_=>False
theorem jixS(ha:JE X a wa)(hb:JE X b wb)(hs:PlainIx b:=by intro _ _;rfl):JE X (.Subscript a b pos) (w2 rIxST wa wb):=pe_of (pe_ix ix_seq ha hb hs) (up2 fun t1 t2 v1 v2 H Q0 Q r1 r2 q k=>by
 cases t1<;>cases t2<;>first|exact q.elim|skip
 rename_i z i
 obtain⟨hz,q⟩:z.length<=1000/\(match atI z.cps.toList i with|some c=>Q0 (.str ⟨#[c]⟩)|none=>False):=q
 cases e:atI z.cps.toList i with
 | none=>rw[e]at q;exact q.elim
 | some c =>
  rw[e]at q
  exact .inr (.inr ⟨z,i,c,rep_str.mp r1,rep_int.mp r2,few hz,e,k _ _ H (.refl H) (rep_str.mpr rfl) q⟩))
def tTruT(wa:WE):WT:=fun τ Q=>wa τ fun x=>match x with | .bl k=>Q k | .lst ts=>Q (!ts.isEmpty)|_=>False
theorem ttru(ha:JE X a wa)(he:∀whole,isTrue a X.env whole=(do let v ← whole;standAt a.pos;holding [v] (truthy v)):=by intro _;rfl):JT X a (tTruT wa) :=
 pt_of (pt_truth ha he) fun σ H Q ⟨τ,Q0,R,hw,k⟩=>⟨τ,_,R,hw,fun t v H1 S1 r q=>by
  cases t<;>first|exact q.elim|skip
  ·rename_i b
   rw[rep_bl]at r
   subst r
   exact⟨b,rfl,k _ H1 S1 q⟩
  ·rename_i ts
   rw[rep_lst]at r
   obtain⟨p,vs,rfl,sq,rr⟩:=r
   refine⟨!vs.isEmpty,.inl ⟨vs,sq.sq,rfl⟩,?_⟩
   have e:(!vs.isEmpty)=!ts.isEmpty:=by
    have:=rr.length
    cases vs<;>cases ts<;>simp_all
   rw[e]
   exact k _ H1 S1 q⟩
end
end TL
end
section
namespace TL
open PySem PySem.Spec PyProof.Rows L2
section
variable {X:Cx}
def rIntT(ts:List T)(Q:T->Prop):Prop:=match ts with
 | [.int i]=>Q (.int i)
 | [.bl k]=>Q (.int (if k then 1 else 0))
 | _=>False
theorem ty_int:BlR X (.type "int") rIntT:=by
 refine⟨_,call_int1,fun ts vs H Q0 Q r q k=>?_⟩
 unfold rIntT at q
 split at q
 ·obtain⟨v,rfl,r1⟩:=reps1 r
  exact .inl ⟨_,by rw[rep_int.mp r1],k _ _ H (.refl H) (rep_int.mpr rfl) q⟩
 ·obtain⟨v,rfl,r1⟩:=reps1 r
  exact .inr ⟨_,by rw[rep_bl.mp r1],k _ _ H (.refl H) (rep_int.mpr rfl) q⟩
 ·exact q.elim
end
end TL
namespace TL
open PySem PySem.Spec PyProof.Rows L2
section
end
end TL
namespace TL
open PySem PySem.Spec PyProof.Rows L2
section
variable {X:Cx}
end
end TL
namespace TL
open PySem PySem.Spec PyProof.Rows L2
section
variable {X:Cx}
theorem ints_at:∀{ns:List Int}{us:List Value}{i:Nat}{v:Value},IntsAre us ns->us[i]?=some v->∃t,v=.int (ns.getD i 0) t
 | _,_,i,v,.nil,h=>by simp at h
 | _,_,0,v,.cons n t r,h=>by
  simp at h
  exact⟨t,by simpa using h.symm⟩
 | _,_,i + 1,v,.cons n t r,h=>by
  simp only[List.getElem?_cons_succ]at h
  obtain⟨t',e⟩:=ints_at r h
  exact⟨t',by simpa using e⟩
end
end TL
end
section
namespace TL
open PySem PySem.Spec PyProof.Rows L2
section
variable {X:Cx} {pos:Pos}
end
end TL
namespace TL
open PySem PySem.Spec PyProof.Rows L2
theorem fnT0{P:Program}{w:World}{K:PySem.W.Frag}{mg:Str->Option Value}{base:Heap}{x qual:Str}{st:Stmt}{f:Addr}{fd:FuncData}{N ps:List Str}{k:Nat}{S:SpT}(F:Fun K x qual st f fd)(SC:FnScope N ps (defScope st))
  (hlen:∀ts Q,S ts Q->ts.length=ps.length) (hno:∀ts Q,¬ S ts Q):FnT P w K mg base (k + 1) f fd ps S:=by
 refine⟨F.ok SC (fun vs H Q E h=>?_) (fun cdv A outer s H vs Q E hr h=>?_),hlen⟩
 ·obtain⟨_,_,e,_⟩:=h
  exact e
 ·obtain⟨ts,Q0,e,r,hS,q⟩:=h
  exact(hno _ _ hS).elim
end TL
end
section
namespace TL
open PySem PySem.Spec PyProof.Rows L2
section
variable {X:Cx} {e b c a:Expr} {es:List Expr} {wa wb w:WE} {ws:WA} {pos:Pos}
theorem vals_get:∀{xs:List V}{its:List Value},xs.length=its.length->(∀(i:Nat)(x:V)(v:Value),xs[i]?=some x->its[i]?=some v->RelV x v)->Vals xs its
 | [],[],_,_=>.nil
 | x::xs,v::its,hl,h=>.cons (h 0 x v rfl rfl) (vals_get (by simpa using hl) fun i y u hy hu=>h (i + 1) y u (by simpa using hy) (by simpa using hu))
 | [],_::_,hl,_=>by simp at hl
 | _::_,[],hl,_=>by simp at hl
theorem vals_at:∀{xs:List V}{us:List Value}{i:Nat}{u:Value},Vals xs us->us[i]?=some u->∃x,xs[i]?=some x/\RelV x u
 | _,_,i,u,.nil,h=>by simp at h
 | x::xs,v::us,0,u,.cons r t,h=>by simp at h;subst h;exact⟨x,by simp,r⟩
 | x::xs,v::us,i + 1,u,.cons r t,h=>by
  obtain⟨y,e,ry⟩:=vals_at t (by simpa using h)
  exact⟨y,by simpa using e,ry⟩
end
end TL
end
section
namespace TL
open PySem PySem.Spec PyProof.Rows L2
theorem rev_get{α:Type}{xs:List α}{i:Nat}(h:i < xs.length):xs.reverse[i]?=xs[xs.length - 1 - i]?:=by
 rw[List.getElem?_reverse h]
theorem nolen_lri:typeLookup (.type "list_reverseiterator") "__len__" = pure none:=by rw[typeLookup_type,builtinLookup_eq_fast];kernel_rfl
theorem hint_lri:typeLookup (.type "list_reverseiterator") "__length_hint__" = pure (some (.builtin "list_reverseiterator.__length_hint__")):=by rw[typeLookup_type,builtinLookup_eq_fast];kernel_rfl
section
variable {prog:Program} {w:World} {A:Around} {E:Value->Shared->Prop} {s:Shared} {I:Addr} {fp wr:List Addr} {G:Array GenState->Array GenState->Prop} {n:Nat} {P:Nat->Value->Prop} {St:Nat->Shared->Prop}
theorem extend_lri{R:Result->Shared->Prop}(W:WalksS prog w A.in1 I fp wr G n P St) (hT:∀i s,St i s->s.TypeIs (.ref I) "list_reverseiterator") (S:Addr) (res:Value) (c₀:Nat) (hst:St 0 s) (hSf:S∉fp) (hI:I∈fp)
  (hS:s.heap.get? S=some {cls:=.type "list", data:=.seq #[] c₀})
  (hR:∀s' acc' c',Moved (S::wr) G s s'->s'.heap.get? S=some {cls:=.type "list", dict:=none,data:=.seq acc' c',slots:=#[]}->ItemsOf P acc' n->R (.ok (.ret res)) s') (hn:n<=sizeLine) :
  wpAny (model prog w) A.in1 (Builtin.List.listExtendWith (.ref S) (.ref I) res)
   (fun fin s'=>match fin with | .done f=>R (.ok f) s' | .again c'=>c'.quiet=true/\codeAny (model prog w) A c' R s') (fun e s'=>R (.error e) s') s:=by
 have hSI:S≠I:=fun e=>hSf (e ▸ hI)
 unfold Builtin.List.listExtendWith
 refine wpAny_bind (wpAny_typeOf (hT 0 _ hst) ?_)
 have h1:Builtin.List.listSameRef (.ref S) (.ref I)=false:=by simp[Builtin.List.listSameRef,hSI]
 have h2:(Value.type "list_reverseiterator" == Value.type "list")=false:=by decide
 have h3:(Value.type "list_reverseiterator" == Value.type "tuple")=false:=by decide
 simp only[h1,h2,h3,Bool.or_false,Bool.false_eq_true,if_false]
 refine wpAny_bind (W.self 0 _ _ _ hst ?_)
 refine wpAny_bind (wpAny_holding ?_)
 unfold Builtin.List.listLengthHint
 refine wpAny_bind (wpAny_specialOf (hT 0 _ hst) nolen_lri ?_)
 show wpAny _ A.in1 (specialOf (Value.ref I) (Str.ofString "__length_hint__") >>= _) _ _ _
 refine wpAny_bind (wpAny_specialOf (hT 0 _ hst) hint_lri ?_)
 generalize hid:("list_reverseiterator.__length_hint__" : String)=id0
 wp_delta
 rw[show splitId id0=some ("list_reverseiterator", "__length_hint__") from by subst hid;decide +kernel]
 subst hid
 refine wpAny_bind (wpAny_isInstance (b:=true) (hT 0 _ hst) (by rw[isSubtype_type];kernel_rfl) ?_)
 refine wpAny_pure ?_
 rw[if_neg (by decide)]
 exact wpAny_pure ⟨plainId_quiet F.plain_extend_loop _,codeAny_extend_loopS W hn _ hSf _ n 0 _ _ _ rfl (Nat.zero_le _) hst hS (ItemsOf.nil P) fun s' acc' c' hm hS' hacc=>hR s' acc' c' hm hS' hacc⟩
theorem init_lri{R:Result->Shared->Prop}(W:WalksS prog w A.in1 I fp wr G n P St) (hT:∀i s,St i s->s.TypeIs (.ref I) "list_reverseiterator") (S:Addr) (hst:St 0 s) (hSf:S∉fp) (hI:I∈fp)
  (hS:s.heap.get? S=some {cls:=.type "list", data:=.seq #[]})
  (hR:∀s' acc' c',Moved (S::wr) G s s'->s'.heap.get? S=some {cls:=.type "list", dict:=none,data:=.seq acc' c',slots:=#[]}->ItemsOf P acc' n->R (.ok (.ret .none)) s') (hn:n<=sizeLine) :
  wpAny (model prog w) A.in1 (Builtin.«list.__init__» ⟨[.ref S,.ref I],[]⟩)
   (fun fin s'=>match fin with | .done f=>R (.ok f) s' | .again c'=>c'.quiet=true/\codeAny (model prog w) A c' R s') (fun e s'=>R (.error e) s') s:=by
 show wpAny _ A.in1 (do let old ← Builtin.List.listItems (.ref S);Builtin.List.listUpdate (.ref S) (fun _=>#[]);letGo old.toList.reverse;Builtin.List.listExtendWith (.ref S) (.ref I) .none) _ _ s
 refine wpAny_bind ?_
 unfold Builtin.List.listItems
 refine wpAny_bind (wpAny_seqItems hS rfl (wpAny_pure ?_))
 show wpAny _ A.in1 (updateSeq S (fun _=>#[]) >>= fun _=>letGo (#[]:Array Value).toList.reverse >>= fun _=>Builtin.List.listExtendWith (.ref S) (.ref I) .none) _ _ s
 refine wpAny_bind (wpAny_updateSeq hS rfl ?_)
 have hS₂:=Heap.get?_update_self (Obj.mapSeq (fun _=>(#[]:Array Value))) hS rfl
 have oth:∀b o,b≠S->s.heap.get? b=some o->(s.heap.update S (Obj.mapSeq (fun _=>(#[]:Array Value)))).get? b=some o :=
  fun b o hb e=>(Heap.get?_update_other _ _ (Ne.symm hb)).trans e
 refine wpAny_bind (wpAny_letGo ?_)
 refine extend_lri (hn:=hn) W hT S .none _ (W.frame 0 s _ s.toks hst (Nat.le_refl _) fun b hb o e=>oth b o (fun h=>hSf (h ▸ hb)) e) hSf hI hS₂ fun s' acc' c' hm hS' hacc=>?_
 exact hR s' acc' c' (Moved.trans W.gtrans ((Moved.refl W.grefl).then_heap (Nat.le_refl _) fun b o hb e=>oth b o (fun h=>hb (h ▸ List.mem_cons_self)) e) hm) hS' hacc
theorem call_list_lri{Q:Value->Shared->Prop}{l:Addr}{items:Array Value}(hh:A.handled=none)(hl:l≠I)(hit:s.heap.IsRevIter I l ((items.size:Int) - 1))(hls:s.heap.IsList l items)(hn:items.size<=sizeLine)
  (hQ:∀h' tk acc' c',(∀b o,b≠I->s.heap.get? b=some o->h'.get? b=some o)->h'.get? s.heap.objs.size=some {cls:=.type "list", dict:=none,data:=.seq acc' c',slots:=#[]}->ItemsOf (fun i v=>items[items.size - 1 - i]?=some v) acc' items.size->Q (.ref s.heap.objs.size) {s with heap:=h',toks:=tk}) :
  wpAny (model prog w) A (call (.type "list") [.ref I]) Q E s:=by
 have lI:I < s.heap.objs.size:=let ⟨_,ho,_⟩:=hit;Heap.lt_size ho
 have ll:l < s.heap.objs.size:=let ⟨_,ho,_⟩:=hls;Heap.lt_size ho
 have W:=(Walks.listRev (prog:=prog) (w:=w) (A:=A.in1.in1) (show A.in1.in1.handled=none from hh) I l hl items).toS
 refine callType_codes (Q₁:=fun obj s₁=>obj=.ref s.heap.objs.size/\s₁={s with heap:=s.heap.push {cls:=.type "list", data:=.seq #[]} }) F.called_list (F.typeCall_list_1 _) F.entry_list_init
  (code_list_new _ ⟨rfl,rfl⟩) fun obj s₁ h₁=>?_
 obtain⟨rfl,rfl⟩:=h₁
 have hS:(s.heap.push {cls:=.type "list", data:=.seq #[]}).get? s.heap.objs.size=some {cls:=.type "list", data:=.seq #[]}:=Heap.get?_push_size _ rfl
 have hSf:s.heap.objs.size∉[I,l]:=fun z=>by
  rcases List.mem_cons.mp z with e|e
  ·exact absurd lI (by rw[← e];exact Nat.lt_irrefl _)
  ·exact absurd ll (by rw[← List.mem_singleton.mp e];exact Nat.lt_irrefl _)
 refine⟨⟨_,hS,rfl⟩,F.args_list_init_2 _ _,init_lri (hn:=hn) W (fun i s z=>z.2.1.typeIs) _ ⟨Nat.zero_le _,by simpa using hit.at fun o e=>Heap.get?_push_of_some _ e,hls.at fun o e=>Heap.get?_push_of_some _ e⟩ hSf (by simp) hS fun s' acc' c' hm hS' hacc=>?_⟩
 refine⟨rfl,?_⟩
 rw[Moved.eq_with hm]
 refine hQ s'.heap s'.toks acc' c' (fun b o hb e=>hm.heap b o (fun hmem=>?_) (Heap.get?_push_of_some _ e)) hS' hacc
 rcases List.mem_cons.mp hmem with e'|hmem
 ·exact absurd (Heap.lt_size e) (by rw[e'];exact Nat.lt_irrefl _)
 ·exact hb (List.mem_singleton.mp hmem)
end
section
variable {X:Cx} {e b c a:Expr} {es:List Expr} {wa wb w:WE} {ws:WA} {pos:Pos}
def tLRev(ta:TE):TE:=fun σ H Q=>ta σ H fun x H1=>∃p ys,x=.ref p/\SqL X.K H1 p ys/\∀l o,H1 l=none->Q (.ref l) (upd H1 l (.frz o (.lst ys.reverse)))
theorem pe_lrev{ta:TE}{p1 p2 pos2:Pos}(hc:X.calm=true) (hg:Gl X "reversed") (hm:X.mg "reversed" = none) (hg2:Gl X "list") (hm2:X.mg "list" = none) (ha:PE X a ta) (hs:starEach [a] X.env=(false,eval a X.env)::starEach [] X.env)
  (hpl2:(backTo pos2 (starEach [] X.env)).any (·.1)=false) (he:starEach [.Call (.Name "reversed" p2) [a] [] pos2] X.env=(false,eval (.Call (.Name "reversed" p2) [a] [] pos2) X.env)::starEach [] X.env) (hpl:(backTo pos (starEach [] X.env)).any (·.1)=false) :
  PE X (.Call (.Name "list" p1) [.Call (.Name "reversed" p2) [a] [] pos2] [] pos) (tLRev (X:=X) ta):=by
 intro pins s σ H Q I h
 refine wpAny_Call_Name_kw (ld_blt I hg2 hm2 boot_list ?_)
 refine PyProof.Rows.callWith_type1 ?_ he hpl
 rw[he]
 refine Calls.spliced_cons ?_
 refine wpAny_Call_Name_kw (ld_blt I hg hm (u:=.type "reversed") rfl ?_)
 refine PyProof.Rows.callWith_type1 ?_ hs hpl2
 rw[hs]
 refine Calls.spliced_cons (thn (ha pins s σ H _ I h) fun u s1 ⟨x,H1,I1,r1,q1⟩=>Calls.spliced_nil ?_)
 obtain⟨p,ys,rfl,sq,q⟩:=q1
 cases r1
 obtain⟨its,rv,pl,hz⟩:=I1.list sq
 have hlen:=rv.length
 have hp:p < s1.heap.objs.size:=let ⟨_,ho,_⟩:=pl.isList;Heap.lt_size ho
 refine call_reversed_list pl.isList (Calls.spliced_nil ?_)
 refine call_list_lri (I:=s1.heap.objs.size) (items:=its.toArray) (I1.ok.hd hc) (Nat.ne_of_lt hp) ⟨_,Heap.get?_push_size _ rfl,rfl,rfl⟩ (pl.isList.at fun o e=>Heap.get?_push_of_some _ e) (by simp only[List.size_toArray];omega) fun h' tk acc c' hk hD hacc=>?_
 have sz:(s1.heap.push (revObj p ((its.toArray.size:Int) - 1))).objs.size=s1.heap.objs.size + 1:=by simp[Heap.push]
 have I2:=I1.laid (t':=tk) (a:=(s1.heap.push (revObj p ((its.toArray.size:Int) - 1))).objs.size) (o:=.lst ys.reverse) (fun b u e=>hk b u (Nat.ne_of_lt (Heap.lt_size e)) (Heap.get?_push_of_some _ e)) (by rw[sz];exact Nat.le_succ _)
  (show ObjOk X.prog X.w _ h' _ (.lst ys.reverse) from ⟨by rw[List.length_reverse];exact hz,acc.toList,c',vals_get (by have:=hacc.1;simp only[List.length_reverse,Array.length_toList];simp only[List.size_toArray]at this;omega) fun i x v hx hv=>?_,by rw[Array.toArray_toList];exact hD⟩)
 ·obtain⟨o,I3⟩:=Inv.freeze I2 (upd_same (o:=.lst ys.reverse))
  rw[upd_upd]at I3
  exact⟨.ref (s1.heap.push (revObj p ((its.toArray.size:Int) - 1))).objs.size,_,I3,rfl,q _ o (I1.hok.fresh (by rw[sz];exact Nat.le_succ _))⟩
 ·have hi:i < ys.length:=by
   have:=(List.getElem?_eq_some_iff.mp hx).1
   simpa using this
  rw[rev_get hi]at hx
  have:=hacc.2 i v (by rw[← Array.getElem?_toList];exact hv)
  rw[List.size_toArray,← hlen,List.getElem?_toArray]at this
  obtain⟨x',e1,rx⟩:=vals_at rv this
  rw[hx]at e1
  cases e1
  exact rx
def wLRev(w:WE):WE:=fun τ Q=>w τ fun x=>match x with
 | .lst ts=>Q (.lst ts.reverse)
 | _=>False
theorem Reps.rev{K:PySem.W.Frag}{H:Hp}:∀{ts:List T}{vs:List V},Reps K H ts vs->Reps K H ts.reverse vs.reverse
 | [],vs,h=>by rw[reps_nil]at h;subst h;exact reps_nil.mpr rfl
 | t::ts,vs,h=>by
  rw[reps_cons]at h
  obtain⟨v,r,rfl,h1,h2⟩:=h
  rw[List.reverse_cons,List.reverse_cons]
  exact(Reps.rev h2).append (.one h1)
theorem jlrev{p1 p2 pos2:Pos}(hc:X.calm=true) (hg:Gl X "reversed") (hm:X.mg "reversed" = none) (hg2:Gl X "list") (hm2:X.mg "list" = none) (ha:JE X a w) (hs:starEach [a] X.env=(false,eval a X.env)::starEach [] X.env:=by exact star1 rfl)
  (hpl2:(backTo pos2 (starEach [] X.env)).any (·.1)=false:=by exact stars rfl) (he:starEach [.Call (.Name "reversed" p2) [a] [] pos2] X.env=(false,eval (.Call (.Name "reversed" p2) [a] [] pos2) X.env)::starEach [] X.env:=by exact star1 rfl) (hpl:(backTo pos (starEach [] X.env)).any (·.1)=false:=by exact stars rfl) :
  JE X (.Call (.Name "list" p1) [.Call (.Name "reversed" p2) [a] [] pos2] [] pos) (wLRev w):=by
 refine pe_of (pe_lrev hc hg hm hg2 hm2 ha hs hpl2 he hpl) fun σ H Q ⟨τ,Q0,R,hw,k⟩=>?_
 refine⟨τ,_,R,hw,fun t v H1 S1 r q=>?_⟩
 cases t<;>first|exact q.elim|skip
 rename_i ts
 rw[rep_lst]at r
 obtain⟨p,ys,rfl,sq,rr⟩:=r
 refine⟨p,ys,rfl,sq.sq,fun l o hl=>?_⟩
 have S2:=same_new hl (.frz o (.lst ys.reverse))
 exact k _ _ _ (S1.trans S2) (rep_lst.mpr ⟨l,_,rfl,.inl ⟨o,upd_same⟩,(Reps.rev rr).kp (.of S2)⟩) q
end
section
variable {X:Cx} {e b c a:Expr} {es:List Expr} {wa wb w:WE} {ws:WA} {pos:Pos}
end
section
variable {X:Cx} {e b c a:Expr} {es:List Expr} {wa wb w:WE} {ws:WA} {pos:Pos}
end
end TL
end
section
namespace TL
open PySem PySem.Spec PyProof.Rows L2
section
variable {K:PySem.W.Frag} {H0 H H':Hp} {p:Addr} {qs:List Addr} {ls:List (List T)}
end
section
variable {X:Cx}
end
section
variable {X:Cx}
end
section
variable {X:Cx} {e:Expr} {es:List Expr} {ws:WA} {pos:Pos}
end
section
variable {X:Cx}
end
section
variable {X:Cx} {e:Expr} {w:WE} {pos:Pos}
end
section
variable {X:Cx}
theorem call_maxT(hc:X.calm=true):CallR X (.builtin "max") (fun xs H Q=>∃(p:Addr) (ns:List Int),xs=[.ref p]/\SqT X.K H p (ns.map V.int)/\ns≠[]/\∀m∈ns,(∀n∈ns,n<=m)->Q (.int m) H):=by
 intro pins s σ H xs us Q I r h
 obtain⟨p,ns,rfl,hq,hne,q⟩:=h
 obtain⟨u,rfl,rx⟩:=vals1 r
 cases rx
 obtain⟨its,r',pl,hz⟩:=I.tuple hq
 have hi:IntsAre its ns:=intsAre_of r'
 have hlen:its.length=ns.length:=by have:=r'.length;simpa using this.symm
 have hl:s.heap.IsTuple p its.toArray:=pl
 have hlt:p < s.heap.objs.size:=by obtain⟨_,e,_⟩:=hl;exact Heap.lt_size e
 have hn0:=List.length_pos_iff.mpr hne
 have hn:0 < its.toArray.size:=by
  rw[List.size_toArray,hlen]
  exact hn0
 refine call_max_walk (wpAny_pyIter_tuple hl ?_)
 refine⟨s.heap.objs.size,[s.heap.objs.size,p],[s.heap.objs.size],its.toArray.size,_,_,_,rfl,Walks.tuple (A:=X.A.in1) (I.ok.hd hc) _ p (Nat.ne_of_lt hlt) its.toArray,
  ⟨⟨_,Heap.get?_push_size _ rfl,rfl,rfl⟩,hl.push _⟩,fun b hb'=>?_,hn,CmpOf.ints_gt (fun i=>ns.getD i 0) (fun i v hv=>ints_at hi (by simpa using hv)),fun v h' tk hP hk=>?_⟩
 ·show b < (s.heap.push _).objs.size
  rw[Heap.size_push]
  rcases List.mem_cons.mp hb' with rfl|hb'
  ·exact Nat.lt_succ_self _
  ·rcases List.mem_cons.mp hb' with rfl|hb'
   ·exact Nat.lt_succ_of_lt hlt
   ·cases hb'
 ·have hb:=argBest_gt (fun i=>ns.getD i 0) (its.toArray.size - 1)
  have e1:its.toArray.size=ns.length:=by rw[List.size_toArray,hlen]
  have hP':its[argBest (fun i j=>decide (ns.getD i 0 > ns.getD j 0)) (its.toArray.size - 1)]?=some v:=by
   have:=hP
   rwa [List.getElem?_toArray]at this
  rw[e1]at hb hP'
  generalize argBest (fun i j=>decide (ns.getD i 0 > ns.getD j 0)) (ns.length - 1)=B at hb hP'
  obtain⟨t,rfl⟩:=ints_at hi hP'
  have lt:B < ns.length:=by have:=hb.1;omega
  refine⟨.int _,H,I.kept (t':=tk) (LSm.kept_iter hk),⟨t,rfl⟩,q _ ?_ fun n hm=>?_⟩
  ·rw[List.getD_eq_getElem?_getD,List.getElem?_eq_getElem lt]
   exact List.getElem_mem lt
  ·obtain⟨j,hj,rfl⟩:=List.getElem_of_mem hm
   have:=hb.2 j (by omega)
   rw[List.getD_eq_getElem?_getD,List.getElem?_eq_getElem hj]at this
   exact this
theorem call_minT(hc:X.calm=true):CallR X (.builtin "min") (fun xs H Q=>∃(p:Addr) (ns:List Int),xs=[.ref p]/\SqT X.K H p (ns.map V.int)/\ns≠[]/\∀m∈ns,(∀n∈ns,m<=n)->Q (.int m) H):=by
 intro pins s σ H xs us Q I r h
 obtain⟨p,ns,rfl,hq,hne,q⟩:=h
 obtain⟨u,rfl,rx⟩:=vals1 r
 cases rx
 obtain⟨its,r',pl,hz⟩:=I.tuple hq
 have hi:IntsAre its ns:=intsAre_of r'
 have hlen:its.length=ns.length:=by have:=r'.length;simpa using this.symm
 have hl:s.heap.IsTuple p its.toArray:=pl
 have hlt:p < s.heap.objs.size:=by obtain⟨_,e,_⟩:=hl;exact Heap.lt_size e
 have hn0:=List.length_pos_iff.mpr hne
 have hn:0 < its.toArray.size:=by
  rw[List.size_toArray,hlen]
  exact hn0
 refine call_min_walk (wpAny_pyIter_tuple hl ?_)
 refine⟨s.heap.objs.size,[s.heap.objs.size,p],[s.heap.objs.size],its.toArray.size,_,_,_,rfl,Walks.tuple (A:=X.A.in1) (I.ok.hd hc) _ p (Nat.ne_of_lt hlt) its.toArray,
  ⟨⟨_,Heap.get?_push_size _ rfl,rfl,rfl⟩,hl.push _⟩,fun b hb'=>?_,hn,CmpOf.ints_lt (fun i=>ns.getD i 0) (fun i v hv=>ints_at hi (by simpa using hv)),fun v h' tk hP hk=>?_⟩
 ·show b < (s.heap.push _).objs.size
  rw[Heap.size_push]
  rcases List.mem_cons.mp hb' with rfl|hb'
  ·exact Nat.lt_succ_self _
  ·rcases List.mem_cons.mp hb' with rfl|hb'
   ·exact Nat.lt_succ_of_lt hlt
   ·cases hb'
 ·have hb:=argBest_lt (fun i=>ns.getD i 0) (its.toArray.size - 1)
  have e1:its.toArray.size=ns.length:=by rw[List.size_toArray,hlen]
  have hP':its[argBest (fun i j=>decide (ns.getD i 0 < ns.getD j 0)) (its.toArray.size - 1)]?=some v:=by
   have:=hP
   rwa [List.getElem?_toArray]at this
  rw[e1]at hb hP'
  generalize argBest (fun i j=>decide (ns.getD i 0 < ns.getD j 0)) (ns.length - 1)=B at hb hP'
  obtain⟨t,rfl⟩:=ints_at hi hP'
  have lt:B < ns.length:=by have:=hb.1;omega
  refine⟨.int _,H,I.kept (t':=tk) (LSm.kept_iter hk),⟨t,rfl⟩,q _ ?_ fun n hm=>?_⟩
  ·rw[List.getD_eq_getElem?_getD,List.getElem?_eq_getElem lt]
   exact List.getElem_mem lt
  ·obtain⟨j,hj,rfl⟩:=List.getElem_of_mem hm
   have:=hb.2 j (by omega)
   have ej:ns.getD j 0=ns[j]:=by rw[List.getD_eq_getElem?_getD,List.getElem?_eq_getElem hj];rfl
   rw[ej]at this
   exact this
def rMaxTT(ts:List T)(Q:T->Prop):Prop:=match ts with
 | [.tup xs]=>(match intsOf xs with|some ns=>ns≠[]/\∀m∈ns,(∀n∈ns,n<=m)->Q (.int m)|none=>False)
 | _=>False
def rMinTT(ts:List T)(Q:T->Prop):Prop:=match ts with
 | [.tup xs]=>(match intsOf xs with|some ns=>ns≠[]/\∀m∈ns,(∀n∈ns,m<=n)->Q (.int m)|none=>False)
 | _=>False
theorem bl_maxT(hc:X.calm=true):BlR X (.builtin "max") rMaxTT:=by
 refine⟨_,call_maxT hc,fun ts vs H Q0 Q r q k=>?_⟩
 unfold rMaxTT at q
 split at q
 ·obtain⟨v,rfl,r1⟩:=reps1 r
  split at q
  ·rename_i ns e
   rw[intsOf_eq e,rep_tup]at r1
   obtain⟨p,ys,rfl,sq,rr⟩:=r1
   rw[reps_ints_inv rr]at sq
   exact⟨p,ns,rfl,sq,q.1,fun m hm h=>k _ _ H (.refl H) (rep_int.mpr rfl) (q.2 m hm h)⟩
  ·exact q.elim
 ·exact q.elim
theorem bl_minT(hc:X.calm=true):BlR X (.builtin "min") rMinTT:=by
 refine⟨_,call_minT hc,fun ts vs H Q0 Q r q k=>?_⟩
 unfold rMinTT at q
 split at q
 ·obtain⟨v,rfl,r1⟩:=reps1 r
  split at q
  ·rename_i ns e
   rw[intsOf_eq e,rep_tup]at r1
   obtain⟨p,ys,rfl,sq,rr⟩:=r1
   rw[reps_ints_inv rr]at sq
   exact⟨p,ns,rfl,sq,q.1,fun m hm h=>k _ _ H (.refl H) (rep_int.mpr rfl) (q.2 m hm h)⟩
  ·exact q.elim
 ·exact q.elim
end
end TL
end
namespace TL
open PySem PySem.Spec PyProof.Rows L2
theorem cpow10(n:Int)(h:0<=n/\n<=1000000):CPow 10 n:=⟨h.1,h.2,by decide⟩
theorem Lim.of{n:Nat}{i:Int}(h1:-(10 ^ n) < i)(h2:i < 10 ^ n):Lim n i:=by
 unfold Lim
 have:((10 ^ n:Nat):Int)=10 ^ n:=by simp
 omega
theorem Lim.bd{n:Nat}{i:Int}(h:Lim n i):-(10 ^ n) < i/\i < 10 ^ n:=by
 unfold Lim at h
 have:((10 ^ n:Nat):Int)=10 ^ n:=by simp
 omega
theorem Lim.mono{m n:Nat}{i:Int}(h:Lim m i)(hn:m<=n):Lim n i:=Nat.lt_of_lt_of_le h (Nat.pow_le_pow_right (by decide) hn)
theorem Lim.mul{m n:Nat}{i j:Int}(a:Lim m i)(b:Lim n j):Lim (m + n) (i * j):=by
 unfold Lim at *
 rw[Int.natAbs_mul,Nat.pow_add]
 exact Nat.mul_lt_mul'' a b
theorem Lim.add{m n:Nat}{i j:Int}(a:Lim m i)(b:Lim n j):Lim (max m n + 1) (i + j):=by
 have a':=a.mono (Nat.le_max_left m n)
 have b':=b.mono (Nat.le_max_right m n)
 unfold Lim at *
 rw[Nat.pow_succ]
 have:=Int.natAbs_add_le i j
 omega
theorem Lim.neg{m:Nat}{i:Int}(a:Lim m i):Lim m (-i):=by
 unfold Lim at *
 rw[Int.natAbs_neg]
 exact a
theorem Lim.sub{m n:Nat}{i j:Int}(a:Lim m i)(b:Lim n j):Lim (max m n + 1) (i - j):=by
 rw[Int.sub_eq_add_neg]
 exact a.add b.neg
theorem Lim.le{m:Nat}{i j:Int}(a:Lim m i)(h:j.natAbs<=i.natAbs):Lim m j:=Nat.lt_of_le_of_lt h a
theorem mulOk{m n:Nat}{i j:Int}(a:Lim m i)(b:Lim n j)(hm:m<=100000:=by decide)(hn:n<=100000:=by decide):MulOk i j:=.inl ⟨m,n,hm,hn,a,b⟩
theorem mulOkL{i j:Int}(a:Lim 19 i):MulOk i j:=.inr (.inl a)
theorem divOk{n:Nat}{j:Int}(h:j≠0)(b:Lim n j)(hn:n<=2200:=by decide):DivOk j:=⟨h,n,hn,b⟩
theorem fmod_pos{b:Int}(a:Int)(h:0 < b):0<=a.fmod b/\a.fmod b < b:=⟨Int.fmod_nonneg_of_pos a h,Int.fmod_lt_of_pos a h⟩
theorem plain_ints:∀ns:List Int,PyData.canLayAll0 (pds (ns.map T.int))=true
 | []=>by simp[pds,PyData.canLayAll0]
 | n::r=>by simp only[List.map,pds,pd,PyData.canLayAll0,PyData.canLay0,plain_ints r,Bool.and_self]
theorem dep_ints:∀ns:List Int,PyData.depthAll (pds (ns.map T.int))=0
 | []=>by simp[pds,PyData.depthAll]
 | n::r=>by simp only[List.map,pds,pd,PyData.depthAll,PyData.depth,dep_ints r,Nat.max_self]
theorem eqOk_tup(ns ms:List Int):EqOk (.tup (ns.map T.int)) (.tup (ms.map T.int)):=by
 refine⟨by simp only[plain,pd,PyData.canLay0,plain_ints],by simp only[plain,pd,PyData.canLay0,plain_ints],by simp only[dep,pd,PyData.depth,dep_ints];decide⟩
theorem atI0{α:Type}(a:α)(r:List α):atI (a::r) 0=some a:=by
 unfold atI ixN
 rw[if_pos (by decide),if_pos (by simp)]
 rfl
theorem atI1{α:Type}(a b:α)(r:List α):atI (a::b::r) 1=some b:=by
 unfold atI ixN
 rw[if_pos (by decide),if_pos (by simp;omega)]
 rfl
theorem atI2{α:Type}(a b c:α)(r:List α):atI (a::b::c::r) 2=some c:=by
 unfold atI ixN
 rw[if_pos (by decide),if_pos (by simp;omega)]
 rfl
def Within:List Int->List Int->Prop
 | [],[]=>True
 | r::rs,b::bs=>(0<=r/\r < b)/\Within rs bs
 | _,_=>False
theorem Within.length:∀{rs bs:List Int},Within rs bs->rs.length=bs.length
 | [],[],_=>rfl
 | _::_,_::_,h=>by simp[h.2.length]
 | [],_::_,h=>h.elim
 | _::_,[],h=>h.elim
@[elab_as_elim] theorem args0{α:Type}{M:List α->Prop}{us:List α}(hl:us.length=0)(h:M []):M us:=by cases us;exact h;cases hl
@[elab_as_elim] theorem argsS{α:Type}{M:List α->Prop}{us:List α}{n:Nat}(hl:us.length=n + 1)(h:∀a r,r.length=n->M (a::r)):M us:=by cases us;cases hl;exact h _ _ (Nat.succ.inj hl)
@[elab_as_elim] theorem args1{α:Type}{M:List α->Prop}{us:List α}(hl:us.length=1)(h:∀a,M [a]):M us:=argsS (M:=M) hl fun a r hl=>args0 (M:=fun r=>M (a::r)) hl (h a)
@[elab_as_elim] theorem args2{α:Type}{M:List α->Prop}{us:List α}(hl:us.length=2)(h:∀a b,M [a,b]):M us:=argsS (M:=M) hl fun a r hl=>args1 (M:=fun r=>M (a::r)) hl (h a)
@[elab_as_elim] theorem args3{α:Type}{M:List α->Prop}{us:List α}(hl:us.length=3)(h:∀a b c,M [a,b,c]):M us:=argsS (M:=M) hl fun a r hl=>args2 (M:=fun r=>M (a::r)) hl (h a)
@[elab_as_elim] theorem args4{α:Type}{M:List α->Prop}{us:List α}(hl:us.length=4)(h:∀a b c d,M [a,b,c,d]):M us:=argsS (M:=M) hl fun a r hl=>args3 (M:=fun r=>M (a::r)) hl (h a)
local macro_rules|`(tactic| walk_at "tw")=>`(tactic| simp only[sSeq,sNext,sSet,sIf,sRet,sOwn,sApp,sFrz,sAsg,sPar,sFor,sNever,sExpr,sRetN,gT,gsC,gs0,gN,wVar,wC,w2,rAddT,rSubT,rMulT,rDivT,rModT,rPowT,wNeg,wCmp,tCmpT,cLtT,cLeT,cGtT,cGeT,cEqT,cNeT,cIsN,cNotN,wChain,tChainT,tAndT,tOrT,tNotT,tVal,wAndV,wOrV,wNotV,wIfE,aNil,aCons,wTup,wLst,rIxTT,wCB,rLenT,rAbsT,rMaxT,rMinT,rTupleT,isK,noExc,wIsi,wCall,sget,sput,iSeq,iRange1,iRange2,iEnum,iZip,seqOf,zipT,wComp,compT,hide,tTrue,rSumT,intsOf,rAllT,boolsOf,rListT,rCatLT,rMin3T,wRevA,wSl,wo,wo0,rSlTT,wOIx,rIxST,tTruT,rMaxTT,rMinTT,wLRev,Option.map,List.sum_cons,List.sum_nil,rangeT,startT,atI0,atI1,atI2,List.map,List.length_cons,List.length_nil,List.append_nil,List.cons_append,List.nil_append,List.replicate,Nat.reduceAdd,Nat.reduceSub,Nat.reduceLeDiff,Nat.zero_le,Int.reduceToNat,Int.reducePow,Int.reduceMul,Int.reduceAdd,true_and,and_true])
local macro_rules|`(tactic| walk_at "go")=>`(tactic| ((conv=>whnf);repeat (first|(refine And.intro (by first|rfl|exact trivial|decide|exact Nat.le_of_ble_eq_true rfl|exact mulOk (by assumption) (by assumption)|assumption) ?_;conv=>whnf)|(refine And.intro (fun q=>Bool.noConfusion q) (fun _=>?_);conv=>whnf)|(refine And.intro (fun _=>?_) (fun q=>Bool.noConfusion q);conv=>whnf))))
local macro_rules|`(tactic| walk_at "nf1")=>`(tactic| conv=>arg 1;simp only[startT,sput,sget,hide,List.map,List.replicate,List.length_cons,List.length_nil,Nat.reduceAdd,Nat.reduceSub,List.cons_append,List.nil_append,List.append_nil])
local macro_rules|`(tactic| walk_at "nf2")=>`(tactic| conv=>arg 2;simp only[startT,sput,sget,hide,List.map,List.replicate,List.length_cons,List.length_nil,Nat.reduceAdd,Nat.reduceSub,List.cons_append,List.nil_append,List.append_nil])
theorem gcd_step(a b:Int):Int.gcd b (a.fmod b)=Int.gcd a b:=by
 rw[Int.fmod_def,Int.gcd_sub_mul_left_right,Int.gcd_comm]
theorem fmod_abs_lt(a:Int){b:Int}(h:b≠0):(a.fmod b).natAbs < b.natAbs:=by
 rw[Int.fmod_eq_emod]
 have h1:=Int.emod_nonneg a h
 have h2:=Int.emod_lt a h
 by_cases hb:0<=b
 ·rw[if_pos (Or.inl hb)]
  omega
 ·by_cases hd:b ∣ a
  ·rw[if_pos (Or.inr hd),Int.emod_eq_zero_of_dvd hd]
   omega
  ·have h3:a % b≠0:=fun e=>hd (Int.dvd_of_emod_eq_zero e)
   rw[if_neg (by omega)]
   omega
structure Frac(p q a b:Int):Prop where
 pos:0 < q
 cop:Int.gcd p q=1
 eq:p * b=a * q
 top:p.natAbs<=a.natAbs
 bot:q.natAbs<=b.natAbs
theorem frac_mk(a:Int){b f:Int}(hb:b≠0)(hf:(0 < b/\f=(Int.gcd a b:Int))∨(b < 0/\f=-(Int.gcd a b:Int))):Frac (a.fdiv f) (b.fdiv f) a b:=by
 have g0:0 < Int.gcd a b:=Int.gcd_pos_iff.mpr (Or.inr hb)
 have fa:f.natAbs=Int.gcd a b:=by rcases hf with ⟨_,e⟩|⟨_,e⟩<;>rw[e]<;>simp
 have fn:f≠0:=by omega
 have da:f ∣ a:=by
  have:=Int.gcd_dvd_left a b
  rcases hf with ⟨_,e⟩|⟨_,e⟩
  ·rw[e];exact this
  ·rw[e];exact Int.neg_dvd.mpr this
 have db:f ∣ b:=by
  have:=Int.gcd_dvd_right a b
  rcases hf with ⟨_,e⟩|⟨_,e⟩
  ·rw[e];exact this
  ·rw[e];exact Int.neg_dvd.mpr this
 obtain⟨a',ea⟩:=da
 obtain⟨b',eb⟩:=db
 have e1:a.fdiv f=a':=by rw[ea];exact Int.mul_fdiv_cancel_left a' fn
 have e2:b.fdiv f=b':=by rw[eb];exact Int.mul_fdiv_cancel_left b' fn
 rw[e1,e2]
 have bn:b'≠0:=by rintro rfl;rw[Int.mul_zero]at eb;exact hb eb
 have cop:Int.gcd a' b'=1:=by
  have q:Int.gcd a b=f.natAbs * Int.gcd a' b':=by rw[ea,eb,Int.gcd_mul_left]
  rw[fa]at q
  have q':Int.gcd a b * 1=Int.gcd a b * Int.gcd a' b':=by rw[Nat.mul_one];exact q
  exact(Nat.eq_of_mul_eq_mul_left g0 q').symm
 have na:a.natAbs=f.natAbs * a'.natAbs:=by rw[ea,Int.natAbs_mul]
 have nb:b.natAbs=f.natAbs * b'.natAbs:=by rw[eb,Int.natAbs_mul]
 have f1:1<=f.natAbs:=by omega
 refine⟨?_,cop,?_,?_,?_⟩
 ·rcases hf with ⟨hp,e⟩|⟨hn,e⟩
  ·have fp:0 < f:=by omega
   rw[eb]at hp
   rcases Int.lt_trichotomy b' 0 with z|z|z
   ·have:=Int.mul_neg_of_pos_of_neg fp z
    omega
   ·exact absurd z bn
   ·exact z
  ·have fp:f < 0:=by omega
   rw[eb]at hn
   rcases Int.lt_trichotomy b' 0 with z|z|z
   ·have:=Int.mul_pos_of_neg_of_neg fp z
    omega
   ·exact absurd z bn
   ·exact z
 ·rw[ea,eb]
  rw[← Int.mul_assoc,Int.mul_comm a' f]
 ·rw[na];exact Nat.le_mul_of_pos_left _ f1
 ·rw[nb];exact Nat.le_mul_of_pos_left _ f1
theorem low_uniq{p q p' q':Int}(hq:0 < q)(hq':0 < q')(c:Int.gcd p q=1)(c':Int.gcd p' q'=1)(e:p * q'=p' * q):p=p'/\q=q':=by
 have n:p.natAbs * q'.natAbs=p'.natAbs * q.natAbs:=by rw[← Int.natAbs_mul,← Int.natAbs_mul,e]
 have c1:Nat.Coprime q.natAbs p.natAbs:=by
  have:Nat.gcd p.natAbs q.natAbs=1:=c
  exact(Nat.gcd_comm _ _).trans this
 have c2:Nat.Coprime q'.natAbs p'.natAbs:=by
  have:Nat.gcd p'.natAbs q'.natAbs=1:=c'
  exact(Nat.gcd_comm _ _).trans this
 have d1:q.natAbs ∣ q'.natAbs:=c1.dvd_of_dvd_mul_left ⟨p'.natAbs,by rw[n,Nat.mul_comm]⟩
 have d2:q'.natAbs ∣ q.natAbs:=c2.dvd_of_dvd_mul_left ⟨p.natAbs,by rw[← n,Nat.mul_comm]⟩
 have qe:q.natAbs=q'.natAbs:=Nat.dvd_antisymm d1 d2
 have qq:q=q':=by omega
 subst qq
 exact⟨Int.eq_of_mul_eq_mul_right (by omega) e,rfl⟩
mutual
theorem eqT_self:∀t:T,plain t=true->eqT t t=true
 | .non,_=>rfl
 | .bl b,_=>by rw[eqTb];exact beq_self_eq_true b
 | .int i,_=>by rw[eqTe];exact decide_eq_true rfl
 | .str x,_=>by rw[eqTf];exact beq_self_eq_true x
 | .tup ts,h=>by
  simp only[plain,pd,PyData.canLay0]at h
  exact eqTs_self ts h
 | .lst ts,h=>by
  simp only[plain,pd,PyData.canLay0]at h
  exact eqTs_self ts h
 | .dct,h=>by simp[plain,pd,PyData.canLay0]at h
 | .exc _,h=>by simp[plain,pd,PyData.canLay0]at h
theorem eqTs_self:∀ts:List T,PyData.canLayAll0 (pds ts)=true->eqTs ts ts=true
 | [],_=>rfl
 | t::r,h=>by
  simp only[pds,PyData.canLayAll0,Bool.and_eq_true]at h
  rw[eqTj,Bool.and_eq_true]
  exact⟨eqT_self t h.1,eqTs_self r h.2⟩
end
def Pn(n:Nat)(t:T):Prop:=plain t=true/\dep t<=n
theorem Pn.all{n:Nat}:∀{ts:List T},(∀t∈ts,Pn n t)->PyData.canLayAll0 (pds ts)=true/\PyData.depthAll (pds ts)<=n
 | [],_=>by simp[pds,PyData.canLayAll0,PyData.depthAll]
 | t::r,h=>by
  have h1:(pd t).canLay0=true/\(pd t).depth<=n:=h t List.mem_cons_self
  have ih:=Pn.all fun x hx=>h x (List.mem_cons_of_mem _ hx)
  simp only[pds,PyData.canLayAll0,PyData.depthAll,Bool.and_eq_true]
  exact⟨⟨h1.1,ih.1⟩,by omega⟩
theorem Pn.lst{n:Nat}{ts:List T}(h:∀t∈ts,Pn n t):Pn (n + 1) (.lst ts):=by
 have:=Pn.all h
 refine⟨by simp only[plain,pd,PyData.canLay0];exact this.1,?_⟩
 simp only[dep,pd,PyData.depth]
 omega
theorem Pn.tup{n:Nat}{ts:List T}(h:∀t∈ts,Pn n t):Pn (n + 1) (.tup ts):=by
 have:=Pn.all h
 refine⟨by simp only[plain,pd,PyData.canLay0];exact this.1,?_⟩
 simp only[dep,pd,PyData.depth]
 omega
theorem Pn.int(i:Int):Pn 0 (.int i):=by
 refine⟨by simp[plain,pd,PyData.canLay0],by simp[dep,pd,PyData.depth]⟩
theorem Pn.non:Pn 0 .non:=by
 refine⟨by simp[plain,pd,PyData.canLay0],by simp[dep,pd,PyData.depth]⟩
theorem Pn.ok{n m:Nat}{x y:T}(h:Pn n x)(h':Pn m y)(hn:n<=60):EqOk x y:=⟨h.1,h'.1,by have:=h.2;omega⟩
theorem Pn.self{n:Nat}{x:T}(h:Pn n x):eqT x x=true:=eqT_self x h.1
abbrev fra(a b:Int):T:=.tup [.int a,.int b]
structure Rt(p q n m:Int):Prop where
 pos:0 < q
 cop:Int.gcd p q=1
 eq:p * m=n * q
theorem Frac.rt{p q a b:Int}(F:Frac p q a b):Rt p q a b:=⟨F.pos,F.cop,F.eq⟩
theorem mul_cl{a b c:Int}(h:a≠0)(e:a * b=a * c):b=c:=Int.eq_of_mul_eq_mul_left h e
theorem Rt.uniq{p q p' q' n m:Int}(hm:m≠0)(A:Rt p q n m)(B:Rt p' q' n m):p=p'/\q=q':=by
 refine low_uniq A.pos B.pos A.cop B.cop (mul_cl hm ?_)
 have e1:=A.eq
 have e2:=B.eq
 have h1:m * (p * q')=(p * m) * q':=by grind
 have h2:m * (p' * q)=(p' * m) * q:=by grind
 rw[h1,h2,e1,e2]
 grind
theorem Rt.same{p q p' q' n m n' m':Int}(hm:m≠0)(hm':m'≠0)(e:n * m'=n' * m)(A:Rt p q n m)(B:Rt p' q' n' m'):p=p'/\q=q':=by
 refine low_uniq A.pos B.pos A.cop B.cop (mul_cl (Int.mul_ne_zero hm hm') ?_)
 have e1:=A.eq
 have e2:=B.eq
 have h1:m * m' * (p * q')=(p * m) * (m' * q'):=by grind
 have h2:m * m' * (p' * q)=(p' * m') * (m * q):=by grind
 rw[h1,h2,e1,e2]
 have h3:n * q * (m' * q')=(n * m') * (q * q'):=by grind
 rw[h3,e]
 grind
theorem Rt.le{p q n m:Int}(hm:m≠0)(A:Rt p q n m):p.natAbs<=n.natAbs/\q.natAbs<=m.natAbs:=by
 have e:=A.eq
 have hq:=A.pos
 have c1:Nat.Coprime q.natAbs p.natAbs:=by
  have:Nat.gcd p.natAbs q.natAbs=1:=A.cop
  exact(Nat.gcd_comm _ _).trans this
 have en:p.natAbs * m.natAbs=n.natAbs * q.natAbs:=by rw[← Int.natAbs_mul,← Int.natAbs_mul,e]
 have d:q.natAbs ∣ m.natAbs:=c1.dvd_of_dvd_mul_left ⟨n.natAbs,by rw[en,Nat.mul_comm]⟩
 obtain⟨k,hk⟩:=d
 have hm':0 < m.natAbs:=by omega
 have k0:0 < k:=by
  rcases Nat.eq_zero_or_pos k with z|z
  ·rw[z,Nat.mul_zero]at hk;omega
  ·exact z
 have hq':0 < q.natAbs:=by omega
 have en2:n.natAbs=p.natAbs * k:=by
  rw[hk]at en
  have:q.natAbs * (p.natAbs * k)=q.natAbs * n.natAbs:=by rw[Nat.mul_comm q.natAbs n.natAbs,← en,Nat.mul_left_comm]
  exact(Nat.eq_of_mul_eq_mul_left hq' this).symm
 exact⟨by rw[en2];exact Nat.le_mul_of_pos_right _ k0,by rw[hk];exact Nat.le_mul_of_pos_right _ k0⟩
theorem Rt.lp{p q n m:Int}{k:Nat}(hm:m≠0)(A:Rt p q n m)(h:Lim k n):Lim k p:=h.le (A.le hm).1
theorem Rt.lq{p q n m:Int}{k:Nat}(hm:m≠0)(A:Rt p q n m)(h:Lim k m):Lim k q:=h.le (A.le hm).2
theorem Rt.sum{p q p' q' n n' m P R:Int}(A:Rt p q n m)(B:Rt p' q' n' m)(F:Frac P R (p * q' + p' * q) (q * q')):Rt P R (n + n') m:=by
 refine⟨F.pos,F.cop,mul_cl (a:=q * q') (by have:=Int.mul_pos A.pos B.pos;omega) ?_⟩
 have e1:=A.eq
 have e2:=B.eq
 have e3:=F.eq
 clear A B F
 grind
theorem Rt.whole(x:Int):Rt x 1 x 1:=⟨by decide,by simp,rfl⟩
theorem Rt.neg{p q n m w:Int}(hm:0 < m)(A:Rt p q n m):(p * w < 0) ↔ (n * w < 0):=by
 have hq:=A.pos
 have e:(p * w) * m=(n * w) * q:=by have:=A.eq;grind
 constructor
 ·intro h
  have h1:=Int.mul_neg_of_neg_of_pos h hm
  rw[e]at h1
  rcases Int.lt_or_le (n * w) 0 with z|z
  ·exact z
  ·have:=Int.mul_nonneg z (Int.le_of_lt hq);omega
 ·intro h
  have h1:=Int.mul_neg_of_neg_of_pos h hq
  rw[← e]at h1
  rcases Int.lt_or_le (p * w) 0 with z|z
  ·exact z
  ·have:=Int.mul_nonneg z (Int.le_of_lt hm);omega
def frG(n m:Int):Int:=if m < 0 then -(Int.gcd n m:Int) else (Int.gcd n m:Int)
def frN(n m:Int):Int:=n.fdiv (frG n m)
def frD(n m:Int):Int:=m.fdiv (frG n m)
def fr(n m:Int):T:=.tup [.int (frN n m),.int (frD n m)]
theorem fr_frac{n m:Int}(hm:m≠0):Frac (frN n m) (frD n m) n m:=by
 unfold frN frD
 refine frac_mk n hm ?_
 unfold frG
 rcases Int.lt_or_lt_of_ne hm with z|z
 ·exact .inr ⟨z,if_pos z⟩
 ·exact .inl ⟨z,if_neg (by omega)⟩
theorem fr_rt{n m:Int}(hm:m≠0):Rt (frN n m) (frD n m) n m:=(fr_frac hm).rt
theorem fr_of{p q n m:Int}(hm:m≠0)(A:Rt p q n m):fra p q=fr n m:=by
 obtain⟨e1,e2⟩:=A.uniq hm (fr_rt hm)
 rw[e1,e2,fr]
theorem fr_eq{n m n' m':Int}(hm:m≠0)(hm':m'≠0)(e:n * m'=n' * m):fr n m=fr n' m':=by
 obtain⟨e1,e2⟩:=(fr_rt hm).same hm hm' e (fr_rt hm')
 rw[fr,fr,e1,e2]
theorem fr_one(x:Int):fra x 1=fr x 1:=fr_of (by decide) (Rt.whole x)
theorem frN_lim{k:Nat}{n m:Int}(hm:m≠0)(h:Lim k n):Lim k (frN n m):=(fr_rt hm).lp hm h
theorem frD_lim{k:Nat}{n m:Int}(hm:m≠0)(h:Lim k m):Lim k (frD n m):=(fr_rt hm).lq hm h
theorem frD_pos{n m:Int}(hm:m≠0):0 < frD n m:=(fr_rt hm).pos
structure Two(k:Nat)(a b c d:Int):Prop where
 hb:b≠0
 hd:d≠0
 la:Lim k a
 lb:Lim k b
 lc:Lim k c
 ld:Lim k d
theorem Two.mono{k k':Nat}{a b c d:Int}(h:Two k a b c d)(hk:k<=k'):Two k' a b c d:=⟨h.hb,h.hd,h.la.mono hk,h.lb.mono hk,h.lc.mono hk,h.ld.mono hk⟩
theorem fr_sum{a b c d:Int}(hb:b≠0)(hd:d≠0):fr (frN a b * frD c d + frN c d * frD a b) (frD a b * frD c d)=fr (a * d + c * b) (b * d):=by
 have A:=fr_rt (n:=a) hb
 have B:=fr_rt (n:=c) hd
 refine fr_eq (by have:=Int.mul_pos A.pos B.pos;omega) (Int.mul_ne_zero hb hd) ?_
 have e1:=A.eq
 have e2:=B.eq
 generalize frN a b=p at e1 ⊢
 generalize frD a b=q at e1 ⊢
 generalize frN c d=r at e2 ⊢
 generalize frD c d=s at e2 ⊢
 clear A B
 have h1:(p * s + r * q) * (b * d)=(p * b) * (s * d) + (r * d) * (q * b):=by grind
 rw[h1,e1,e2]
 grind
theorem fr_sub{a b c d:Int}(hb:b≠0)(hd:d≠0):fr (frN a b * frD c d - frN c d * frD a b) (frD a b * frD c d)=fr (a * d - c * b) (b * d):=by
 have A:=fr_rt (n:=a) hb
 have B:=fr_rt (n:=c) hd
 refine fr_eq (by have:=Int.mul_pos A.pos B.pos;omega) (Int.mul_ne_zero hb hd) ?_
 have e1:=A.eq
 have e2:=B.eq
 generalize frN a b=p at e1 ⊢
 generalize frD a b=q at e1 ⊢
 generalize frN c d=r at e2 ⊢
 generalize frD c d=s at e2 ⊢
 clear A B
 have h1:(p * s - r * q) * (b * d)=(p * b) * (s * d) - (r * d) * (q * b):=by grind
 rw[h1,e1,e2]
 grind
theorem fr_mul{a b c d:Int}(hb:b≠0)(hd:d≠0):fr (frN a b * frN c d) (frD a b * frD c d)=fr (a * c) (b * d):=by
 have A:=fr_rt (n:=a) hb
 have B:=fr_rt (n:=c) hd
 refine fr_eq (by have:=Int.mul_pos A.pos B.pos;omega) (Int.mul_ne_zero hb hd) ?_
 have e1:=A.eq
 have e2:=B.eq
 generalize frN a b=p at e1 ⊢
 generalize frD a b=q at e1 ⊢
 generalize frN c d=r at e2 ⊢
 generalize frD c d=s at e2 ⊢
 clear A B
 have h1:(p * r) * (b * d)=(p * b) * (r * d):=by grind
 rw[h1,e1,e2]
 grind
theorem frN_ne{c d:Int}(hd:d≠0)(hc:c≠0):frN c d≠0:=fun z=>by
 have e:=(fr_rt (n:=c) hd).eq
 have q:=frD_pos (n:=c) hd
 rw[z,Int.zero_mul]at e
 exact Int.mul_ne_zero hc (by omega) e.symm
theorem fr_quo{a b c d:Int}(hb:b≠0)(hd:d≠0)(hc:c≠0):fr (frN a b * frD c d) (frD a b * frN c d)=fr (a * d) (b * c):=by
 have A:=fr_rt (n:=a) hb
 have B:=fr_rt (n:=c) hd
 have nz:=frN_ne hd hc
 refine fr_eq (Int.mul_ne_zero (by have:=A.pos;omega) nz) (Int.mul_ne_zero hb hc) ?_
 have e1:=A.eq
 have e2:=B.eq
 generalize frN a b=p at e1 ⊢
 generalize frD a b=q at e1 ⊢
 generalize frN c d=r at e2 ⊢
 generalize frD c d=s at e2 ⊢
 clear A B nz
 have h1:(p * s) * (b * c)=(p * b) * (c * s):=by grind
 rw[h1,e1,← e2]
 grind
theorem fr_under{a b c d:Int}(hb:0 < b)(hd:0 < d):(frN a b * frD c d < frN c d * frD a b) ↔ (a * d < c * b):=by
 have A:=fr_rt (n:=a) (m:=b) (by omega)
 have B:=fr_rt (n:=c) (m:=d) (by omega)
 have e1:=A.eq
 have e2:=B.eq
 have q0:=A.pos
 have s0:=B.pos
 generalize frN a b=p at e1 ⊢
 generalize frD a b=q at e1 q0 ⊢
 generalize frN c d=r at e2 ⊢
 generalize frD c d=s at e2 s0 ⊢
 clear A B
 have h1:(p * s) * (b * d)=(a * d) * (q * s):=by
  have e:(p * s) * (b * d)=(p * b) * (s * d):=by grind
  rw[e,e1]
  grind
 have h2:(r * q) * (b * d)=(c * b) * (q * s):=by
  have e:(r * q) * (b * d)=(r * d) * (q * b):=by grind
  rw[e,e2]
  grind
 have bd:=Int.mul_pos hb hd
 have qs:=Int.mul_pos q0 s0
 constructor
 ·intro h
  have:=Int.mul_lt_mul_of_pos_right h bd
  rw[h1,h2]at this
  exact Int.lt_of_mul_lt_mul_right this (Int.le_of_lt qs)
 ·intro h
  have:=Int.mul_lt_mul_of_pos_right h qs
  rw[← h1,← h2]at this
  exact Int.lt_of_mul_lt_mul_right this (Int.le_of_lt bd)
theorem fr_sum1{a c m:Int}(hm:m≠0):fr (a * m + c * m) (m * m)=fr (a + c) m:=fr_eq (Int.mul_ne_zero hm hm) hm (by grind)
theorem abs_ite(a:Int):(if a < 0 then -a else a)=(a.natAbs:Int):=by split<;>omega
def isWh:T->Bool
 | .int _=>true
 | _=>false
def Z0U:SpT:=fun ts Q=>∃t,ts=[t]/\noExc t/\Q (.bl (isWh t))
theorem Z4X:∀ts Q,Z0U ts Q->ts.length=1:=by rintro ts Q ⟨_,e,_⟩;subst e;rfl
def Z3r:WS :=
 (sRet (wAndV (wIsi .int (wVar 0)) (wNotV (wIsi .bool (wVar 0)))))
theorem Z5h:∀ts Q,Z0U ts Q->Z3r {nx:=fun _=>Q .non,rt:=Q} (startT 1 ts):=by
 rintro _ Q ⟨t,rfl,ne,h⟩
 unfold Z3r
 walk_at "tw"
 cases t<;>simp[isK,isWh,noExc]at h ne ⊢ <;> exact h
def Z0C:SpT:=fun ts Q=>∃a b:Int,ts=[.int a,.int b]/\Q (.int (Int.gcd a b))
theorem Z3s:∀ts Q,Z0C ts Q->ts.length=2:=by rintro ts Q ⟨_,_,e,_⟩;subst e;rfl
def Z1Z:WS :=
 (sSeq (sSet 2 (w2 rModT (wVar 0) (wVar 1)))
  (sSeq (sSet 0 (wVar 1))
  (sSet 1 (wVar 2))))
def Z1N:WS :=
 (sSeq (sWhile (tCmpT cNeT (wVar 1) (wC (.int 0))) Z1Z)
  (sRet (wCB rAbsT (aCons (wVar 0) aNil))))
theorem Z3L:∀ts Q,Z0C ts Q->Z1N {nx:=fun _=>Q .non,rt:=Q} (startT 3 ts):=by
 rintro _ Q ⟨a,b,rfl,h⟩
 unfold Z1N
 walk_at "tw"
 refine⟨fun m τ=>∃(x y:Int) (s:Slot),τ=[.val (.int x),.val (.int y),s]/\Int.gcd x y=Int.gcd a b/\m=y.natAbs,⟨_,_,_,_,rfl,rfl,rfl⟩,?_⟩
 rintro m τ ⟨x,y,s,rfl,hg,rfl⟩
 unfold Z1Z
 walk_at "tw"
 refine⟨fun c=>?_,fun c=>?_⟩
 ·have c':y≠0:=by simpa using c
  exact⟨c',_,fmod_abs_lt x c',_,_,_,rfl,by rw[gcd_step];exact hg,rfl⟩
 ·have e:y=0:=by simpa using c
  subst e
  rw[Int.gcd_zero_right]at hg
  rw[abs_ite,hg]
  exact h
def Z0k:SpT:=fun ts Q=>∃a b:Int,ts=[.int a,.int b]/\b≠0/\Lim 2000 b/\Q (fr a b)
theorem Z4Y:∀ts Q,Z0k ts Q->ts.length=2:=by rintro ts Q ⟨_,_,e,_⟩;subst e;rfl
def Z3t:WS :=
 (sRet (wTup (aCons (w2 rDivT (wVar 0) (wVar 2)) (aCons (w2 rDivT (wVar 1) (wVar 2)) aNil))))
def Z3u:WS :=
 (sSeq (sIf (tOrT (tNotT (tVal (wCall Z0U (aCons (wVar 0) aNil)))) (tNotT (tVal (wCall Z0U (aCons (wVar 1) aNil))))) sNever sNext)
  (sSeq (sIf (tCmpT cEqT (wVar 1) (wC (.int 0))) sNever sNext)
  (sSeq (sSet 2 (wCall Z0C (aCons (wVar 0) (aCons (wVar 1) aNil))))
  (sSeq (sIf (tCmpT cLtT (wVar 1) (wC (.int 0))) (sSet 2 (wNeg (wVar 2))) sNext)
  Z3t))))
theorem Z5i:∀ts Q,Z0k ts Q->Z3u {nx:=fun _=>Q .non,rt:=Q} (startT 3 ts):=by
 rintro _ Q ⟨a,b,rfl,hb,lb,h⟩
 simp only[Z3u,Z3t]
 walk_at "tw"
 have g0:0 < Int.gcd a b:=Int.gcd_pos_iff.mpr (Or.inr hb)
 have gl:(Int.gcd a b:Int).natAbs<=b.natAbs:=by
  have d:=Int.gcd_dvd_right a b
  have:=Int.natAbs_dvd_natAbs.mpr d
  exact Nat.le_of_dvd (by omega) this
 refine⟨_,rfl,trivial,?_⟩
 walk_at "tw"
 simp only[isWh]
 refine⟨fun z=>(by cases z),fun _=>⟨_,rfl,trivial,?_⟩⟩
 walk_at "tw"
 simp only[isWh]
 refine⟨fun z=>(by cases z),fun _=>⟨fun c=>hb (of_decide_eq_true c),fun _=>⟨a,b,rfl,?_⟩⟩⟩
 walk_at "tw"
 refine⟨fun c=>?_,fun c=>?_⟩
 ·have c':b < 0:=of_decide_eq_true c
  have dv:DivOk (-(Int.gcd a b:Int)):=divOk (by omega) (lb.le (by omega))
  unfold fr frN frD frG at h
  rw[if_pos c']at h
  exact⟨dv,dv,h⟩
 ·have c':¬ b < 0:=of_decide_eq_false c
  have dv:DivOk (Int.gcd a b:Int):=divOk (by omega) (lb.le gl)
  unfold fr frN frD frG at h
  rw[if_neg c']at h
  exact⟨dv,dv,h⟩
def Twd(a b c d:Int):Prop:=b≠0/\d≠0/\Lim 90000 a/\∃j k,Lim j b/\Lim 90000 c/\Lim k d/\j + k<=2000
theorem Two.wd{a b c d:Int}(h:Two 900 a b c d):Twd a b c d:=⟨h.hb,h.hd,h.la.mono (by decide),900,900,h.lb,h.lc.mono (by decide),h.ld,by decide⟩
def Z03:SpT:=fun ts Q=>∃a b c d:Int,ts=[fr a b,fr c d]/\Twd a b c d/\Q (fr (a * d + c * b) (b * d))
theorem Z4y:∀ts Q,Z03 ts Q->ts.length=2:=by rintro ts Q ⟨_,_,_,_,e,_⟩;subst e;rfl
def Z38:WS :=
 (sRet (wCall Z0k (aCons (w2 rAddT (w2 rMulT (w2 rIxTT (wVar 0) (wC (.int 0))) (w2 rIxTT (wVar 1) (wC (.int 1)))) (w2 rMulT (w2 rIxTT (wVar 1) (wC (.int 0))) (w2 rIxTT (wVar 0) (wC (.int 1))))) (aCons (w2 rMulT (w2 rIxTT (wVar 0) (wC (.int 1))) (w2 rIxTT (wVar 1) (wC (.int 1)))) aNil))))
theorem Z4Z:∀ts Q,Z03 ts Q->Z38 {nx:=fun _=>Q .non,rt:=Q} (startT 2 ts):=by
 rintro _ Q ⟨a,b,c,d,rfl,⟨hb,hd,la,j,k,lb,lc,ld,hjk⟩,h⟩
 rw[← fr_sum hb hd]at h
 have q:=Int.mul_pos (frD_pos (n:=a) hb) (frD_pos (n:=c) hd)
 have la:=frN_lim hb la
 have lb:=frD_lim (n:=a) hb lb
 have lc:=frN_lim hd lc
 have ld:=frD_lim (n:=c) hd ld
 unfold Z38 fr
 walk_at "tw"
 exact⟨mulOk la ld (by decide) (by omega),mulOk lc lb (by decide) (by omega),mulOk lb ld (by omega) (by omega),_,_,rfl,by omega,(lb.mul ld).mono hjk,h⟩
def Z00:SpT:=fun ts Q=>∃a b c d:Int,ts=[fr a b,fr c d]/\Twd a b c d/\Q (fr (a * d - c * b) (b * d))
theorem Z4m:∀ts Q,Z00 ts Q->ts.length=2:=by rintro ts Q ⟨_,_,_,_,e,_⟩;subst e;rfl
def Z2O:WS :=
 (sRet (wCall Z0k (aCons (w2 rSubT (w2 rMulT (w2 rIxTT (wVar 0) (wC (.int 0))) (w2 rIxTT (wVar 1) (wC (.int 1)))) (w2 rMulT (w2 rIxTT (wVar 1) (wC (.int 0))) (w2 rIxTT (wVar 0) (wC (.int 1))))) (aCons (w2 rMulT (w2 rIxTT (wVar 0) (wC (.int 1))) (w2 rIxTT (wVar 1) (wC (.int 1)))) aNil))))
theorem Z4z:∀ts Q,Z00 ts Q->Z2O {nx:=fun _=>Q .non,rt:=Q} (startT 2 ts):=by
 rintro _ Q ⟨a,b,c,d,rfl,⟨hb,hd,la,j,k,lb,lc,ld,hjk⟩,h⟩
 rw[← fr_sub hb hd]at h
 have q:=Int.mul_pos (frD_pos (n:=a) hb) (frD_pos (n:=c) hd)
 have la:=frN_lim hb la
 have lb:=frD_lim (n:=a) hb lb
 have lc:=frN_lim hd lc
 have ld:=frD_lim (n:=c) hd ld
 unfold Z2O fr
 walk_at "tw"
 exact⟨mulOk la ld (by decide) (by omega),mulOk lc lb (by decide) (by omega),mulOk lb ld (by omega) (by omega),_,_,rfl,by omega,(lb.mul ld).mono hjk,h⟩
def Z01:SpT:=fun ts Q=>∃a b c d:Int,ts=[fr a b,fr c d]/\Twd a b c d/\Q (fr (a * c) (b * d))
theorem Z49:∀ts Q,Z01 ts Q->ts.length=2:=by rintro ts Q ⟨_,_,_,_,e,_⟩;subst e;rfl
def Z2A:WS :=
 (sRet (wCall Z0k (aCons (w2 rMulT (w2 rIxTT (wVar 0) (wC (.int 0))) (w2 rIxTT (wVar 1) (wC (.int 0)))) (aCons (w2 rMulT (w2 rIxTT (wVar 0) (wC (.int 1))) (w2 rIxTT (wVar 1) (wC (.int 1)))) aNil))))
theorem Z4n:∀ts Q,Z01 ts Q->Z2A {nx:=fun _=>Q .non,rt:=Q} (startT 2 ts):=by
 rintro _ Q ⟨a,b,c,d,rfl,⟨hb,hd,la,j,k,lb,lc,ld,hjk⟩,h⟩
 rw[← fr_mul hb hd]at h
 have q:=Int.mul_pos (frD_pos (n:=a) hb) (frD_pos (n:=c) hd)
 have la:=frN_lim hb la
 have lb:=frD_lim (n:=a) hb lb
 have lc:=frN_lim hd lc
 have ld:=frD_lim (n:=c) hd ld
 unfold Z2A fr
 walk_at "tw"
 exact⟨mulOk la lc,mulOk lb ld (by omega) (by omega),_,_,rfl,by omega,(lb.mul ld).mono hjk,h⟩
def Z0w:SpT:=fun ts Q=>∃a b c d:Int,ts=[fr a b,fr c d]/\Two 900 a b c d/\c≠0/\Q (fr (a * d) (b * c))
theorem Z50:∀ts Q,Z0w ts Q->ts.length=2:=by rintro ts Q ⟨_,_,_,_,e,_⟩;subst e;rfl
def Z3v:WS :=
 (sRet (wCall Z0k (aCons (w2 rMulT (w2 rIxTT (wVar 0) (wC (.int 0))) (w2 rIxTT (wVar 1) (wC (.int 1)))) (aCons (w2 rMulT (w2 rIxTT (wVar 0) (wC (.int 1))) (w2 rIxTT (wVar 1) (wC (.int 0)))) aNil))))
theorem Z5j:∀ts Q,Z0w ts Q->Z3v {nx:=fun _=>Q .non,rt:=Q} (startT 2 ts):=by
 rintro _ Q ⟨a,b,c,d,rfl,⟨hb,hd,la,lb,lc,ld⟩,hc,h⟩
 rw[← fr_quo hb hd hc]at h
 have q:=frD_pos (n:=a) hb
 have nz:=frN_ne hd hc
 have la:=frN_lim hb la
 have lb:=frD_lim (n:=a) hb lb
 have lc:=frN_lim hd lc
 have ld:=frD_lim (n:=c) hd ld
 unfold Z3v fr
 walk_at "tw"
 exact⟨mulOk la ld,mulOk lb lc,_,_,rfl,Int.mul_ne_zero (by omega) nz,(lb.mul lc).mono (by decide),h⟩
def Z0V:SpT:=fun ts Q=>∃a b c d:Int,ts=[fr a b,fr c d]/\0 < b/\0 < d/\Two 900 a b c d/\Q (.bl (decide (a * d < c * b)))
theorem Z51:∀ts Q,Z0V ts Q->ts.length=2:=by rintro ts Q ⟨_,_,_,_,e,_⟩;subst e;rfl
def Z3w:WS :=
 (sRet (wCmp cLtT (w2 rMulT (w2 rIxTT (wVar 0) (wC (.int 0))) (w2 rIxTT (wVar 1) (wC (.int 1)))) (w2 rMulT (w2 rIxTT (wVar 1) (wC (.int 0))) (w2 rIxTT (wVar 0) (wC (.int 1))))))
theorem Z5k:∀ts Q,Z0V ts Q->Z3w {nx:=fun _=>Q .non,rt:=Q} (startT 2 ts):=by
 rintro _ Q ⟨a,b,c,d,rfl,b0,d0,⟨hb,hd,la,lb,lc,ld⟩,h⟩
 have e:decide (a * d < c * b)=decide (frN a b * frD c d < frN c d * frD a b):=decide_eq_decide.mpr (fr_under b0 d0).symm
 rw[e]at h
 have la:=frN_lim hb la
 have lb:=frD_lim (n:=a) hb lb
 have lc:=frN_lim hd lc
 have ld:=frD_lim (n:=c) hd ld
 unfold Z3w fr
 walk_at "tw"
 exact⟨mulOk la ld,mulOk lc lb,h⟩
abbrev P2:=Int×Int
def pl(M:Int)(p:P2):T:=.tup [fr p.1 M,fr p.2 M]
def cr(a b:P2):Int:=a.1 * b.2 - b.1 * a.2
structure PsOk(M:Int)(ps:List P2):Prop where
 hM:0 < M
 lM:Lim 30 M
 len:ps.length<=900
 lim:∀p∈ps,Lim 30 p.1/\Lim 30 p.2
theorem at_nat{α:Type}{f:α->T}{l:List α}{i:Nat}{x:α}(h:l[i]?=some x):atI (l.map f) (i:Int)=some (f x):=by
 have hi:i < l.length:=(List.getElem?_eq_some_iff.mp h).1
 unfold atI ixN
 rw[List.length_map,if_pos (by omega),if_pos (by omega)]
 simp only[Option.bind,Int.toNat_natCast]
 rw[List.getElem?_map,h]
 rfl
theorem at_last{α:Type}{f:α->T}(a:α)(r:List α):atI ((a::r).map f) (((0:Nat):Int) - 1)=some (f (r.getLastD a)):=by
 unfold atI ixN
 rw[List.length_map,if_neg (by omega),if_pos (by simp;omega)]
 simp only[Option.bind]
 rw[List.getElem?_map,show ((((0:Nat):Int) - 1) + ((a::r).length:Int)).toNat=r.length by simp only[List.length_cons];omega]
 cases r with
 | nil=>rfl
 | cons b r=>simp[List.getLastD,List.getLast?_eq_getElem?,List.getLast_eq_getElem]
theorem at_prev{α:Type}{f:α->T}{l:List α}{i:Nat}{x:α}(h:l[i]?=some x):atI (l.map f) (((i + 1:Nat):Int) - 1)=some (f x):=by
 rw[show (((i + 1:Nat):Int) - 1)=(i:Int) by omega]
 exact at_nat h
theorem drop_cons{α:Type}{l r:List α}{i:Nat}{b:α}(e:l.drop i=b::r):l[i]?=some b/\l.drop (i + 1)=r/\b∈l:=by
 have h1:l[i]?=some b:=by
  have:=congrArg (·[0]?) e
  simpa using this
 refine⟨h1,?_,List.mem_of_getElem? h1⟩
 rw[← List.drop_drop,e]
 rfl
abbrev tri(a b c:Int):T:=.tup [.int a,.int b,.int c]
abbrev plt(a b c d e f x y z:Int):T:=.tup [tri a b c,tri d e f,tri x y z]
abbrev Tr:=Int×Int×Int
abbrev trT(d:Tr):T:=tri d.1 d.2.1 d.2.2
abbrev Lim3(k:Nat)(u v w:Int):Prop:=Lim k u/\Lim k v/\Lim k w
abbrev LimT(k:Nat)(d:Tr):Prop:=Lim3 k d.1 d.2.1 d.2.2
theorem Lim3.mono{k k':Nat}{a b c:Int}(h:Lim3 k a b c)(hk:k<=k'):Lim3 k' a b c:=⟨h.1.mono hk,h.2.1.mono hk,h.2.2.mono hk⟩
abbrev crs(a b:Tr):Tr:=(a.2.1 * b.2.2 - a.2.2 * b.2.1,a.2.2 * b.1 - a.1 * b.2.2,a.1 * b.2.1 - a.2.1 * b.1)
abbrev dotI(a b:Tr):Int:=a.1 * b.1 + a.2.1 * b.2.1 + a.2.2 * b.2.2
abbrev pt(t:Tr)(m:Int):T:=.tup [fr t.1 m,fr t.2.1 m,fr t.2.2 m]
abbrev hpl(h:Tr):T:=.tup [fr h.1 h.2.2,fr h.2.1 h.2.2]
abbrev ptl(c s o:Tr):T:=.tup [trT c,trT s,trT o]
theorem lim_crs{m n k:Nat}{a b:Tr}(ha:LimT m a)(hb:LimT n b)(hk:m + n + 1<=k):LimT k (crs a b):=by
 have z:∀{p q r s:Int},Lim m p->Lim m q->Lim n r->Lim n s->Lim k (p * s - q * r):=fun hp hq hr hs=>((hp.mul hs).sub (hq.mul hr)).mono (by simp;omega)
 exact⟨z ha.2.1 ha.2.2 hb.2.1 hb.2.2,z ha.2.2 ha.1 hb.2.2 hb.1,z ha.1 ha.2.1 hb.1 hb.2.1⟩
theorem lim_dotI{m n k:Nat}{a b:Tr}(ha:LimT m a)(hb:LimT n b)(hk:m + n + 2<=k):Lim k (dotI a b):=(((ha.1.mul hb.1).add (ha.2.1.mul hb.2.1)).add (ha.2.2.mul hb.2.2)).mono (by simp;omega)
theorem eqOk_tri(a b c d e f:Int):EqOk (tri a b c) (tri d e f):=eqOk_tup [a,b,c] [d,e,f]
theorem eqT_tri(a b c d e f:Int):eqT (tri a b c) (tri d e f)=decide (a=d/\b=e/\c=f):=by
 simp[eqT,eqTs]
theorem eqT_tr(a b:Tr):eqT (trT a) (trT b)=decide (a=b):=by
 obtain⟨a0,a1,a2⟩:=a
 obtain⟨b0,b1,b2⟩:=b
 rw[eqT_tri]
 simp
abbrev tless(t c:Tr)(m:Int):Tr:=(t.1 - c.1 * m,t.2.1 - c.2.1 * m,t.2.2 - c.2.2 * m)
theorem lim_tless{k j n:Nat}{t c:Tr}{m:Int}(ht:LimT k t)(hc:LimT k c)(hm:Lim j m)(hn:k + j + 1<=n):LimT n (tless t c m):=by
 have z:∀{p q:Int},Lim k p->Lim k q->Lim n (p - q * m):=fun hp hq=>(hp.sub (hq.mul hm)).mono (by simp;omega)
 exact⟨z ht.1 hc.1,z ht.2.1 hc.2.1,z ht.2.2 hc.2.2⟩
def Z1O:SpT:=fun ts Q=>∃a b:Tr,ts=[trT a,trT b]/\LimT 2000 a/\LimT 2000 b/\Q (.int (dotI a b))
theorem Z5N:∀ts Q,Z1O ts Q->ts.length=2:=by rintro ts Q ⟨_,_,e,_⟩;subst e;rfl
def Z4a:WS :=
 (sRet (w2 rAddT (w2 rAddT (w2 rMulT (w2 rIxTT (wVar 0) (wC (.int 0))) (w2 rIxTT (wVar 1) (wC (.int 0)))) (w2 rMulT (w2 rIxTT (wVar 0) (wC (.int 1))) (w2 rIxTT (wVar 1) (wC (.int 1))))) (w2 rMulT (w2 rIxTT (wVar 0) (wC (.int 2))) (w2 rIxTT (wVar 1) (wC (.int 2))))))
theorem Z5Z:∀ts Q,Z1O ts Q->Z4a {nx:=fun _=>Q .non,rt:=Q} (startT 2 ts):=by
 rintro _ Q ⟨⟨a,b,c⟩,⟨d,e,f⟩,rfl,⟨la,lb,lc⟩,⟨ld,le,lf⟩,h⟩
 unfold Z4a
 walk_at "tw"
 exact⟨mulOk la ld,mulOk lb le,mulOk lc lf,h⟩
def Z0W:SpT:=fun ts Q=>∃a b:Tr,ts=[trT a,trT b]/\LimT 1000 a/\LimT 1000 b/\Q (trT (crs a b))
theorem Z52:∀ts Q,Z0W ts Q->ts.length=2:=by rintro ts Q ⟨_,_,e,_⟩;subst e;rfl
def Z3x:WS :=
 (sRet (wTup (aCons (w2 rSubT (w2 rMulT (w2 rIxTT (wVar 0) (wC (.int 1))) (w2 rIxTT (wVar 1) (wC (.int 2)))) (w2 rMulT (w2 rIxTT (wVar 0) (wC (.int 2))) (w2 rIxTT (wVar 1) (wC (.int 1))))) (aCons (w2 rSubT (w2 rMulT (w2 rIxTT (wVar 0) (wC (.int 2))) (w2 rIxTT (wVar 1) (wC (.int 0)))) (w2 rMulT (w2 rIxTT (wVar 0) (wC (.int 0))) (w2 rIxTT (wVar 1) (wC (.int 2))))) (aCons (w2 rSubT (w2 rMulT (w2 rIxTT (wVar 0) (wC (.int 0))) (w2 rIxTT (wVar 1) (wC (.int 1)))) (w2 rMulT (w2 rIxTT (wVar 0) (wC (.int 1))) (w2 rIxTT (wVar 1) (wC (.int 0))))) aNil)))))
theorem Z5l:∀ts Q,Z0W ts Q->Z3x {nx:=fun _=>Q .non,rt:=Q} (startT 2 ts):=by
 rintro _ Q ⟨⟨a,b,c⟩,⟨d,e,f⟩,rfl,⟨la,lb,lc⟩,⟨ld,le,lf⟩,h⟩
 unfold Z3x
 walk_at "tw"
 exact⟨mulOk lb lf,mulOk lc le,mulOk lc ld,mulOk la lf,mulOk la le,mulOk lb ld,h⟩
def Z0E:SpT:=fun ts Q=>∃(t:T) (s o:Tr),ts=[.tup [t,trT s,trT o]]/\LimT 1000 s/\LimT 1000 o/\Q (trT (crs s o))
theorem Z53:∀ts Q,Z0E ts Q->ts.length=1:=by rintro ts Q ⟨_,_,_,e,_⟩;subst e;rfl
def Z3y:WS :=
 (sRet (wCall Z0W (aCons (w2 rIxTT (wVar 0) (wC (.int 1))) (aCons (w2 rIxTT (wVar 0) (wC (.int 2))) aNil))))
theorem Z5m:∀ts Q,Z0E ts Q->Z3y {nx:=fun _=>Q .non,rt:=Q} (startT 1 ts):=by
 rintro _ Q ⟨t,s,o,rfl,ls,lo,h⟩
 unfold Z3y
 walk_at "go"
 exact⟨s,o,rfl,ls,lo,h⟩
def Z0M:SpT:=fun ts Q=>∃(t c:Tr) (m:Int),ts=[pt t m,trT c]/\LimT 300 t/\LimT 300 c/\m≠0/\Lim 300 m/\Q (pt (tless t c m) m)
theorem Z4o:∀ts Q,Z0M ts Q->ts.length=2:=by rintro ts Q ⟨_,_,_,e,_⟩;subst e;rfl
def Z20:WE :=
 (wCall Z00 (aCons (w2 rIxTT (wVar 1) (wVar 0)) (aCons (wTup (aCons (w2 rIxTT (wVar 2) (wVar 0)) (aCons (wC (.int 1)) aNil))) aNil)))
def Z2P:WS :=
 (sRet (wCB rTupleT (aCons (wComp (iRange1 (aCons (wC (.int 3)) aNil)) (gN 0) tTrue Z20 1 [0,1]) aNil)))
theorem one9:Lim 900 (1:Int):=Lim.of (by decide) (by decide)
theorem up900{i:Int}(h:Lim 300 i):Lim 900 i:=h.mono (by decide)
theorem Z4A:∀ts Q,Z0M ts Q->Z2P {nx:=fun _=>Q .non,rt:=Q} (startT 2 ts):=by
 rintro _ Q ⟨⟨t0,t1,t2⟩,⟨c0,c1,c2⟩,m,rfl,lt,lc,hm,lm,h⟩
 unfold Z2P
 obtain⟨W0,hW0⟩:∃W,W=Z20:=⟨_,rfl⟩
 rw[← hW0]
 have c0:∀{xs cs:List T}{k X C:Int}{Q:T->Prop},atI xs k=some (fr X m)->atI cs k=some (.int C)->Lim 300 X->Lim 300 C->Q (fr (X - C * m) m)->W0 [.val (.int k),.val (.tup xs),.val (.tup cs)] Q:=fun {xs cs k X C Q} ex ec lX lC hQ=>by
  rw[hW0]
  unfold Z20
  walk_at "go"
  rw[ex]
  walk_at "go"
  rw[ec]
  walk_at "go"
  refine⟨X,m,C,1,congrArg (fun x=>[fr X m,x]) (fr_one C),Two.wd ⟨hm,by decide,up900 lX,up900 lm,up900 lC,one9⟩,?_⟩
  rw[Int.mul_one,Int.mul_one]
  exact hQ
 walk_at "go"
 refine c0 (atI0 _ _) (atI0 _ _) lt.1 lc.1 ?_
 walk_at "go"
 refine c0 (atI1 _ _ _) (atI1 _ _ _) lt.2.1 lc.2.1 ?_
 walk_at "go"
 refine c0 (atI2 _ _ _ _) (atI2 _ _ _ _) lt.2.2 lc.2.2 ?_
 walk_at "go"
 exact h
def Z0G:SpT:=fun ts Q=>∃(t n:Tr) (m:Int),ts=[pt t m,trT n]/\LimT 300 t/\LimT 300 n/\m≠0/\Lim 300 m/\Q (fr (dotI t n) m)
theorem Z4B:∀ts Q,Z0G ts Q->ts.length=2:=by rintro ts Q ⟨_,_,_,e,_⟩;subst e;rfl
def Z2i:WE :=
 (wCall Z01 (aCons (w2 rIxTT (wVar 1) (wVar 0)) (aCons (wTup (aCons (w2 rIxTT (wVar 2) (wVar 0)) (aCons (wC (.int 1)) aNil))) aNil)))
def Z39:WS :=
 (sSeq (sSet 2 (wComp (iRange1 (aCons (wC (.int 3)) aNil)) (gN 0) tTrue Z2i 1 [0,1]))
  (sRet (wCall Z03 (aCons (w2 rIxTT (wVar 2) (wC (.int 0))) (aCons (wCall Z03 (aCons (w2 rIxTT (wVar 2) (wC (.int 1))) (aCons (w2 rIxTT (wVar 2) (wC (.int 2))) aNil))) aNil)))))
theorem Z54:∀ts Q,Z0G ts Q->Z39 {nx:=fun _=>Q .non,rt:=Q} (startT 3 ts):=by
 rintro _ Q ⟨⟨t0,t1,t2⟩,⟨n0,n1,n2⟩,m,rfl,⟨lt0,lt1,lt2⟩,⟨ln0,ln1,ln2⟩,hm,lm,h⟩
 simp only at lt0 lt1 lt2 ln0 ln1 ln2
 have up6:∀{i:Int},Lim (300 + 300) i->Lim 900 i:=fun h=>h.mono (by decide)
 unfold Z39
 obtain⟨W0,hW0⟩:∃W,W=Z2i:=⟨_,rfl⟩
 rw[← hW0]
 have c0:∀{xs cs:List T}{k X C:Int}{Q:T->Prop},atI xs k=some (fr X m)->atI cs k=some (.int C)->Lim 300 X->Lim 300 C->Q (fr (X * C) m)->W0 [.val (.int k),.val (.tup xs),.val (.tup cs)] Q:=fun {xs cs k X C Q} ex ec lX lC hQ=>by
  rw[hW0]
  unfold Z2i
  walk_at "go"
  rw[ex]
  walk_at "go"
  rw[ec]
  walk_at "go"
  refine⟨X,m,C,1,congrArg (fun x=>[fr X m,x]) (fr_one C),Two.wd ⟨hm,by decide,up900 lX,up900 lm,up900 lC,one9⟩,?_⟩
  rw[Int.mul_one]
  exact hQ
 walk_at "go"
 refine c0 (atI0 _ _) (atI0 _ _) lt0 ln0 ?_
 walk_at "go"
 refine c0 (atI1 _ _ _) (atI1 _ _ _) lt1 ln1 ?_
 walk_at "go"
 refine c0 (atI2 _ _ _ _) (atI2 _ _ _ _) lt2 ln2 ?_
 walk_at "go"
 refine⟨t1 * n1,m,t2 * n2,m,rfl,Two.wd ⟨hm,hm,up6 (lt1.mul ln1),up900 lm,up6 (lt2.mul ln2),up900 lm⟩,?_⟩
 rw[fr_sum1 hm]
 walk_at "go"
 refine⟨t0 * n0,m,t1 * n1 + t2 * n2,m,rfl,Two.wd ⟨hm,hm,up6 (lt0.mul ln0),up900 lm,((lt1.mul ln1).add (lt2.mul ln2)).mono (by decide),up900 lm⟩,?_⟩
 rw[fr_sum1 hm]
 rw[show dotI (t0,t1,t2) (n0,n1,n2)=t0 * n0 + (t1 * n1 + t2 * n2) by simp only[dotI];omega]at h
 exact h
abbrev meet(c s o t d:Tr)(m:Int):Tr:=(dotI (tless t c m) (crs o d),dotI (tless t c m) (crs d s),m * dotI (crs s o) d)
def Z12:SpT:=fun ts Q=>∃(c s o t d:Tr) (m:Int),ts=[ptl c s o,pt t m,trT d]/\(LimT 50 c/\LimT 50 s/\LimT 50 o/\LimT 100 d)/\LimT 150 t/\m≠0/\Lim 100 m ∧
 (dotI (crs s o) d=0->Q .non)/\(dotI (crs s o) d≠0->Q (hpl (meet c s o t d m)))
theorem Z4p:∀ts Q,Z12 ts Q->ts.length=3:=by rintro ts Q ⟨_,_,_,_,_,_,e,_⟩;subst e;rfl
def Z2Q:WS :=
 (sSeq (sSet 3 (wCall Z1O (aCons (wCall Z0E (aCons (wVar 0) aNil)) (aCons (wVar 2) aNil))))
  (sSeq (sIf (tCmpT cEqT (wVar 3) (wC (.int 0))) (sRet (wC .non)) sNext)
  (sSeq (sSet 4 (wCall Z0M (aCons (wVar 1) (aCons (w2 rIxTT (wVar 0) (wC (.int 0))) aNil))))
  (sSeq (sSet 5 (wCall Z0G (aCons (wVar 4) (aCons (wCall Z0W (aCons (w2 rIxTT (wVar 0) (wC (.int 2))) (aCons (wVar 2) aNil))) aNil))))
  (sSeq (sSet 6 (wCall Z0G (aCons (wVar 4) (aCons (wCall Z0W (aCons (wVar 2) (aCons (w2 rIxTT (wVar 0) (wC (.int 1))) aNil))) aNil))))
  (sRet (wTup (aCons (wCall Z0w (aCons (wVar 5) (aCons (wTup (aCons (wVar 3) (aCons (wC (.int 1)) aNil))) aNil))) (aCons (wCall Z0w (aCons (wVar 6) (aCons (wTup (aCons (wVar 3) (aCons (wC (.int 1)) aNil))) aNil))) aNil)))))))))
theorem Z4C:∀ts Q,Z12 ts Q->Z2Q {nx:=fun _=>Q .non,rt:=Q} (startT 7 ts):=by
 rintro _ Q ⟨c,s,o,t,d,m,rfl,⟨lc,ls,lo,ld⟩,lt,hm,lm,h0,h1⟩
 have lF:=lim_crs ls lo (k:=101) (by decide)
 have lW:=lim_dotI lF ld (k:=203) (by decide)
 have lB:=lim_tless (lt.mono (show 150<=150 by decide)) (lc.mono (show 50<=150 by decide)) lm (n:=251) (by decide)
 have lod:=lim_crs lo ld (k:=151) (by decide)
 have lds:=lim_crs ld ls (k:=151) (by decide)
 have lS:=lim_dotI lB lod (k:=404) (by decide)
 have lT:=lim_dotI lB lds (k:=404) (by decide)
 unfold Z2Q
 walk_at "go"
 refine⟨_,s,o,rfl,ls.mono (by decide),lo.mono (by decide),?_⟩
 walk_at "go"
 refine⟨crs s o,d,rfl,lF.mono (by decide),ld.mono (by decide),?_⟩
 walk_at "go"
 refine⟨fun z=>?_,fun z=>?_⟩
 ·walk_at "go"
  exact h0 (of_decide_eq_true z)
 ·have hW:=of_decide_eq_false z
  have q:=h1 hW
  walk_at "go"
  refine⟨t,c,m,rfl,lt.mono (by decide),lc.mono (by decide),hm,lm.mono (by decide),?_⟩
  walk_at "go"
  refine⟨o,d,rfl,lo.mono (by decide),ld.mono (by decide),?_⟩
  walk_at "go"
  refine⟨tless t c m,crs o d,m,rfl,lB.mono (by decide),lod.mono (by decide),hm,lm.mono (by decide),?_⟩
  walk_at "go"
  refine⟨d,s,rfl,ld.mono (by decide),ls.mono (by decide),?_⟩
  walk_at "go"
  refine⟨tless t c m,crs d s,m,rfl,lB.mono (by decide),lds.mono (by decide),hm,lm.mono (by decide),?_⟩
  walk_at "go"
  refine⟨_,m,dotI (crs s o) d,1,congrArg (fun x=>[fr (dotI (tless t c m) (crs o d)) m,x]) (fr_one _),⟨hm,by decide,lS.mono (by decide),lm.mono (by decide),lW.mono (by decide),one9⟩,hW,?_⟩
  rw[Int.mul_one]
  walk_at "go"
  refine⟨_,m,dotI (crs s o) d,1,congrArg (fun x=>[fr (dotI (tless t c m) (crs d s)) m,x]) (fr_one _),⟨hm,by decide,lT.mono (by decide),lm.mono (by decide),lW.mono (by decide),one9⟩,hW,?_⟩
  rw[Int.mul_one]
  walk_at "go"
  exact q
abbrev pl2(s p t q:Int):T:=.tup [fr s p,fr t q]
abbrev spot(a d e s p t q:Int):Int:=a * (p * q) + (s * d * q + t * e * p)
def Z1H:SpT:=fun ts Q=>∃(as ds es:List T) (s p t q k a d e:Int),ts=[.tup [.tup as,.tup ds,.tup es],pl2 s p t q,.int k]/\atI as k=some (.int a)/\atI ds k=some (.int d)/\atI es k=some (.int e)/\Two 100 s p t q/\(Lim 100 a/\Lim 100 d/\Lim 100 e)/\Q (fr (spot a d e s p t q) (p * q))
theorem Z4D:∀ts Q,Z1H ts Q->ts.length=3:=by rintro ts Q ⟨_,_,_,_,_,_,_,_,_,_,_,e,_⟩;subst e;rfl
def Z3a:WS :=
 (sSeq (sSet 3 (wCall Z01 (aCons (w2 rIxTT (wVar 1) (wC (.int 0))) (aCons (wTup (aCons (w2 rIxTT (w2 rIxTT (wVar 0) (wC (.int 1))) (wVar 2)) (aCons (wC (.int 1)) aNil))) aNil))))
  (sSeq (sSet 4 (wCall Z01 (aCons (w2 rIxTT (wVar 1) (wC (.int 1))) (aCons (wTup (aCons (w2 rIxTT (w2 rIxTT (wVar 0) (wC (.int 2))) (wVar 2)) (aCons (wC (.int 1)) aNil))) aNil))))
  (sRet (wCall Z03 (aCons (wTup (aCons (w2 rIxTT (w2 rIxTT (wVar 0) (wC (.int 0))) (wVar 2)) (aCons (wC (.int 1)) aNil))) (aCons (wCall Z03 (aCons (wVar 3) (aCons (wVar 4) aNil))) aNil))))))
theorem spot_eq{a d e s p t q:Int}(hp:p≠0)(hq:q≠0):fr (a * (p * 1 * (q * 1)) + (s * d * (q * 1) + t * e * (p * 1)) * 1) (1 * (p * 1 * (q * 1)))=fr (spot a d e s p t q) (p * q):=by
 simp only[Int.mul_one,Int.one_mul]
theorem Z55:∀ts Q,Z1H ts Q->Z3a {nx:=fun _=>Q .non,rt:=Q} (startT 5 ts):=by
 rintro _ Q ⟨as,ds,es,s,p,t,q,k,a,d,e,rfl,ea,ed,ee,⟨hp,hq,ls,lp,lt,lq⟩,⟨la,ld,le⟩,h⟩
 have up:∀{i:Int},Lim 100 i->Lim 900 i:=fun h=>h.mono (by decide)
 have l1:Lim 900 (1:Int):=Lim.of (by decide) (by decide)
 have p1:p * 1≠0:=by rw[Int.mul_one];exact hp
 have q1:q * 1≠0:=by rw[Int.mul_one];exact hq
 have lp1:Lim 100 (p * 1):=by rw[Int.mul_one];exact lp
 have lq1:Lim 100 (q * 1):=by rw[Int.mul_one];exact lq
 unfold Z3a
 walk_at "go"
 rw[ed]
 walk_at "go"
 refine⟨s,p,d,1,congrArg (fun x=>[fr s p,x]) (fr_one d),Two.wd ⟨hp,by decide,up ls,up lp,up ld,l1⟩,?_⟩
 walk_at "go"
 rw[ee]
 walk_at "go"
 refine⟨t,q,e,1,congrArg (fun x=>[fr t q,x]) (fr_one e),Two.wd ⟨hq,by decide,up lt,up lq,up le,l1⟩,?_⟩
 walk_at "go"
 rw[ea]
 walk_at "go"
 refine⟨s * d,p * 1,t * e,q * 1,rfl,Two.wd ⟨p1,q1,(ls.mul ld).mono (by decide),up lp1,(lt.mul le).mono (by decide),up lq1⟩,?_⟩
 walk_at "go"
 refine⟨a,1,_,_,congrArg (fun x=>[x,_]) (fr_one a),Two.wd ⟨by decide,Int.mul_ne_zero p1 q1,up la,l1,(((ls.mul ld).mul lq1).add ((lt.mul le).mul lp1)).mono (by decide),(lp1.mul lq1).mono (by decide)⟩,?_⟩
 rw[spot_eq hp hq]
 exact h
def Z1a:SpT:=fun ts Q=>∃(a b c d e f x y z s p t q:Int),ts=[plt a b c d e f x y z,pl2 s p t q]/\Two 100 s p t q/\(Lim3 100 a b c/\Lim3 100 d e f/\Lim3 100 x y z)/\Q (.tup [fr (spot a d x s p t q) (p * q),fr (spot b e y s p t q) (p * q),fr (spot c f z s p t q) (p * q)])
theorem Z56:∀ts Q,Z1a ts Q->ts.length=2:=by rintro ts Q ⟨_,_,_,_,_,_,_,_,_,_,_,_,_,e,_⟩;subst e;rfl
def Z3z:WS :=
 (sRet (wCB rTupleT (aCons (wComp (iRange1 (aCons (wC (.int 3)) aNil)) (gN 0) tTrue (wCall Z1H (aCons (wVar 1) (aCons (wVar 2) (aCons (wVar 0) aNil)))) 1 [0,1]) aNil)))
theorem Z5n:∀ts Q,Z1a ts Q->Z3z {nx:=fun _=>Q .non,rt:=Q} (startT 2 ts):=by
 rintro _ Q ⟨a,b,c,d,e,f,x,y,z,s,p,t,q,rfl,tw,⟨⟨la,lb,lc⟩,⟨ld,le,lf⟩,⟨lx,ly,lz⟩⟩,h⟩
 unfold Z3z
 walk_at "go"
 refine⟨_,_,_,s,p,t,q,0,a,d,x,rfl,atI0 _ _,atI0 _ _,atI0 _ _,tw,⟨la,ld,lx⟩,?_⟩
 walk_at "go"
 refine⟨_,_,_,s,p,t,q,0 + 1,b,e,y,rfl,atI1 _ _ _,atI1 _ _ _,atI1 _ _ _,tw,⟨lb,le,ly⟩,?_⟩
 walk_at "go"
 refine⟨_,_,_,s,p,t,q,0 + 1 + 1,c,f,z,rfl,atI2 _ _ _ _,atI2 _ _ _ _,atI2 _ _ _ _,tw,⟨lc,lf,lz⟩,?_⟩
 walk_at "go"
 exact h
abbrev Pq:=Rat×Rat
theorem csc{α:Type}{a:α}{l l':List α}(h:List.Sublist l l'):List.Sublist (a::l) (a::l'):=List.cons_sublist_cons.mpr h
theorem mcm{α:Type}{a:α}{l:List α}(y:α)(h:a∈l):a∈y::l:=List.mem_cons_of_mem y h
theorem mcs{α:Type}{a:α}{l:List α}:a∈a::l:=List.mem_cons_self
def tq(a b c:Pq):Rat:=(b.1 - a.1) * (c.2 - a.2) - (b.2 - a.2) * (c.1 - a.1)
theorem tq_rot(a b c:Pq):tq b c a=tq a b c:=by simp only[tq];grind
theorem tq_aab(a b:Pq):tq a a b=0:=by simp only[tq];grind
theorem tq_aba(a b:Pq):tq a b a=0:=by simp only[tq];grind
theorem tq_abb(a b:Pq):tq a b b=0:=by simp only[tq];grind
theorem tq_neg(a b c:Pq):tq b a c=-tq a b c:=by simp only[tq];grind
def Af(f:Pq->Rat):Prop:=∃u v w:Rat,∀p:Pq,f p=u * p.1 + v * p.2 + w
theorem af_tq(a b:Pq):Af (tq a b):=⟨-(b.2 - a.2),b.1 - a.1,(b.2 - a.2) * a.1 - (b.1 - a.1) * a.2,fun p=>by simp only[tq];grind⟩
theorem Af.neg{f:Pq->Rat}(h:Af f):Af fun p=>-f p:=by
 obtain⟨u,v,w,e⟩:=h
 exact⟨-u,-v,-w,fun p=>by have:=e p;grind⟩
theorem Af.add{f g:Pq->Rat}(h:Af f)(k:Af g):Af fun p=>f p + g p:=by
 obtain⟨u,v,w,e⟩:=h
 obtain⟨u',v',w',e'⟩:=k
 exact⟨u + u',v + v',w + w',fun p=>by have:=e p;have:=e' p;grind⟩
def mid(t:Rat)(a b:Pq):Pq:=(a.1 + t * (b.1 - a.1),a.2 + t * (b.2 - a.2))
theorem Af.mid{f:Pq->Rat}(h:Af f)(t:Rat)(a b:Pq):f (mid t a b)=(1 - t) * f a + t * f b:=by
 obtain⟨u,v,w,e⟩:=h
 simp only[e,TL.mid]
 grind
theorem tq_m1(t:Rat)(a b c d:Pq):tq (mid t a b) c d=(1 - t) * tq a c d + t * tq b c d:=by simp only[tq,mid];grind
theorem tq_m2(t:Rat)(a b c d:Pq):tq c (mid t a b) d=(1 - t) * tq c a d + t * tq c b d:=by simp only[tq,mid];grind
theorem tq_m3(t:Rat)(a b c d:Pq):tq c d (mid t a b)=(1 - t) * tq c d a + t * tq c d b:=by simp only[tq,mid];grind
theorem af_bary{f:Pq->Rat}(h:Af f)(a b c q:Pq):tq a b c * f q=tq b c q * f a + tq c a q * f b + tq a b q * f c:=by
 obtain⟨u,v,w,e⟩:=h
 simp only[e,tq]
 grind
theorem af_four{f:Pq->Rat}(h:Af f)(a b c d:Pq):tq b c d * f a - tq a c d * f b + tq a b d * f c - tq a b c * f d=0:=by
 obtain⟨u,v,w,e⟩:=h
 simp only[e,tq]
 grind
theorem q_nn{a b:Rat}(ha:0<=a)(hb:0<=b):0<=a * b:=Rat.mul_nonneg ha hb
theorem q_pp{a b:Rat}(ha:0 < a)(hb:0 < b):0 < a * b:=Rat.mul_pos ha hb
theorem q_lt{a b:Rat}(hb:0 < b)(h:0 < b * a):0 < a:=by
 rcases Rat.le_total (a:=a) (b:=0) with z|z
 ·have:=q_nn (Rat.le_of_lt hb) (show 0 <= -a by grind)
  grind
 ·rcases Classical.em (a=0) with y|y
  ·rw[y]at h;grind
  ·grind
theorem q_le{a b:Rat}(hb:0 < b)(h:0<=b * a):0<=a:=by
 rcases Rat.le_total (a:=0) (b:=a) with z|z
 ·exact z
 ·rcases Classical.em (a=0) with y|y
  ·rw[y];grind
  ·have:=q_pp hb (show 0 < -a by grind)
   grind
theorem q_sg{a b:Rat}(h:a * b < 0):(0 < a/\b < 0)∨(a < 0/\0 < b):=by
 rcases Rat.le_total (a:=0) (b:=a) with z|z<;>rcases Rat.le_total (a:=0) (b:=b) with y|y
 ·have:=q_nn z y;grind
 ·refine .inl ⟨?_,?_⟩
  ·rcases Classical.em (a=0) with x|x
   ·rw[x]at h;grind
   ·grind
  ·rcases Classical.em (b=0) with x|x
   ·rw[x]at h;grind
   ·grind
 ·refine .inr ⟨?_,?_⟩
  ·rcases Classical.em (a=0) with x|x
   ·rw[x]at h;grind
   ·grind
  ·rcases Classical.em (b=0) with x|x
   ·rw[x]at h;grind
   ·grind
 ·have:=q_nn (show 0 <= -a by grind) (show 0 <= -b by grind);grind
theorem q_ng{a b:Rat}(ha:0 < a)(hb:b < 0):a * b < 0:=by
 have:=q_pp ha (show 0 < -b by grind)
 grind
def SCv(l:List Pq):Prop:=∀a b c,List.Sublist [a,b,c] l->0 < tq a b c
theorem SCv.sub{l l':List Pq}(h:SCv l)(s:List.Sublist l' l):SCv l':=fun a b c hs=>h a b c (hs.trans s)
theorem SCv.rot1{a:Pq}{r:List Pq}(h:SCv (a::r)):SCv (r++[a]):=by
 intro x y z hs
 obtain⟨l1,l2,e,h1,h2⟩:=List.sublist_append_iff.mp hs
 rcases List.sublist_cons_iff.mp h2 with z'|⟨r',rfl,z'⟩
 ·cases List.sublist_nil.mp z'
  rw[List.append_nil]at e
  subst e
  exact h x y z (h1.trans (List.sublist_cons_self _ _))
 ·cases List.sublist_nil.mp z'
  have e':[x,y]++[z]=l1++[a]:=e
  obtain⟨rfl,e2⟩:=List.append_inj' e' rfl
  cases e2
  rw[tq_rot]
  exact h _ x y (csc h1)
theorem SCv.rot:∀{A B:List Pq},SCv (A++B)->SCv (B++A)
 | [],B,h=>by rw[List.append_nil];exact h
 | a::A,B,h=>by
  have h1:SCv (A++(B++[a])):=by rw[← List.append_assoc];exact SCv.rot1 h
  have:=SCv.rot h1
  rw[List.append_assoc]at this
  exact this
theorem SCv.four{l:List Pq}{f:Pq->Rat}(h:SCv l)(hf:Af f){a b c d:Pq}(hs:List.Sublist [a,b,c,d] l)(ha:0<=f a)(hb:f b < 0)(hc:0<=f c)(hd:f d < 0):False:=by
 have e:=af_four hf a b c d
 have h1:=h b c d ((List.sublist_cons_self _ _).trans hs)
 have h2:=h a c d ((List.Sublist.cons_cons a (List.sublist_cons_self _ _)).trans hs)
 have h3:=h a b d ((List.Sublist.cons_cons a (List.Sublist.cons_cons b (List.sublist_cons_self _ _))).trans hs)
 have h4:=h a b c ((show List.Sublist [a,b,c] ([a,b,c]++[d]) from List.sublist_append_left _ _).trans hs)
 have g1:=q_nn (Rat.le_of_lt h1) ha
 have g2:=q_ng h2 hb
 have g3:=q_nn (Rat.le_of_lt h3) hc
 have g4:=q_ng h4 hd
 grind
theorem split_tf(g:Pq->Prop):∀l:List Pq,(∃A n p B,l=A++n::p::B/\¬ g n/\g p)∨(∃P N,l=P++N/\(∀p∈P,g p)/\∀n∈N,¬ g n)
 | []=>.inr ⟨[],[],rfl,by simp,by simp⟩
 | x::r=>by
  rcases split_tf g r with ⟨A,n,p,B,rfl,hn,hp⟩|⟨P,N,rfl,hP,hN⟩
  ·exact .inl ⟨x::A,n,p,B,rfl,hn,hp⟩
  ·rcases Classical.em (g x) with hx|hx
   ·exact .inr ⟨x::P,N,rfl,List.forall_mem_cons.mpr ⟨hx,hP⟩,hN⟩
   ·cases P with
    | nil=>exact .inr ⟨[],x::N,rfl,by simp,List.forall_mem_cons.mpr ⟨hx,hN⟩⟩
    | cons p P=>exact .inl ⟨[],x,p,P++N,rfl,hx,hP p mcs⟩
theorem SCv.pn{l:List Pq}{f:Pq->Rat}(h:SCv l)(hf:Af f):∃A B P N,l=A++B/\B++A=P++N/\(∀p∈P,0<=f p)/\∀n∈N,f n < 0:=by
 rcases split_tf (fun p=>0<=f p) l with ⟨A,n,p,B,rfl,hn,hp⟩|⟨P,N,rfl,hP,hN⟩
 ·have e:A++n::p::B=(A++[n])++(p::B):=by simp
  rw[e]at h ⊢
  have h':=h.rot
  rcases split_tf (fun p=>0<=f p) ((p::B)++(A++[n])) with ⟨A2,n2,p2,B2,e2,hn2,hp2⟩|⟨P,N,e2,hP,hN⟩
  ·exfalso
   cases A2 with
   | nil =>
    have:=(List.cons.inj e2).1
    subst this
    exact hn2 hp
   | cons x A2 =>
    have ex:=(List.cons.inj e2).1
    subst ex
    rcases List.eq_nil_or_concat B2 with rfl|⟨B3,m,rfl⟩
    ·have e3:(p::B++A)++[n]=(p::A2++[n2])++[p2]:=by simpa using e2
     have:=List.append_inj' e3 rfl
     have:=(List.cons.inj this.2).1
     subst this
     exact hn hp2
    ·have e3:(p::B++A)++[n]=(p::A2++n2::p2::B3)++[m]:=by simpa using e2
     have:=List.append_inj' e3 rfl
     have:=(List.cons.inj this.2).1
     subst this
     refine SCv.four (a:=p) (b:=n2) (c:=p2) (d:=n) h' hf ?_ hp (Rat.not_le.mp hn2) hp2 (Rat.not_le.mp hn)
     rw[e2]
     refine List.Sublist.cons_cons p ?_
     refine List.Sublist.trans ?_ (List.sublist_append_right _ _)
     refine List.Sublist.cons_cons _ (List.Sublist.cons_cons _ ?_)
     simp
  ·exact⟨A++[n],p::B,P,N,rfl,e2,hP,fun n hn=>Rat.not_le.mp (hN n hn)⟩
 ·exact⟨[],P++N,P,N,rfl,by simp,hP,fun n hn=>Rat.not_le.mp (hN n hn)⟩
def crq(f:Pq->Rat)(a b:Pq):Pq:=mid (f a / (f a - f b)) a b
def cuL(f:Pq->Rat):Pq->List Pq->List Pq
 | _,[]=>[]
 | a,b::r=>(if f a * f b < 0 then [crq f a b] else [])++((if 0<=f b then [b] else [])++cuL f b r)
def cuW(f:Pq->Rat):List Pq->List Pq
 | []=>[]
 | a::r=>cuL f (r.getLastD a) (a::r)
def edL:Pq->List Pq->List (Pq×Pq)
 | _,[]=>[]
 | a,b::r=>(a,b)::edL b r
def edW:List Pq->List (Pq×Pq)
 | []=>[]
 | a::r=>edL (r.getLastD a) (a::r)
theorem cuL_app(f:Pq->Rat):∀(a:Pq)(A B:List Pq),cuL f a (A++B)=cuL f a A++cuL f (A.getLastD a) B
 | a,[],B=>by simp[cuL]
 | a,b::A,B=>by
  rw[List.cons_append,cuL,cuL,cuL_app f b A B,List.getLastD_cons]
  simp only[List.append_assoc]
theorem edL_app:∀(a:Pq)(A B:List Pq),edL a (A++B)=edL a A++edL (A.getLastD a) B
 | a,[],B=>by simp[edL]
 | a,b::A,B=>by
  rw[List.cons_append,edL,edL,edL_app b A B,List.getLastD_cons]
  rfl
theorem cuW_eq(f:Pq->Rat){l:List Pq}(h:l≠[])(d:Pq):cuW f l=cuL f (l.getLastD d) l:=by
 cases l with
 | nil=>exact absurd rfl h
 | cons a r=>rw[cuW,List.getLastD_cons]
theorem edW_eq{l:List Pq}(h:l≠[])(d:Pq):edW l=edL (l.getLastD d) l:=by
 cases l with
 | nil=>exact absurd rfl h
 | cons a r=>rw[edW,List.getLastD_cons]
theorem getLastD_app{α:Type}{A B:List α}(h:B≠[])(d e:α):(A++B).getLastD d=B.getLastD e:=by
 cases B with
 | nil=>exact absurd rfl h
 | cons b B =>
  induction A generalizing d with
  | nil=>rw[List.nil_append,List.getLastD_cons,List.getLastD_cons]
  | cons a A ih=>rw[List.cons_append,List.getLastD_cons,ih]
theorem getLastD_mem{α:Type}{B:List α}(h:B≠[])(d:α):B.getLastD d∈B:=by
 cases B with
 | nil=>exact absurd rfl h
 | cons b B =>
  clear h
  induction B generalizing b d with
  | nil=>simp
  | cons c B ih =>
   rw[List.getLastD_cons]
   exact mcm _ (ih b c)
theorem cuW_rot(f:Pq->Rat)(A B:List Pq):∃C D,cuW f (A++B)=C++D/\cuW f (B++A)=D++C:=by
 by_cases ha:A=[]
 ·subst ha
  exact⟨cuW f B,[],by simp,by simp⟩
 by_cases hb:B=[]
 ·subst hb
  exact⟨cuW f A,[],by simp,by simp⟩
 have d:Pq:=(0,0)
 refine⟨cuL f (B.getLastD d) A,cuL f (A.getLastD d) B,?_,?_⟩
 ·rw[cuW_eq f (by simp[ha]) d,cuL_app,getLastD_app hb d d,show A.getLastD (B.getLastD d)=A.getLastD d from getLastD_app (A:=[]) ha _ _]
 ·rw[cuW_eq f (by simp[hb]) d,cuL_app,getLastD_app ha d d,show B.getLastD (A.getLastD d)=B.getLastD d from getLastD_app (A:=[]) hb _ _]
theorem edW_rot(A B:List Pq):∃C D,edW (A++B)=C++D/\edW (B++A)=D++C:=by
 by_cases ha:A=[]
 ·subst ha
  exact⟨edW B,[],by simp,by simp⟩
 by_cases hb:B=[]
 ·subst hb
  exact⟨edW A,[],by simp,by simp⟩
 have d:Pq:=(0,0)
 refine⟨edL (B.getLastD d) A,edL (A.getLastD d) B,?_,?_⟩
 ·rw[edW_eq (by simp[ha]) d,edL_app,getLastD_app hb d d,show A.getLastD (B.getLastD d)=A.getLastD d from getLastD_app (A:=[]) ha _ _]
 ·rw[edW_eq (by simp[hb]) d,edL_app,getLastD_app ha d d,show B.getLastD (A.getLastD d)=B.getLastD d from getLastD_app (A:=[]) hb _ _]
theorem edW_mem_rot{A B:List Pq}{e:Pq×Pq}:e∈edW (A++B) ↔ e∈edW (B++A):=by
 obtain⟨C,D,h1,h2⟩:=edW_rot A B
 rw[h1,h2]
 simp only[List.mem_append]
 exact Or.comm
theorem q_nlt{a b:Rat}(ha:0<=a)(hb:0<=b):¬ a * b < 0:=by have:=q_nn ha hb;grind
theorem q_nlt'{a b:Rat}(ha:a < 0)(hb:b < 0):¬ a * b < 0:=by have:=q_pp (show 0 < -a by grind) (show 0 < -b by grind);grind
theorem cuL_nn(f:Pq->Rat):∀(a:Pq)(r:List Pq),0<=f a->(∀p∈r,0<=f p)->cuL f a r=r
 | a,[],_,_=>rfl
 | a,b::r,ha,h=>by
  have hb:=h b mcs
  rw[cuL,cuL_nn f b r hb fun p hp=>h p (mcm _ hp),if_neg (q_nlt ha hb),if_pos hb]
  rfl
theorem cuL_ng(f:Pq->Rat):∀(a:Pq)(r:List Pq),f a < 0->(∀p∈r,f p < 0)->cuL f a r=[]
 | a,[],_,_=>rfl
 | a,b::r,ha,h=>by
  have hb:=h b mcs
  rw[cuL,cuL_ng f b r hb fun p hp=>h p (mcm _ hp),if_neg (q_nlt' ha hb),if_neg (by grind)]
  rfl
theorem cuW_nn(f:Pq->Rat){l:List Pq}(h:∀p∈l,0<=f p):cuW f l=l:=by
 cases l with
 | nil=>rfl
 | cons a r =>
  rw[cuW_eq f (by simp) a]
  exact cuL_nn f _ _ (h _ (getLastD_mem (by simp) _)) h
theorem cuW_ng(f:Pq->Rat){l:List Pq}(h:∀p∈l,f p < 0):cuW f l=[]:=by
 cases l with
 | nil=>rfl
 | cons a r =>
  rw[cuW_eq f (by simp) a]
  exact cuL_ng f _ _ (h _ (getLastD_mem (by simp) _)) h
theorem cuW_pn(f:Pq->Rat)(p1:Pq)(P:List Pq)(n1:Pq)(N:List Pq)(hP:∀p∈p1::P,0<=f p)(hN:∀n∈n1::N,f n < 0) :
  cuW f ((p1::P)++(n1::N))=(if f (N.getLastD n1) * f p1 < 0 then [crq f (N.getLastD n1) p1] else [])++((p1::P)++(if f (P.getLastD p1) * f n1 < 0 then [crq f (P.getLastD p1) n1] else [])):=by
 rw[cuW_eq f (by simp) p1,cuL_app,getLastD_app (by simp) _ p1,List.getLastD_cons,List.getLastD_cons]
 rw[cuL,cuL,cuL_nn f p1 P (hP _ mcs) (fun p hp=>hP p (mcm _ hp)),cuL_ng f n1 N (hN _ mcs) (fun p hp=>hN p (mcm _ hp))]
 rw[if_pos (hP p1 mcs),if_neg (show ¬ 0<=f n1 by have:=hN n1 mcs;grind)]
 simp only[List.append_assoc,List.append_nil,List.nil_append,List.cons_append]
theorem crq_mid{f:Pq->Rat}{a b:Pq}(h:f a * f b < 0):∃t,0 < t/\t < 1/\crq f a b=mid t a b:=by
 refine⟨f a / (f a - f b),?_,?_,rfl⟩
 ·rcases q_sg h with ⟨h1,h2⟩|⟨h1,h2⟩
  ·have e:(f a - f b) * (f a / (f a - f b))=f a:=by grind
   exact q_lt (b:=f a - f b) (by grind) (by rw[e];exact h1)
  ·have e:(f b - f a) * (f a / (f a - f b))=- f a:=by grind
   exact q_lt (b:=f b - f a) (by grind) (by rw[e];grind)
 ·have e1:1 - f a / (f a - f b)=- f b / (f a - f b):=by rcases q_sg h with ⟨h1,h2⟩|⟨h1,h2⟩<;>grind
  have:0 < 1 - f a / (f a - f b):=by
   rcases q_sg h with ⟨h1,h2⟩|⟨h1,h2⟩
   ·have e:(f a - f b) * (1 - f a / (f a - f b))=- f b:=by grind
    exact q_lt (b:=f a - f b) (by grind) (by rw[e];grind)
   ·have e:(f b - f a) * (1 - f a / (f a - f b))=f b:=by grind
    exact q_lt (b:=f b - f a) (by grind) (by rw[e];grind)
  grind
theorem crq_zero{f:Pq->Rat}(hf:Af f){a b:Pq}(h:f a * f b < 0):f (crq f a b)=0:=by
 unfold crq
 rw[hf.mid]
 have:f a - f b≠0:=by rcases q_sg h with ⟨h1,h2⟩|⟨h1,h2⟩<;>grind
 grind
theorem last_form{α:Type}:∀(a:α)(r:List α),∃I,a::r=I++[r.getLastD a]
 | a,[]=>⟨[],rfl⟩
 | a,b::r=>by
  obtain⟨I,e⟩:=last_form b r
  exact⟨a::I,by rw[List.getLastD_cons];exact congrArg (a :: ·) e⟩
theorem two_sub{α:Type}{a:α}{r:List α}{x y:α}(h:List.Sublist [x,y] (a::r)):(x=a/\y∈r)∨List.Sublist [x,y] r:=by
 rcases List.sublist_cons_iff.mp h with z|⟨r',e,z⟩
 ·exact .inr z
 ·cases e
  exact .inl ⟨rfl,List.singleton_sublist.mp z⟩
theorem two_sub'{α:Type}{b:α}{r:List α}{x y:α}(h:List.Sublist [x,y] (r++[b])):(y=b/\x∈r)∨List.Sublist [x,y] r:=by
 obtain⟨l1,l2,e,h1,h2⟩:=List.sublist_append_iff.mp h
 rcases List.sublist_cons_iff.mp h2 with z|⟨r',rfl,z⟩
 ·cases List.sublist_nil.mp z
  rw[List.append_nil]at e
  subst e
  exact .inr h1
 ·cases List.sublist_nil.mp z
  have e':[x]++[y]=l1++[b]:=e
  obtain⟨rfl,e2⟩:=List.append_inj' e' rfl
  cases e2
  exact .inl ⟨rfl,List.singleton_sublist.mp h1⟩
section
variable {p1 n1:Pq} {P N:List Pq}
theorem SCv.w1(h:SCv ((p1::P)++(n1::N))){p p':Pq}(hs:List.Sublist [p,p'] (p1::P)):0<=tq p1 p p':=by
 rcases two_sub hs with ⟨rfl,_⟩|z
 ·rw[tq_aab];exact Rat.le_refl
 ·exact Rat.le_of_lt (h _ _ _ ((csc z).trans (List.sublist_append_left _ _)))
theorem SCv.w2(h:SCv ((p1::P)++(n1::N))){p p':Pq}(hs:List.Sublist [p,p'] (p1::P)):0<=tq p p' (P.getLastD p1):=by
 obtain⟨I,e⟩:=last_form p1 P
 rw[e]at hs h
 rcases two_sub' hs with ⟨rfl,_⟩|z
 ·rw[tq_abb];exact Rat.le_refl
 ·exact Rat.le_of_lt (h _ _ _ ((List.Sublist.append z (List.Sublist.refl [P.getLastD p1])).trans (List.sublist_append_left _ _)))
theorem SCv.w3(h:SCv ((p1::P)++(n1::N))){p p' n:Pq}(hs:List.Sublist [p,p'] (p1::P))(hn:n∈n1::N):0 < tq p p' n :=
 h _ _ _ (List.Sublist.append hs (List.singleton_sublist.mpr hn))
theorem SCv.w4(h:SCv ((p1::P)++(n1::N))){p:Pq}(hp:p∈p1::P):0<=tq p1 p (P.getLastD p1):=by
 rcases List.mem_cons.mp hp with rfl|hp
 ·rw[tq_aab];exact Rat.le_refl
 ·exact h.w2 (csc (List.singleton_sublist.mpr hp))
theorem SCv.w5(h:SCv ((p1::P)++(n1::N))){p:Pq}(hp:p∈p1::P):0<=tq p n1 (N.getLastD n1):=by
 cases N with
 | nil=>rw[List.getLastD_nil,tq_abb];exact Rat.le_refl
 | cons n N =>
  refine Rat.le_of_lt (h _ _ _ (List.Sublist.append (List.singleton_sublist.mpr hp) (csc (List.singleton_sublist.mpr ?_))))
  rw[List.getLastD_cons]
  have:=getLastD_mem (B:=n::N) (by simp) n
  rwa [List.getLastD_cons]at this
theorem last_mem{α:Type}(a:α)(r:List α):r.getLastD a∈a::r:=by
 have:=getLastD_mem (B:=a::r) (by simp) a
 rwa [List.getLastD_cons]at this
theorem q_mix{t x y:Rat}(h0:0 < t)(h1:t < 1)(hx:0<=x)(hy:0 < y):0 < (1 - t) * x + t * y:=by
 have a:=q_nn (show 0<=1 - t by grind) hx
 have b:=q_pp h0 hy
 grind
theorem q_mix'{t x y:Rat}(h0:0 < t)(h1:t < 1)(hx:0 < x)(hy:0<=y):0 < (1 - t) * x + t * y:=by
 have a:=q_pp (show 0 < 1 - t by grind) hx
 have b:=q_nn (Rat.le_of_lt h0) hy
 grind
theorem q_mix0{t x y:Rat}(h0:0<=t)(h1:t<=1)(hx:0<=x)(hy:0<=y):0<=(1 - t) * x + t * y:=by
 have a:=q_nn (show 0<=1 - t by grind) hx
 have b:=q_nn h0 hy
 grind
theorem SCv.x1(h:SCv ((p1::P)++(n1::N))){p p':Pq}{t:Rat}(h0:0 < t)(h1:t < 1)(hs:List.Sublist [p,p'] (p1::P)):0 < tq (mid t (N.getLastD n1) p1) p p':=by
 rw[tq_m1]
 refine q_mix' h0 h1 ?_ (h.w1 hs)
 rw[← tq_rot]
 exact h.w3 hs (last_mem _ _)
theorem SCv.x2(h:SCv ((p1::P)++(n1::N))){p p':Pq}{t:Rat}(h0:0 < t)(h1:t < 1)(hs:List.Sublist [p,p'] (p1::P)):0 < tq p p' (mid t (P.getLastD p1) n1):=by
 rw[tq_m3]
 exact q_mix h0 h1 (h.w2 hs) (h.w3 hs mcs)
theorem SCv.x3(h:SCv ((p1::P)++(n1::N)))(hl:3<=((p1::P)++(n1::N)).length){p:Pq}{t s:Rat}(h0:0 < t)(h1:t < 1)(s0:0 < s)(s1:s < 1)(hp:p∈p1::P) :
  0 < tq (mid t (N.getLastD n1) p1) p (mid s (P.getLastD p1) n1):=by
 have a1:0<=tq (N.getLastD n1) p (P.getLastD p1)/\(p∈P->0<=tq p1 p n1):=by
  refine⟨?_,fun hp=>Rat.le_of_lt (h.w3 (csc (List.singleton_sublist.mpr hp)) mcs)⟩
  obtain⟨I,e⟩:=last_form p1 P
  rw[← tq_rot]
  rw[e]at hp
  rcases List.mem_append.mp hp with z|z
  ·refine Rat.le_of_lt (h.w3 ?_ (last_mem _ _))
   rw[e]
   exact List.Sublist.append (List.singleton_sublist.mpr z) (List.Sublist.refl _)
  ·rw[List.mem_singleton.mp z,tq_aab];exact Rat.le_refl
 have a2:0<=tq (N.getLastD n1) p n1:=by rw[← tq_rot];exact h.w5 hp
 have a3:=h.w4 hp
 have a4:0<=tq p1 p n1:=by
  rcases List.mem_cons.mp hp with rfl|hp
  ·rw[tq_aab];exact Rat.le_refl
  ·exact a1.2 hp
 rw[tq_m1,tq_m3,tq_m3]
 cases N with
 | cons n N =>
  have:0 < tq ((n::N).getLastD n1) p n1:=by
   rw[← tq_rot]
   refine h _ _ _ (List.Sublist.append (List.singleton_sublist.mpr hp) (csc (List.singleton_sublist.mpr ?_)))
   rw[List.getLastD_cons]
   exact last_mem _ _
  exact q_mix' h0 h1 (q_mix s0 s1 a1.1 this) (q_mix0 (Rat.le_of_lt s0) (Rat.le_of_lt s1) a3 a4)
 | nil =>
  rcases List.mem_cons.mp hp with rfl|hp'
  ·cases P with
   | nil=>simp at hl
   | cons p2 P =>
    have:0 < tq (List.getLastD [] n1) p ((p2::P).getLastD p):=by
     rw[← tq_rot]
     refine h.w3 (csc (List.singleton_sublist.mpr ?_)) (by simp)
     rw[List.getLastD_cons]
     exact last_mem _ _
    exact q_mix' h0 h1 (q_mix' s0 s1 this a2) (q_mix0 (Rat.le_of_lt s0) (Rat.le_of_lt s1) a3 a4)
  ·have:0 < tq p1 p n1:=h.w3 (csc (List.singleton_sublist.mpr hp')) mcs
   exact q_mix h0 h1 (q_mix0 (Rat.le_of_lt s0) (Rat.le_of_lt s1) a1.1 a2) (q_mix s0 s1 a3 this)
theorem one_sub{α:Type}{c:Prop} [Decidable c] {x:α} {l:List α} (h:List.Sublist l (if c then [x] else [])):l=[]∨(c/\l=[x]):=by
 by_cases hc:c
 ·rw[if_pos hc]at h
  rcases List.sublist_cons_iff.mp h with z|⟨r',rfl,z⟩
  ·exact .inl (List.sublist_nil.mp z)
  ·cases List.sublist_nil.mp z
   exact .inr ⟨hc,rfl⟩
 ·rw[if_neg hc]at h
  exact .inl (List.sublist_nil.mp h)
theorem SCv.cut_pn{f:Pq->Rat}(h:SCv ((p1::P)++(n1::N)))(hl:3<=((p1::P)++(n1::N)).length) :
  SCv ((if f (N.getLastD n1) * f p1 < 0 then [crq f (N.getLastD n1) p1] else [])++((p1::P)++(if f (P.getLastD p1) * f n1 < 0 then [crq f (P.getLastD p1) n1] else []))):=by
 intro a b c hs
 obtain⟨l1,l',e,g1,g'⟩:=List.sublist_append_iff.mp hs
 obtain⟨l2,l3,rfl,g2,g3⟩:=List.sublist_append_iff.mp g'
 rcases one_sub g1 with rfl|⟨c1,rfl⟩<;>rcases one_sub g3 with rfl|⟨c3,rfl⟩
 ·simp only[List.nil_append,List.append_nil]at e
  subst e
  exact h _ _ _ (g2.trans (List.sublist_append_left _ _))
 ·obtain⟨t,t0,t1,et⟩:=crq_mid c3
  have e':[a,b]++[c]=l2++[crq f (P.getLastD p1) n1]:=e
  obtain⟨rfl,e2⟩:=List.append_inj' e' rfl
  cases e2
  rw[et]
  exact h.x2 t0 t1 g2
 ·obtain⟨t,t0,t1,et⟩:=crq_mid c1
  rw[List.append_nil]at e
  cases e
  rw[et]
  exact h.x1 t0 t1 g2
 ·obtain⟨t,t0,t1,et⟩:=crq_mid c1
  obtain⟨s,s0,s1,es⟩:=crq_mid c3
  obtain⟨rfl,e3⟩:=List.cons.inj e
  have e':[b]++[c]=l2++[crq f (P.getLastD p1) n1]:=e3
  obtain⟨rfl,e2⟩:=List.append_inj' e' rfl
  cases e2
  rw[et,es]
  exact h.x3 hl t0 t1 s0 s1 (List.singleton_sublist.mp g2)
end
theorem SCv.cut{l:List Pq}{f:Pq->Rat}(h:SCv l)(hl:3<=l.length)(hf:Af f)(hp:∃p∈l,0 < f p):SCv (cuW f l)/\3<=(cuW f l).length:=by
 obtain⟨A,B,P,N,rfl,e,hP,hN⟩:=h.pn hf
 obtain⟨p,hp,fp⟩:=hp
 have hpB:p∈P++N:=by
  rw[← e]
  rcases List.mem_append.mp hp with z|z
  ·exact List.mem_append_right _ z
  ·exact List.mem_append_left _ z
 have hpP:p∈P:=by
  rcases List.mem_append.mp hpB with z|z
  ·exact z
  ·have:=hN p z;grind
 have h':SCv (P++N):=by rw[← e];exact h.rot
 have hl':3<=(P++N).length:=by rw[← e];simp at hl ⊢;omega
 obtain⟨C,D,e1,e2⟩:=cuW_rot f A B
 rw[e1]
 rw[e]at e2
 have key:SCv (D++C)/\3<=(D++C).length:=by
  rw[← e2]
  cases N with
  | nil =>
   rw[List.append_nil]at h' hl' ⊢
   rw[cuW_nn f hP]
   exact⟨h',hl'⟩
  | cons n1 N =>
   cases P with
   | nil=>simp at hpP
   | cons p1 P =>
    rw[cuW_pn f p1 P n1 N hP hN]
    refine⟨h'.cut_pn hl',?_⟩
    have hn1:=hN n1 mcs
    have hnk:=hN _ (last_mem n1 N)
    cases P with
    | nil =>
     rw[List.mem_singleton.mp hpP]at fp
     rw[if_pos (by have:=q_ng fp hnk;grind),List.getLastD_nil,if_pos (q_ng fp hn1)]
     simp
    | cons p2 P =>
     cases P with
     | cons p3 P=>simp;omega
     | nil =>
      rcases List.mem_cons.mp hpP with rfl|z
      ·rw[if_pos (by have:=q_ng fp hnk;grind)]
       simp
      ·rw[List.mem_singleton.mp z]at fp
       rw[if_pos (show f ([p2].getLastD p1) * f n1 < 0 from q_ng fp hn1)]
       simp
 refine⟨key.1.rot,?_⟩
 have:=key.2
 simp at this ⊢
 omega
theorem edL_mem:∀{a:Pq}{r:List Pq}{e:Pq×Pq},e∈edL a r->∃A B,a::r=A++e.1::e.2::B
 | a,[],e,h=>by simp[edL]at h
 | a,b::r,e,h=>by
  rcases List.mem_cons.mp h with rfl|h
  ·exact⟨[],r,rfl⟩
  ·obtain⟨A,B,e'⟩:=edL_mem h
   exact⟨a::A,B,congrArg (a :: ·) e'⟩
theorem edW_mem{l:List Pq}{e:Pq×Pq}(hl:2<=l.length)(h:e∈edW l):∃A B r,l=A++B/\B++A=e.1::e.2::r:=by
 cases l with
 | nil=>simp at hl
 | cons a r =>
  rw[edW,edL]at h
  rcases List.mem_cons.mp h with rfl|h
  ·cases r with
   | nil=>simp at hl
   | cons b r =>
    obtain⟨I,ei⟩:=last_form b r
    exact⟨a::I,[r.getLastD b],I,congrArg (a :: ·) ei,by rw[List.getLastD_cons];rfl⟩
  ·obtain⟨A,B,e'⟩:=edL_mem h
   exact⟨A,e.1::e.2::B,B++A,e',rfl⟩
def Inq(l:List Pq)(q:Pq):Prop:=∀e∈edW l,0<=tq e.1 e.2 q
theorem inq_rot{A B:List Pq}{q:Pq}:Inq (A++B) q ↔ Inq (B++A) q :=
 ⟨fun h e he=>h e (edW_mem_rot.mpr he),fun h e he=>h e (edW_mem_rot.mp he)⟩
theorem SCv.inq{l:List Pq}(h:SCv l)(hl:2<=l.length){v:Pq}(hv:v∈l):Inq l v:=by
 intro e he
 obtain⟨A,B,r,rfl,e2⟩:=edW_mem hl he
 have h':=h.rot
 have hv':v∈B++A:=by
  rcases List.mem_append.mp hv with z|z
  ·exact List.mem_append_right _ z
  ·exact List.mem_append_left _ z
 rw[e2]at h' hv'
 rcases List.mem_cons.mp hv' with rfl|hv'
 ·rw[tq_aba];exact Rat.le_refl
 ·rcases List.mem_cons.mp hv' with rfl|hv'
  ·rw[tq_abb];exact Rat.le_refl
  ·exact Rat.le_of_lt (h' _ _ _ (csc (csc (List.singleton_sublist.mpr hv'))))
theorem fan(p q:Pq):∀(b:Pq)(r:List Pq),(∀e∈edL b r,0<=tq e.1 e.2 q)->0<=tq p b q->tq p (r.getLastD b) q<=0->(r≠[]∨0 < tq p b q)->∃c d,List.Sublist [c,d] (b::r)/\0<=tq p c q/\0<=tq c d q/\tq p d q<=0
 | b,[],_,h1,h2,h3=>by
  rcases h3 with h3|h3
  ·exact absurd rfl h3
  ·rw[List.getLastD_nil]at h2;grind
 | b,c::r,he,h1,h2,h3=>by
  rw[List.getLastD_cons]at h2
  rcases Rat.le_total (a:=tq p c q) (b:=0) with z|z
  ·exact⟨b,c,csc (csc (List.nil_sublist _)),h1,he _ mcs,z⟩
  ·by_cases y:tq p c q<=0
   ·exact⟨b,c,csc (csc (List.nil_sublist _)),h1,he _ mcs,y⟩
   ·obtain⟨x,w,hs,k1,k2,k3⟩:=fan p q c r (fun e h=>he e (mcm _ h)) z h2 (.inr (Rat.not_le.mp y))
    exact⟨x,w,hs.trans (List.sublist_cons_self _ _),k1,k2,k3⟩
theorem hull{l:List Pq}(hl:3<=l.length){q:Pq}(hq:Inq l q):∃a b c,List.Sublist [a,b,c] l/\0<=tq a b q/\0<=tq b c q/\0<=tq c a q:=by
 cases l with
 | nil=>simp at hl
 | cons p r =>
  cases r with
  | nil=>simp at hl
  | cons b r =>
   unfold Inq at hq
   rw[edW,edL,edL]at hq
   have h0:=hq _ mcs
   have h1:=hq _ (mcm _ mcs)
   rw[List.getLastD_cons]at h0
   obtain⟨c,d,hs,k1,k2,k3⟩:=fan p q b r (fun e h=>hq e (mcm _ (mcm _ h))) h1 (by rw[tq_neg]at h0;grind) (by cases r with|nil=>simp at hl|cons _ _=>simp)
   exact⟨p,c,d,csc hs,k1,k2,by rw[tq_neg];grind⟩
theorem sub3_mem{α:Type}{a b c:α}{l:List α}(h:List.Sublist [a,b,c] l):a∈l/\b∈l/\c∈l :=
 ⟨h.subset (by simp),h.subset (by simp),h.subset (by simp)⟩
theorem hull_nn{l:List Pq}{f:Pq->Rat}(h:SCv l)(hl:3<=l.length)(hf:Af f)(hp:∀p∈l,0<=f p){q:Pq}(hq:Inq l q):0<=f q:=by
 obtain⟨a,b,c,hs,k1,k2,k3⟩:=hull hl hq
 have hm:=sub3_mem hs
 refine q_le (h a b c hs) ?_
 rw[af_bary hf]
 have g1:=q_nn k2 (hp _ hm.1)
 have g2:=q_nn k3 (hp _ hm.2.1)
 have g3:=q_nn k1 (hp _ hm.2.2)
 grind
theorem hull_pos{l:List Pq}{f:Pq->Rat}(h:SCv l)(hl:3<=l.length)(hf:Af f)(hp:∀p∈l,0 < f p){q:Pq}(hq:Inq l q):0 < f q:=by
 obtain⟨a,b,c,hs,k1,k2,k3⟩:=hull hl hq
 have hm:=sub3_mem hs
 obtain⟨x,x0,xa,xb,xc⟩:∃x,0 < x/\x<=f a/\x<=f b/\x<=f c:=by
  have ha:=hp _ hm.1
  have hb:=hp _ hm.2.1
  have hc:=hp _ hm.2.2
  rcases Rat.le_total (a:=f a) (b:=f b) with z|z
  ·rcases Rat.le_total (a:=f a) (b:=f c) with y|y
   ·exact⟨f a,ha,Rat.le_refl,z,y⟩
   ·exact⟨f c,hc,y,by grind,Rat.le_refl⟩
  ·rcases Rat.le_total (a:=f b) (b:=f c) with y|y
   ·exact⟨f b,hb,z,Rat.le_refl,y⟩
   ·exact⟨f c,hc,by grind,y,Rat.le_refl⟩
 refine q_lt (h a b c hs) ?_
 rw[af_bary hf]
 have D:=h a b c hs
 have e:tq a b c=tq b c q + tq c a q + tq a b q:=by simp only[tq];grind
 have g1:=q_nn k2 (show 0<=f a - x by grind)
 have g2:=q_nn k3 (show 0<=f b - x by grind)
 have g3:=q_nn k1 (show 0<=f c - x by grind)
 have g4:=q_pp D x0
 rw[e]at g4
 grind
def Rl(f:Pq->Rat)(a z:Pq):Prop:=(0<=f a->z=a)/\(f a < 0->f z=0)
theorem gld_app{α:Type}:∀(A B:List α)(z:α),(A++B).getLastD z=B.getLastD (A.getLastD z)
 | [],B,z=>rfl
 | a::A,B,z=>by rw[List.cons_append,List.getLastD_cons,gld_app A B a,List.getLastD_cons]
theorem rl_step{f:Pq->Rat}(hf:Af f){a b z:Pq}(h:Rl f a z):Rl f b ((if 0<=f b then [b] else []).getLastD ((if f a * f b < 0 then [crq f a b] else []).getLastD z)):=by
 refine⟨fun hb=>by rw[if_pos hb];rfl,fun hb=>?_⟩
 rw[if_neg (Rat.not_le.mpr hb),List.getLastD_nil]
 by_cases c:f a * f b < 0
 ·rw[if_pos c]
  exact crq_zero hf c
 ·rw[if_neg c,List.getLastD_nil]
  rcases Rat.le_total (a:=0) (b:=f a) with y|y
  ·rw[h.1 y]
   by_cases x:f a=0
   ·exact x
   ·exact absurd (q_ng (show 0 < f a by grind) hb) c
  ·by_cases x:f a=0
   ·rw[h.1 (by grind)];exact x
   ·exact h.2 (by grind)
theorem cu_last{f:Pq->Rat}(hf:Af f):∀(a:Pq)(r:List Pq)(z:Pq),Rl f a z->Rl f (r.getLastD a) ((cuL f a r).getLastD z)
 | a,[],z,h=>h
 | a,b::r,z,h=>by
  rw[cuL,← List.append_assoc,gld_app,gld_app,List.getLastD_cons]
  exact cu_last hf b r _ (rl_step hf h)
def Sube(e e':Pq×Pq):Prop:=∃s t:Rat,0<=s/\s<=t/\t<=1/\e.1=mid s e'.1 e'.2/\e.2=mid t e'.1 e'.2
theorem mid0(a b:Pq):mid 0 a b=a:=by unfold mid;ext<;>simp<;>grind
theorem mid1(a b:Pq):mid 1 a b=b:=by unfold mid;ext<;>simp<;>grind
theorem cu_edges{f:Pq->Rat}(hf:Af f):∀(a:Pq)(r:List Pq)(z:Pq),Rl f a z->∀e∈edL z (cuL f a r),(∃e'∈edL a r,Sube e e')∨(f e.1=0/\f e.2=0)
 | a,[],z,h,e,he=>by simp[cuL,edL]at he
 | a, b::r,z,h,e,he=>by
  rw[cuL,← List.append_assoc,edL_app,gld_app]at he
  rcases List.mem_append.mp he with he|he
  ·by_cases c:f a * f b < 0
   ·obtain⟨t,t0,t1,et⟩:=crq_mid c
    rw[if_pos c]at he
    rcases q_sg c with ⟨ha,hb⟩|⟨ha,hb⟩
    ·rw[if_neg (Rat.not_le.mpr hb)]at he
     simp only[List.append_nil,edL,List.mem_singleton]at he
     subst he
     exact .inl ⟨(a,b),mcs,0,t,Rat.le_refl,Rat.le_of_lt t0,Rat.le_of_lt t1,by rw[mid0];exact h.1 (Rat.le_of_lt ha),et⟩
    ·rw[if_pos (Rat.le_of_lt hb)]at he
     simp only[List.cons_append,List.nil_append,edL,List.mem_cons,List.not_mem_nil,or_false]at he
     rcases he with rfl|rfl
     ·exact .inr ⟨h.2 ha,crq_zero hf c⟩
     ·exact .inl ⟨(a,b),mcs,t,1,Rat.le_of_lt t0,Rat.le_of_lt t1,Rat.le_refl,et,by rw[mid1]⟩
   ·rw [if_neg c]at he
    by_cases hb:0<=f b
    ·rw[if_pos hb]at he
     simp only[List.nil_append,edL,List.mem_singleton]at he
     subst he
     by_cases ha:0<=f a
     ·exact .inl ⟨(a,b),mcs,0,1,Rat.le_refl,by grind,Rat.le_refl,by rw[mid0];exact h.1 ha,by rw[mid1]⟩
     ·refine .inr ⟨h.2 (Rat.not_le.mp ha),?_⟩
      by_cases x:f b=0
      ·exact x
      ·have:=q_ng (show 0 < f b by grind) (Rat.not_le.mp ha)
       exact absurd (by grind) c
    ·rw[if_neg hb]at he
     simp[edL]at he
  ·rcases cu_edges hf b r _ (rl_step hf h) e he with ⟨e',m,s⟩|z
   ·exact .inl ⟨e',mcm _ m,s⟩
   ·exact .inr z
theorem cuW_edges{f:Pq->Rat}(hf:Af f)(hz:∃z,f z=0)(l:List Pq):∀e∈edW (cuW f l),(∃e'∈edW l,Sube e e')∨(f e.1=0/\f e.2=0):=by
 intro e he
 cases l with
 | nil=>simp[cuW,edW]at he
 | cons a r =>
  obtain⟨z,hz⟩:=hz
  obtain⟨z1,h1⟩:∃z1,Rl f (r.getLastD a) z1:=by
   by_cases c:0<=f (r.getLastD a)
   ·exact⟨_,fun _=>rfl,fun h=>absurd c (Rat.not_le.mpr h)⟩
   ·exact⟨z,fun h=>absurd h c,fun _=>hz⟩
  have h2:=cu_last hf _ (a::r) z1 h1
  rw[List.getLastD_cons]at h2
  by_cases c:cuW f (a::r)=[]
  ·rw[c]at he;simp[edW]at he
  ·rw[edW_eq c z1]at he
   rw[cuW]at he
   exact cu_edges hf _ (a::r) _ h2 e he
theorem cu_mem{f:Pq->Rat}:∀(a:Pq)(r:List Pq){v:Pq},v∈cuL f a r->(v∈r/\0<=f v)∨∃e∈edL a r,f e.1 * f e.2 < 0/\v=crq f e.1 e.2
 | a,[],v,h=>by simp[cuL]at h
 | a,b::r,v,h=>by
  rw[cuL]at h
  rcases List.mem_append.mp h with h|h
  ·by_cases c:f a * f b < 0
   ·rw[if_pos c]at h
    exact .inr ⟨(a,b),mcs,c,List.mem_singleton.mp h⟩
   ·rw[if_neg c]at h;simp at h
  ·rcases List.mem_append.mp h with h|h
   ·by_cases c:0<=f b
    ·rw[if_pos c]at h
     rw[List.mem_singleton.mp h]
     exact .inl ⟨mcs,c⟩
    ·rw[if_neg c]at h;simp at h
   ·rcases cu_mem b r h with ⟨m,h0⟩|⟨e,m,h0⟩
    ·exact .inl ⟨mcm _ m,h0⟩
    ·exact .inr ⟨e,mcm _ m,h0⟩
theorem cuW_mem{f:Pq->Rat}{l:List Pq}{v:Pq}(h:v∈cuW f l):(v∈l/\0<=f v)∨∃e∈edW l,f e.1 * f e.2 < 0/\v=crq f e.1 e.2:=by
 cases l with
 | nil=>simp[cuW]at h
 | cons a r=>exact cu_mem _ _ h
theorem cu_keep{f:Pq->Rat}:∀(a:Pq)(r:List Pq){v:Pq},v∈r->0<=f v->v∈cuL f a r
 | a,[],v,h,_=>by simp at h
 | a,b::r,v,h,h0=>by
  rw[cuL]
  rcases List.mem_cons.mp h with rfl|h
  ·rw[if_pos h0];simp
  ·exact List.mem_append_right _ (List.mem_append_right _ (cu_keep b r h h0))
theorem cuW_keep{f:Pq->Rat}{l:List Pq}{v:Pq}(h:v∈l)(h0:0<=f v):v∈cuW f l:=by
 cases l with
 | nil=>simp at h
 | cons a r=>exact cu_keep _ _ h h0
theorem ed_ends:∀{a:Pq}{r:List Pq}{e:Pq×Pq},e∈edL a r->e.1∈a::r/\e.2∈r
 | a,[],e,h=>by simp[edL]at h
 | a,b::r,e,h=>by
  rcases List.mem_cons.mp h with rfl|h
  ·simp
  ·have:=ed_ends h
   exact⟨mcm _ this.1,mcm _ this.2⟩
theorem edW_ends{l:List Pq}{e:Pq×Pq}(h:e∈edW l):e.1∈l/\e.2∈l:=by
 cases l with
 | nil=>simp[edW]at h
 | cons a r =>
  have:=ed_ends h
  refine⟨?_,this.2⟩
  rcases List.mem_cons.mp this.1 with z|z
  ·rw[z];exact last_mem _ _
  ·exact z
theorem sube_tq{e e':Pq×Pq}(h:Sube e e'):∃k,0<=k/\∀q,tq e.1 e.2 q=k * tq e'.1 e'.2 q:=by
 obtain⟨s,t,h0,h1,h2,e1,e2⟩:=h
 refine⟨t - s,by grind,fun q=>?_⟩
 rw[e1,e2]
 simp only[tq,mid]
 grind
theorem SCv.cut_in{l:List Pq}{f:Pq->Rat}(h:SCv l)(hl:3<=l.length)(hf:Af f)(hz:∃z,f z=0)(hp:∃p∈l,0 < f p)(q:Pq):Inq (cuW f l) q ↔ Inq l q/\0<=f q:=by
 obtain⟨h',hl'⟩:=h.cut hl hf hp
 constructor
 ·intro hq
  refine⟨fun e he=>?_,?_⟩
  ·refine hull_nn h' hl' (af_tq e.1 e.2) (fun v hv=>?_) hq
   rcases cuW_mem hv with ⟨m,_⟩|⟨e2,m,c,rfl⟩
   ·exact h.inq (by omega) m e he
   ·obtain⟨t,t0,t1,et⟩:=crq_mid c
    have:=edW_ends m
    rw[et,tq_m3]
    exact q_mix0 (Rat.le_of_lt t0) (Rat.le_of_lt t1) (h.inq (by omega) this.1 e he) (h.inq (by omega) this.2 e he)
  ·refine hull_nn h' hl' hf (fun v hv=>?_) hq
   rcases cuW_mem hv with ⟨m,c⟩|⟨e2,m,c,rfl⟩
   ·exact c
   ·rw[crq_zero hf c];exact Rat.le_refl
 ·rintro ⟨hq,fq⟩ e he
  rcases cuW_edges hf hz l e he with ⟨e',m,s⟩|⟨z1,z2⟩
  ·obtain⟨k,k0,ke⟩:=sube_tq s
   rw[ke]
   exact q_nn k0 (hq _ m)
  ·obtain⟨v,hv,fv⟩:=hp
   have g:=h'.inq (by omega) (cuW_keep hv (Rat.le_of_lt fv)) e he
   have i:=af_four hf e.1 e.2 q v
   rw[z1,z2]at i
   refine q_le fv ?_
   have:=q_nn g fq
   grind
def Flt(l:List Pq):Prop:=∀a∈l,∀b∈l,∀c∈l,tq a b c=0
theorem Flt.cut{l:List Pq}{f:Pq->Rat}(h:Flt l):Flt (cuW f l):=by
 have k:∀{v:Pq},v∈cuW f l->∃a∈l,∃b∈l,∃t,v=mid t a b:=fun hv=>by
  rcases cuW_mem hv with ⟨m,_⟩|⟨e,m,c,rfl⟩
  ·exact⟨_,m,_,m,0,by rw[mid0]⟩
  ·have:=edW_ends m
   exact⟨_,this.1,_,this.2,_,rfl⟩
 intro a ha b hb c hc
 obtain⟨a1,m1,a2,m2,s,rfl⟩:=k ha
 obtain⟨b1,m3,b2,m4,t,rfl⟩:=k hb
 obtain⟨c1,m5,c2,m6,u,rfl⟩:=k hc
 simp only[tq_m1,tq_m2,tq_m3,h _ m1 _ m3 _ m5,h _ m1 _ m3 _ m6,h _ m1 _ m4 _ m5,h _ m1 _ m4 _ m6,h _ m2 _ m3 _ m5,h _ m2 _ m3 _ m6,h _ m2 _ m4 _ m5,h _ m2 _ m4 _ m6]
 grind
theorem cut_flt{l:List Pq}{f:Pq->Rat}(hf:Af f)(hn:∃z,f z≠0)(hp:∀p∈l,f p<=0):Flt (cuW f l):=by
 have k:∀{v:Pq},v∈cuW f l->f v=0:=fun hv=>by
  rcases cuW_mem hv with ⟨m,c⟩|⟨e,m,c,rfl⟩
  ·have:=hp _ m;grind
  ·exact crq_zero hf c
 obtain⟨z,hn⟩:=hn
 intro a ha b hb c hc
 have i:=af_bary hf a b c z
 rw[k ha,k hb,k hc]at i
 by_cases y:tq a b c=0
 ·exact y
 ·exfalso
  have:tq a b c * f z=0:=by rw[i];grind
  grind
theorem tq_ndg{a b:Pq}(h:a≠b):∃z,tq a b z≠0:=by
 by_cases h1:b.1=a.1
 ·refine⟨(a.1 - 1,a.2),?_⟩
  have h2:b.2≠a.2:=fun e=>h (Prod.ext h1.symm e.symm)
  simp only[tq]
  grind
 ·refine⟨(a.1,a.2 + 1),?_⟩
  simp only[tq]
  grind
def cuA:List (Pq×Pq)->List Pq->List Pq
 | [],l=>l
 | e::es,l=>cuA es (cuW (tq e.1 e.2) l)
theorem cuA_flt:∀(es:List (Pq×Pq)){l:List Pq},Flt l->Flt (cuA es l)
 | [],l,h=>h
 | e::es,l,h=>cuA_flt es h.cut
theorem cuA_two:∀(es:List (Pq×Pq)){l:List Pq},SCv l->3<=l.length->(∀e∈es,e.1≠e.2) →
  ((SCv (cuA es l)/\3<=(cuA es l).length)/\∀q,Inq (cuA es l) q ↔ Inq l q/\∀e∈es,0<=tq e.1 e.2 q)∨(Flt (cuA es l)/\∀q,Inq l q->¬ ∀e∈es,0 < tq e.1 e.2 q)
 | [],l,h,hl,_=>.inl ⟨⟨h,hl⟩,fun q=>by simp[cuA]⟩
 | e::es,l,h,hl,hn=>by
  have hf:=af_tq e.1 e.2
  have hz:∃z,tq e.1 e.2 z=0:=⟨e.1,tq_aba _ _⟩
  by_cases hp:∃p∈l,0 < tq e.1 e.2 p
  ·obtain⟨h',hl'⟩:=h.cut hl hf hp
   have hi:=h.cut_in hl hf hz hp
   rcases cuA_two es h' hl' (fun e he=>hn e (mcm _ he)) with ⟨k1,k2⟩|⟨k1,k2⟩
   ·refine .inl ⟨k1,fun q=>?_⟩
    rw[cuA,k2,hi,List.forall_mem_cons,and_assoc]
   ·refine .inr ⟨k1,fun q hq hs=>?_⟩
    rw[List.forall_mem_cons]at hs
    exact k2 q ((hi q).mpr ⟨hq,Rat.le_of_lt hs.1⟩) hs.2
  ·have hp':∀p∈l,tq e.1 e.2 p<=0:=fun p hm=>Rat.not_lt.mp fun c=>hp ⟨p,hm,c⟩
   refine .inr ⟨cuA_flt es (cut_flt hf (tq_ndg (hn e mcs)) hp'),fun q hq hs=>?_⟩
   have:=hull_nn h hl hf.neg (fun p hm=>by have:=hp' p hm;grind) hq
   have:=hs e mcs
   grind
theorem SCv.at{l:List Pq}(h:SCv l)(hl:3<=l.length){v:Pq}(hv:v∈l):∃a b,(a,v)∈edW l/\(v,b)∈edW l/\0 < tq a v b:=by
 obtain⟨A,B,rfl⟩:=List.append_of_mem hv
 have hl':3<=((v::B)++A).length:=by simp at hl ⊢;omega
 have h':=h.rot
 suffices g:∃a b,(a,v)∈edW ((v::B)++A)/\(v,b)∈edW ((v::B)++A)/\0 < tq a v b by
  obtain⟨a,b,h1,h2,h3⟩:=g
  exact⟨a,b,edW_mem_rot.mpr h1,edW_mem_rot.mpr h2,h3⟩
 rw[List.cons_append]at h' hl' ⊢
 generalize B++A=r at h' hl'
 cases r with
 | nil=>simp at hl'
 | cons b r =>
  cases r with
  | nil=>simp at hl'
  | cons c r =>
   refine⟨(c::r).getLastD b,b,?_,?_,?_⟩
   ·rw[edW,edL,List.getLastD_cons]
    exact mcs
   ·rw[edW,edL,edL]
    exact mcm _ mcs
   ·rw[← tq_rot]
    refine h' _ _ _ (csc (csc (List.singleton_sublist.mpr ?_)))
    rw[List.getLastD_cons]
    exact last_mem _ _
theorem corner_of{a v b w:Pq}(h:0 < tq a v b)(h1:tq a v w=0)(h2:tq v b w=0):w=v:=by
 have e1:tq a v b * (w.1 - v.1)=- tq v b w * (v.1 - a.1) + tq a v w * (b.1 - v.1):=by simp only[tq];grind
 have e2:tq a v b * (w.2 - v.2)=- tq v b w * (v.2 - a.2) + tq a v w * (b.2 - v.2):=by simp only[tq];grind
 rw[h1,h2]at e1 e2
 have f1:w.1 - v.1=0:=by grind
 have f2:w.2 - v.2=0:=by grind
 exact Prod.ext (by grind) (by grind)
theorem SCv.same_mem{l l':List Pq}(h:SCv l)(hl:3<=l.length)(h':SCv l')(hl':3<=l'.length)(hi:∀q,Inq l q ↔ Inq l' q){v:Pq}(hv:v∈l):v∈l':=by
 obtain⟨a,b,e1,e2,c⟩:=h.at hl hv
 have v':Inq l' v:=(hi v).mp (h.inq (by omega) hv)
 refine Classical.byContradiction fun hn=>?_
 have:=hull_pos h' hl' ((af_tq a v).add (af_tq v b)) (fun w hw=>?_) v'
 ·simp only[tq_abb,tq_aba]at this
  grind
 ·have hw':Inq l w:=(hi w).mpr (h'.inq (by omega) hw)
  have g1:=hw' _ e1
  have g2:=hw' _ e2
  simp only at g1 g2
  refine Classical.byContradiction fun z=>hn ?_
  have g3:tq a v w=0:=by grind
  have g4:tq v b w=0:=by grind
  rw[← corner_of c g3 g4]
  exact hw
def lowq(p q:Pq):Prop:=p.1 < q.1∨(p.1=q.1/\p.2 < q.2)
theorem lowq_asym{p q:Pq}(h:lowq p q)(h':lowq q p):False:=by
 unfold lowq at h h'
 grind
theorem lowq_irr{p:Pq}(h:lowq p p):False:=lowq_asym h h
theorem lowq_tot{p q:Pq}(h:p≠q):lowq p q∨lowq q p:=by
 unfold lowq
 by_cases e:p.1=q.1
 ·have:p.2≠q.2:=fun e2=>h (Prod.ext e e2)
  grind
 ·grind
theorem lowq_trans{p q r:Pq}(h:lowq p q)(h':lowq q r):lowq p r:=by
 unfold lowq at *
 grind
def Lowest:List Pq->Prop
 | []=>True
 | p::r=>∀x∈r,lowq p x
theorem sorted_same{α:Type}{R:α->α->Prop}(as:∀{x y},R x y->R y x->False):∀{l l':List α},l.Pairwise R->l'.Pairwise R->(∀x,x∈l ↔ x∈l')->l=l'
 | [],[],_,_,_=>rfl
 | [],b::l',_,_,h=>absurd ((h b).mpr mcs) (by simp)
 | a::l,[],_,_,h=>absurd ((h a).mp mcs) (by simp)
 | a::l,b::l',h1,h2,h=>by
  have irr:∀{x},¬ R x x:=fun h=>as h h
  rw[List.pairwise_cons]at h1 h2
  have e:a=b:=by
   rcases List.mem_cons.mp ((h a).mp mcs) with z|z
   ·exact z
   ·rcases List.mem_cons.mp ((h b).mpr mcs) with y|y
    ·exact y.symm
    ·exact(as (h1.1 _ y) (h2.1 _ z)).elim
  subst e
  congr 1
  refine sorted_same as h1.2 h2.2 fun x=>⟨fun hx=>?_,fun hx=>?_⟩
  ·rcases List.mem_cons.mp ((h x).mp (mcm _ hx)) with z|z
   ·rw[z]at hx;exact(irr (h1.1 _ hx)).elim
   ·exact z
  ·rcases List.mem_cons.mp ((h x).mpr (mcm _ hx)) with z|z
   ·rw[z]at hx;exact(irr (h2.1 _ hx)).elim
   ·exact z
theorem SCv.ord{p:Pq}{r:List Pq}(h:SCv (p::r)):r.Pairwise fun a b=>0 < tq p a b:=by
 rw[List.pairwise_iff_forall_sublist]
 intro a b hs
 exact h _ _ _ (csc hs)
theorem SCv.same{l l':List Pq}(h:SCv l)(hl:3<=l.length)(lo:Lowest l)(h':SCv l')(hl':3<=l'.length)(lo':Lowest l')(hi:∀q,Inq l q ↔ Inq l' q):l=l':=by
 have m1:∀{v},v∈l->v∈l':=fun hv=>h.same_mem hl h' hl' hi hv
 have m2:∀{v},v∈l'->v∈l:=fun hv=>h'.same_mem hl' h hl (fun q=>(hi q).symm) hv
 cases l with
 | nil=>simp at hl
 | cons p r =>
  cases l' with
  | nil=>simp at hl'
  | cons p' r' =>
   have e:p=p':=by
    rcases List.mem_cons.mp (m1 mcs) with z|z
    ·exact z
    ·rcases List.mem_cons.mp (m2 mcs) with y|y
     ·exact y.symm
     ·exact(lowq_asym (lo _ y) (lo' _ z)).elim
   subst e
   congr 1
   refine sorted_same (R:=fun a b=>0 < tq p a b) (fun {x y} a b=>?_) h.ord h'.ord fun x=>⟨fun hx=>?_,fun hx=>?_⟩
   ·have:tq p y x=- tq p x y:=by simp only[tq];grind
    grind
   ·rcases List.mem_cons.mp (m1 (mcm _ hx)) with z|z
    ·rw[z]at hx;exact(lowq_irr (lo _ hx)).elim
    ·exact z
   ·rcases List.mem_cons.mp (m2 (mcm _ hx)) with z|z
    ·rw[z]at hx;exact(lowq_irr (lo' _ hx)).elim
    ·exact z
def crp(a b:Pq):Rat:=a.1 * b.2 - b.1 * a.2
def arL:Pq->List Pq->Rat
 | _,[]=>0
 | a,b::r=>crp a b + arL b r
def arW:List Pq->Rat
 | []=>0
 | a::r=>arL (r.getLastD a) (a::r)
theorem arL_app:∀(a:Pq)(A B:List Pq),arL a (A++B)=arL a A + arL (A.getLastD a) B
 | a,[],B=>by simp[arL];grind
 | a,b::A,B=>by
  rw[List.cons_append,arL,arL,arL_app b A B,List.getLastD_cons]
  grind
theorem arW_eq{l:List Pq}(h:l≠[])(d:Pq):arW l=arL (l.getLastD d) l:=by
 cases l with
 | nil=>exact absurd rfl h
 | cons a r=>rw[arW,List.getLastD_cons]
theorem arW_rot(A B:List Pq):arW (A++B)=arW (B++A):=by
 by_cases ha:A=[]
 ·subst ha;simp
 by_cases hb:B=[]
 ·subst hb;simp
 have d:Pq:=(0,0)
 rw[arW_eq (by simp[ha]) d,arW_eq (by simp[hb]) d,arL_app,arL_app,getLastD_app hb d d,getLastD_app ha d d,show A.getLastD (B.getLastD d)=A.getLastD d from getLastD_app (A:=[]) ha _ _,show B.getLastD (A.getLastD d)=B.getLastD d from getLastD_app (A:=[]) hb _ _]
 grind
theorem tq_crp(a b c:Pq):tq a b c=crp a b + crp b c + crp c a:=by simp only[tq,crp];grind
theorem crp_self(a:Pq):crp a a=0:=by simp only[crp];grind
theorem crp_neg(a b:Pq):crp b a=- crp a b:=by simp only[crp];grind
def fanS(p:Pq):Pq->List Pq->Rat
 | _,[]=>0
 | b,c::r=>tq p b c + fanS p c r
theorem fan_ar(p:Pq):∀(b:Pq)(r:List Pq),crp p b + arL b r + crp (r.getLastD b) p=fanS p b r
 | b,[]=>by rw[arL,fanS,List.getLastD_nil,crp_neg];grind
 | b,c::r=>by
  have ih:=fan_ar p c r
  rw[arL,fanS,List.getLastD_cons,tq_crp,← ih,crp_neg p c]
  grind
theorem arW_fan(p:Pq)(r:List Pq):arW (p::r)=match r with|[]=>0|b::r=>fanS p b r:=by
 cases r with
 | nil=>simp only[arW,arL,List.getLastD_nil,crp_self];grind
 | cons b r =>
  show _=fanS p b r
  rw[arW,arL,arL,List.getLastD_cons,← fan_ar]
  grind
theorem fanS_nn(p:Pq):∀(b:Pq)(r:List Pq),(∀x y,List.Sublist [x,y] (b::r)->0<=tq p x y)->0<=fanS p b r
 | b,[],_=>Rat.le_refl
 | b,c::r,h=>by
  have h1:=h b c (csc (csc (List.nil_sublist _)))
  have h2:=fanS_nn p c r fun x y hs=>h x y (hs.trans (List.sublist_cons_self _ _))
  rw[fanS]
  grind
theorem fanS_zero(p:Pq):∀(b:Pq)(r:List Pq),(∀x∈b::r,∀y∈b::r,tq p x y=0)->fanS p b r=0
 | b,[],_=>rfl
 | b,c::r,h=>by
  have h1:=h b (by simp) c (by simp)
  have h2:=fanS_zero p c r fun x hx y hy=>h x (mcm _ hx) y (mcm _ hy)
  rw[fanS,h1,h2]
  grind
theorem SCv.area{l:List Pq}(h:SCv l):0<=arW l:=by
 cases l with
 | nil=>exact Rat.le_refl
 | cons p r =>
  rw[arW_fan]
  cases r with
  | nil=>exact Rat.le_refl
  | cons b r=>exact fanS_nn p b r fun x y hs=>Rat.le_of_lt (h _ _ _ (csc hs))
theorem Flt.area{l:List Pq}(h:Flt l):arW l=0:=by
 cases l with
 | nil=>rfl
 | cons p r =>
  rw[arW_fan]
  cases r with
  | nil=>rfl
  | cons b r=>exact fanS_zero p b r fun x hx y hy=>h _ mcs _ (mcm _ hx) _ (mcm _ hy)
theorem af_line{f:Pq->Rat}(hf:Af f)(hn:∃z,f z≠0){a b c:Pq}(ha:f a=0)(hb:f b=0)(hc:f c=0):tq a b c=0:=by
 obtain⟨z,hn⟩:=hn
 have i:=af_bary hf a b c z
 rw[ha,hb,hc]at i
 by_cases y:tq a b c=0
 ·exact y
 ·exfalso
  have:tq a b c * f z=0:=by rw[i];grind
  grind
theorem crq_neg(f:Pq->Rat)(a b:Pq):crq (fun p=>-f p) a b=crq f a b:=by
 unfold crq
 congr 1
 by_cases h:f a - f b=0
 ·have h2:-f a - -f b=0:=by grind
  rw[h,h2]
  grind
 ·grind
theorem crp_mid(t:Rat)(a b:Pq):crp a (mid t a b) + crp (mid t a b) b=crp a b:=by simp only[crp,mid];grind
theorem area_step{f:Pq->Rat}(hf:Af f)(hn:∃z,f z≠0){o:Pq}(ho:f o=0){a b z z':Pq}(h:Rl f a z)(h':Rl (fun p=>-f p) a z') :
  arL z ((if f a * f b < 0 then [crq f a b] else [])++(if 0<=f b then [b] else [])) + arL z' ((if -f a * -f b < 0 then [crq (fun p=>-f p) a b] else [])++(if 0 <= -f b then [b] else [])) + (if 0 < f a then crp o z' else crp o z) =
  crp a b + (if 0 < f b then crp o ((if 0 <= -f b then [b] else []).getLastD ((if -f a * -f b < 0 then [crq (fun p=>-f p) a b] else []).getLastD z')) else crp o ((if 0<=f b then [b] else []).getLastD ((if f a * f b < 0 then [crq f a b] else []).getLastD z))):=by
 have ln:∀{x y:Pq},f x=0->f y=0->crp x y=crp o y - crp o x:=fun hx hy=>by
  have:=af_line hf hn ho hx hy
  rw[tq_crp,crp_neg o]at this
  grind
 have nm:(-f a * -f b < 0)=(f a * f b < 0):=by rw[show -f a * -f b=f a * f b by grind]
 simp only[nm,crq_neg]
 have h1:=h.1
 have h2:=h.2
 have h3:f a<=0->z'=a:=fun c=>h'.1 (by grind)
 have h4:0 < f a->f z'=0:=fun c=>by have:=h'.2 (by grind);grind
 by_cases c:f a * f b < 0
 ·obtain⟨t,t0,t1,et⟩:=crq_mid c
  have ez:=crq_zero hf c
  have em:=crp_mid t a b
  rw[← et]at em
  generalize crq f a b=X at *
  rcases q_sg c with ⟨ha,hb⟩|⟨ha,hb⟩
  ·rw[if_pos c,if_neg (Rat.not_le.mpr hb),if_pos (show 0 <= -f b by grind),if_pos ha,if_neg (show ¬ 0 < f b by grind)]
   simp only[List.append_nil,List.cons_append,List.nil_append,arL,List.getLastD_cons,List.getLastD_nil]
   rw[h1 (by grind),ln (h4 ha) ez]
   grind
  ·rw[if_pos c,if_pos (Rat.le_of_lt hb),if_neg (show ¬ 0 <= -f b by grind),if_neg (show ¬ 0 < f a by grind),if_pos hb]
   simp only[List.append_nil,List.cons_append,List.nil_append,arL,List.getLastD_cons,List.getLastD_nil]
   rw[h3 (by grind),ln (h2 ha) ez]
   grind
 ·rw [if_neg c]
  have nn:¬ (0 < f a/\f b < 0):=fun z=>c (q_ng z.1 z.2)
  have nn':¬ (f a < 0/\0 < f b):=fun z=>c (by have:=q_ng z.2 z.1;grind)
  by_cases ha:0 < f a
  ·have za:=h1 (Rat.le_of_lt ha)
   have hb:0<=f b:=by grind
   rw[if_pos hb,if_pos ha]
   by_cases hb0:0 < f b
   ·rw[if_neg (show ¬ 0 <= -f b by grind),if_pos hb0]
    simp only[List.append_nil,List.cons_append,List.nil_append,arL,List.getLastD_cons,List.getLastD_nil]
    rw[za]
    grind
   ·rw[if_pos (show 0 <= -f b by grind),if_neg hb0]
    simp only[List.append_nil,List.cons_append,List.nil_append,arL,List.getLastD_cons,List.getLastD_nil]
    rw[za,ln (h4 ha) (show f b=0 by grind)]
    grind
  ·have za:=h3 (by grind)
   rw[if_neg ha]
   by_cases hb0:0 < f b
   ·have fa:f a=0:=by grind
    rw[if_neg (show ¬ 0 <= -f b by grind),if_pos hb0,if_pos (Rat.le_of_lt hb0)]
    simp only[List.append_nil,List.cons_append,List.nil_append,arL,List.getLastD_cons,List.getLastD_nil]
    rw[za,h1 (by grind)]
    grind
   ·rw[if_pos (show 0 <= -f b by grind),if_neg hb0]
    by_cases hb:0<=f b
    ·have fb:f b=0:=by grind
     have fz:f z=0:=by
      by_cases w:f a < 0
      ·exact h2 w
      ·rw[h1 (by grind)];grind
     rw[if_pos hb]
     simp only[List.append_nil,List.cons_append,List.nil_append,arL,List.getLastD_cons,List.getLastD_nil]
     rw[za,ln fz fb]
     grind
    ·rw[if_neg hb]
     simp only[List.append_nil,List.cons_append,List.nil_append,arL,List.getLastD_cons,List.getLastD_nil]
     rw[za]
     grind
theorem area_cut{f:Pq->Rat}(hf:Af f)(hn:∃z,f z≠0){o:Pq}(ho:f o=0):∀(a:Pq)(r:List Pq)(z z':Pq),Rl f a z->Rl (fun p=>-f p) a z' →
  arL z (cuL f a r) + arL z' (cuL (fun p=>-f p) a r) + (if 0 < f a then crp o z' else crp o z)=arL a r + (if 0 < f (r.getLastD a) then crp o ((cuL (fun p=>-f p) a r).getLastD z') else crp o ((cuL f a r).getLastD z))
 | a,[],z,z',h,h'=>by simp only[cuL,arL,List.getLastD_nil];grind
 | a,b::r,z,z',h,h'=>by
  have st:=area_step hf hn ho (b:=b) h h'
  have ih:=area_cut hf hn ho b r _ _ (rl_step (b:=b) hf h) (rl_step (b:=b) hf.neg h')
  rw[cuL,cuL,← List.append_assoc,← List.append_assoc,List.getLastD_cons,arL]
  rw[← gld_app,← gld_app]at st ih
  try simp only at st ih ⊢
  generalize (if f a * f b < 0 then [crq f a b] else [])++(if 0<=f b then [b] else [])=U at st ih ⊢
  generalize (if -f a * -f b < 0 then [crq (fun p=>-f p) a b] else [])++(if 0 <= -f b then [b] else [])=U' at st ih ⊢
  rw[arL_app z U,arL_app z' U',gld_app U,gld_app U']
  generalize (if 0 < f a then crp o z' else crp o z)=k1 at *
  generalize (if 0 < f b then crp o (U'.getLastD z') else crp o (U.getLastD z))=k2 at *
  generalize (if 0 < f (r.getLastD b) then crp o ((cuL (fun p=>-f p) b r).getLastD (U'.getLastD z')) else crp o ((cuL f b r).getLastD (U.getLastD z)))=k3 at *
  generalize arL (U.getLastD z) (cuL f b r)=k4 at *
  generalize arL (U'.getLastD z') (cuL (fun p=>-f p) b r)=k5 at *
  generalize arL z U=k6 at *
  generalize arL z' U'=k7 at *
  clear h h'
  grind
theorem arW_cut{f:Pq->Rat}(hf:Af f)(hn:∃z,f z≠0)(hz:∃z,f z=0)(l:List Pq):arW (cuW f l) + arW (cuW (fun p=>-f p) l)=arW l:=by
 cases l with
 | nil=>simp only[cuW,arW];grind
 | cons a r =>
  obtain⟨o,ho⟩:=hz
  have ex:∀{g:Pq->Rat},Af g->g o=0->∃z,Rl g (r.getLastD a) z/\(cuL g (r.getLastD a) (a::r)).getLastD z=z/\arW (cuW g (a::r))=arL z (cuL g (r.getLastD a) (a::r)):=fun {g} hg hgo=>by
   obtain⟨z1,h1⟩:∃z1,Rl g (r.getLastD a) z1:=by
    by_cases c:0<=g (r.getLastD a)
    ·exact⟨_,fun _=>rfl,fun h=>absurd c (Rat.not_le.mpr h)⟩
    ·exact⟨o,fun h=>absurd h c,fun _=>hgo⟩
   have h2:=cu_last hg _ (a::r) z1 h1
   rw[List.getLastD_cons]at h2
   by_cases c:cuL g (r.getLastD a) (a::r)=[]
   ·refine⟨z1,h1,by rw[c];rfl,?_⟩
    rw[cuW,c]
    rfl
   ·refine⟨_,h2,getLastD_app (A:=[]) c _ _,?_⟩
    rw[cuW,arW_eq c z1]
  obtain⟨z,h1,h2,h3⟩:=ex hf ho
  obtain⟨z',h1',h2',h3'⟩:=ex hf.neg (by simp only[ho];grind)
  have:=area_cut hf hn ho _ (a::r) z z' h1 h1'
  rw[h2,h2',List.getLastD_cons]at this
  rw[h3,h3',arW]
  grind
theorem SCv.ed_ne{l:List Pq}(h:SCv l)(hl:3<=l.length){e:Pq×Pq}(he:e∈edW l):e.1≠e.2:=by
 obtain⟨A,B,r,rfl,e2⟩:=edW_mem (by omega) he
 have h':=h.rot
 have hl':3<=(B++A).length:=by simp at hl ⊢;omega
 rw[e2]at h' hl'
 cases r with
 | nil=>simp at hl'
 | cons c r =>
  have:=h' e.1 e.2 c (csc (csc (List.singleton_sublist.mpr mcs)))
  intro z
  rw[z,tq_aab]at this
  exact Rat.lt_irrefl this
theorem SCv.amid{l:List Pq}(h:SCv l)(hl:3<=l.length):∃q,Inq l q/\∀f,Af f->(∃z,f z≠0)->(∀p∈l,0<=f p)->0 < f q:=by
 obtain⟨a,b,c,r,rfl⟩:∃a b c r,l=a::b::c::r:=by
  cases l with
  | nil=>simp at hl
  | cons a l =>
   cases l with
   | nil=>simp at hl
   | cons b l =>
    cases l with
    | nil=>simp at hl
    | cons c l=>exact⟨a,b,c,l,rfl⟩
 have D:=h a b c (csc (csc (List.singleton_sublist.mpr mcs)))
 have key:∀f:Pq->Rat,Af f->f (mid (1/3) (mid (1/2) a b) c)=(f a + f b + f c) / 3:=fun f hf=>by
  rw[hf.mid,hf.mid]
  grind
 refine⟨mid (1/3) (mid (1/2) a b) c,fun e he=>?_,fun f hf hn hp=>?_⟩
 ·rw[key _ (af_tq e.1 e.2)]
  have g1:=h.inq (by omega) (v:=a) (by simp) e he
  have g2:=h.inq (by omega) (v:=b) (by simp) e he
  have g3:=h.inq (by omega) (v:=c) (by simp) e he
  grind
 ·rw[key f hf]
  have g1:=hp a (by simp)
  have g2:=hp b (by simp)
  have g3:=hp c (by simp)
  have:¬ (f a=0/\f b=0/\f c=0):=fun ⟨z1,z2,z3⟩=>by
   rw[af_line hf hn z1 z2 z3]at D
   exact Rat.lt_irrefl D
  grind
theorem min_rot:∀{l:List Pq},l≠[]->l.Nodup->∃A p B,l=A++p::B/\∀x∈B++A,lowq p x
 | [],h,_=>absurd rfl h
 | a :: r,_,nd=>by
  rw[List.nodup_cons]at nd
  by_cases hr:r=[]
  ·subst hr
   exact⟨[],a,[],rfl,by simp⟩
  ·obtain⟨A,p,B,rfl,h⟩:=min_rot hr nd.2
   have hne:a≠p:=fun e=>nd.1 (by rw[e];simp)
   rcases lowq_tot hne with z|z
   ·refine⟨[],a,A++p::B,rfl,fun x hx=>?_⟩
    rw[List.append_nil]at hx
    rcases List.mem_append.mp hx with y|y
    ·exact lowq_trans z (h x (List.mem_append_right _ y))
    ·rcases List.mem_cons.mp y with rfl|y
     ·exact z
     ·exact lowq_trans z (h x (List.mem_append_left _ y))
   ·refine⟨a::A,p,B,rfl,fun x hx=>?_⟩
    rcases List.mem_append.mp hx with y|y
    ·exact h x (List.mem_append_left _ y)
    ·rcases List.mem_cons.mp y with rfl|y
     ·exact z
     ·exact h x (List.mem_append_right _ y)
theorem SCv.nodup{l:List Pq}(h:SCv l)(hl:3<=l.length):l.Nodup:=by
 rw[List.Nodup,List.pairwise_iff_forall_sublist]
 rintro x y hs rfl
 have:∃A B C,l=A++x::B++x::C:=by
  obtain⟨r1,r2,rfl,h1,h2⟩:=List.cons_sublist_iff.mp hs
  obtain⟨A,B,rfl⟩:=List.append_of_mem h1
  obtain⟨C,D,rfl⟩:=List.append_of_mem (List.singleton_sublist.mp h2)
  exact⟨A,B++C,D,by simp⟩
 obtain⟨A,B,C,rfl⟩:=this
 have bad:∀z,tq x x z=0/\tq x z x=0/\tq z x x=0:=fun z=>⟨tq_aab _ _,tq_aba _ _,tq_abb _ _⟩
 have:A≠[]∨B≠[]∨C≠[]:=by
  refine Classical.byContradiction fun z=>?_
  have:A=[]/\B=[]/\C=[]:=by
   refine⟨Classical.byContradiction fun y=>z (.inl y),Classical.byContradiction fun y=>z (.inr (.inl y)),Classical.byContradiction fun y=>z (.inr (.inr y))⟩
  obtain⟨rfl,rfl,rfl⟩:=this
  simp at hl
 rcases this with z|z|z
 ·cases A with
  | nil=>exact z rfl
  | cons a A =>
   have:=h a x x (by simp only[List.cons_append,List.append_assoc];refine csc (List.Sublist.trans ?_ (List.sublist_append_right _ _));exact csc (List.Sublist.trans (csc (List.nil_sublist C)) (List.sublist_append_right _ _)))
   rw[(bad a).2.2]at this
   exact Rat.lt_irrefl this
 ·cases B with
  | nil=>exact z rfl
  | cons a B =>
   have:=h x a x (by simp only[List.cons_append,List.append_assoc];refine List.Sublist.trans ?_ (List.sublist_append_right _ _);exact csc (csc (List.Sublist.trans (csc (List.nil_sublist C)) (List.sublist_append_right _ _))))
   rw[(bad a).2.1]at this
   exact Rat.lt_irrefl this
 ·cases C with
  | nil=>exact z rfl
  | cons a C =>
   have:=h x x a (by simp only[List.cons_append,List.append_assoc];refine List.Sublist.trans ?_ (List.sublist_append_right _ _);exact csc (List.Sublist.trans (csc (csc (List.nil_sublist C))) (List.sublist_append_right _ _)))
   rw[(bad a).1]at this
   exact Rat.lt_irrefl this
structure Rnd(l:List Pq):Prop where
 sc:SCv l
 len:3<=l.length
def Bth(A B F:List Pq):Prop:=(F=[]/\∀q,Inq A q->¬ ∀e∈edW B,0 < tq e.1 e.2 q)∨(Rnd F/\Lowest F/\∀q,Inq F q ↔ Inq A q/\Inq B q)
theorem Rnd.low{l:List Pq}(h:Rnd l):∃A B,l=A++B/\Rnd (B++A)/\Lowest (B++A):=by
 obtain⟨A,p,B,e,hl⟩:=min_rot (by have:=h.len;intro z;rw[z]at this;simp at this) (h.sc.nodup h.len)
 subst e
 exact⟨A,p::B,rfl,⟨h.sc.rot,by have:=h.len;simp at this ⊢;omega⟩,hl⟩
theorem Rnd.cuts{A B:List Pq}(hA:Rnd A)(hB:Rnd B):(Rnd (cuA (edW B) A)/\∀q,Inq (cuA (edW B) A) q ↔ Inq A q/\Inq B q)∨(Flt (cuA (edW B) A)/\∀q,Inq A q->¬ ∀e∈edW B,0 < tq e.1 e.2 q):=by
 rcases cuA_two (edW B) hA.sc hA.len (fun e he=>hB.sc.ed_ne hB.len he) with ⟨h,k⟩|h
 ·exact .inl ⟨⟨h.1,h.2⟩,k⟩
 ·exact .inr h
theorem Rnd.none{A B F:List Pq}(hF:Rnd F)(hB:Rnd B)(h:∀q,Inq F q->Inq A q/\Inq B q)(hn:∀q,Inq A q->¬ ∀e∈edW B,0 < tq e.1 e.2 q):False:=by
 obtain⟨q,hq,hp⟩:=hF.sc.amid hF.len
 refine hn q (h q hq).1 fun e he=>?_
 exact hp _ (af_tq _ _) (tq_ndg (hB.sc.ed_ne hB.len he)) fun p hm=>(h p (hF.sc.inq (by have:=hF.len;omega) hm)).2 e he
theorem Bth.sym{A B F F':List Pq}(hA:Rnd A)(hB:Rnd B)(h:Bth A B F)(h':Bth B A F'):F'=F:=by
 rcases h with ⟨rfl,h⟩|⟨r,lo,h⟩<;>rcases h' with ⟨rfl,h'⟩|⟨r',lo',h'⟩
 ·rfl
 ·exact(r'.none hB (fun q hq=>((h' q).mp hq).symm) h).elim
 ·exact(r.none hA (fun q hq=>((h q).mp hq).symm) h').elim
 ·exact r'.sc.same r'.len lo' r.sc r.len lo fun q=>by rw[h,h',And.comm]
theorem Bth.again{A B F F':List Pq}(hA:Rnd A)(hF:Rnd F)(lo:Lowest F)(h:∀q,Inq F q->Inq A q)(h':Bth F A F'∨Bth A F F'):F'=F:=by
 rcases h' with (⟨rfl,h'⟩|⟨r',lo',h'⟩)|(⟨rfl,h'⟩|⟨r',lo',h'⟩)
 ·exact(hF.none hA (fun q hq=>⟨hq,h q hq⟩) h').elim
 ·exact r'.sc.same r'.len lo' hF.sc hF.len lo fun q=>by rw[h'];exact⟨fun z=>z.1,fun z=>⟨z,h q z⟩⟩
 ·exact(hF.none hF (fun q hq=>⟨h q hq,hq⟩) h').elim
 ·exact r'.sc.same r'.len lo' hF.sc hF.len lo fun q=>by rw[h'];exact⟨fun z=>z.2,fun z=>⟨h q z,z⟩⟩
theorem cuW_area{f:Pq->Rat}(hf:Af f)(hn:∃z,f z≠0)(hz:∃z,f z=0){l:List Pq}(h:Rnd l∨Flt l):(Rnd (cuW f l)∨Flt (cuW f l))/\0<=arW (cuW f l)/\arW (cuW f l)<=arW l:=by
 have st:∀{g:Pq->Rat},Af g->(∃z,g z≠0)->(Rnd (cuW g l)∨Flt (cuW g l))/\0<=arW (cuW g l):=fun {g} hg hgn=>by
  have:Rnd (cuW g l)∨Flt (cuW g l):=by
   rcases h with h|h
   ·by_cases hp:∃p∈l,0 < g p
    ·have:=h.sc.cut h.len hg hp
     exact .inl ⟨this.1,this.2⟩
    ·exact .inr (cut_flt hg hgn fun p hm=>Rat.not_lt.mp fun c=>hp ⟨p,hm,c⟩)
   ·exact .inr h.cut
  refine⟨this,?_⟩
  rcases this with z|z
  ·exact z.sc.area
  ·rw[z.area];exact Rat.le_refl
 have h1:=st hf hn
 obtain⟨z,hz'⟩:=hn
 have h2:=st hf.neg ⟨z,by grind⟩
 have h3:=arW_cut hf ⟨z,hz'⟩ hz l
 exact⟨h1.1,h1.2,by grind⟩
theorem cuA_area:∀(es:List (Pq×Pq)){l:List Pq},(∀e∈es,e.1≠e.2)->(Rnd l∨Flt l)->arW (cuA es l)<=arW l
 | [],l,_,_=>Rat.le_refl
 | e::es,l,hn,h=>by
  have h1:=cuW_area (af_tq e.1 e.2) (tq_ndg (hn e mcs)) ⟨e.1,tq_aba _ _⟩ h
  have h2:=cuA_area es (fun e he=>hn e (mcm _ he)) h1.1
  rw[cuA]
  exact Rat.le_trans h2 h1.2.2
theorem Rnd.area_same{A B:List Pq}(hA:Rnd A)(hB:Rnd B)(h:∀q,Inq A q ↔ Inq B q):arW A=arW B:=by
 obtain⟨A1,A2,rfl,r1,l1⟩:=hA.low
 obtain⟨B1,B2,rfl,r2,l2⟩:=hB.low
 rw[arW_rot A1,arW_rot B1]
 rw[r1.sc.same r1.len l1 r2.sc r2.len l2 fun q=>by rw[← inq_rot,h,inq_rot]]
theorem Rnd.area_mono{A F:List Pq}(hA:Rnd A)(hF:Rnd F)(h:∀q,Inq F q->Inq A q):arW F<=arW A:=by
 rcases hA.cuts hF with ⟨r,k⟩|⟨_,k⟩
 ·rw[← r.area_same hF fun q=>by rw[k];exact⟨fun z=>z.2,fun z=>⟨h q z,z⟩⟩]
  exact cuA_area _ (fun e he=>hF.sc.ed_ne hF.len he) (.inl hA)
 ·exact(hF.none hF (fun q hq=>⟨h q hq,hq⟩) k).elim
def fq(q:Rat):T:=.tup [.int q.num,.int (q.den:Int)]
theorem q_nd(q:Rat):(q.num:Rat) / ((q.den:Int):Rat)=q:=by
 have h:=Rat.mkRat_self q
 rw[Rat.mkRat_eq_div]at h
 exact h
theorem q_den(q:Rat):(0:Int) < (q.den:Int):=by have:=q.den_pos;omega
theorem qi_ne{m:Int}(h:m≠0):(m:Rat)≠0:=fun e=>h (Rat.intCast_inj.mp e)
theorem q_cross{q:Rat}{n m:Int}(hm:m≠0)(e:q=(n:Rat) / (m:Rat)):q.num * m=n * (q.den:Int):=by
 have h1:=q_nd q
 rw[e]at h1
 have hm':=qi_ne hm
 have hd:=qi_ne (m:=((n:Rat) / (m:Rat)).den) (by have:=q_den ((n:Rat) / (m:Rat));omega)
 rw[← e]at h1 hd
 refine Rat.intCast_inj.mp ?_
 rw[Rat.intCast_mul,Rat.intCast_mul]
 generalize (q.num:Rat)=a at *
 generalize ((q.den:Int):Rat)=b at *
 generalize (n:Rat)=c at *
 generalize (m:Rat)=d at *
 grind
theorem fq_rt{q:Rat}{n m:Int}(hm:m≠0)(e:q=(n:Rat) / (m:Rat)):Rt q.num (q.den:Int) n m :=
 ⟨q_den q,q.reduced,q_cross hm e⟩
theorem fq_of{q:Rat}{n m:Int}(hm:m≠0)(e:q=(n:Rat) / (m:Rat)):fr n m=fq q:=(fr_of hm (fq_rt hm e)).symm
theorem fq_fr(q:Rat):fq q=fr q.num (q.den:Int):=(fq_of (by have:=q_den q;omega) (q_nd q).symm).symm
theorem fq_int(n:Int):fra n 1=fq (n:Rat):=by
 rw[fr_one]
 exact fq_of (by decide) (by
  have:((1:Int):Rat)=1:=rfl
  rw[this]
  grind)
theorem eqOk_fq(a b:Rat):EqOk (fq a) (fq b):=eqOk_tup [a.num,a.den] [b.num,b.den]
theorem eqT_fq(a b:Rat):eqT (fq a) (fq b)=decide (a=b):=by
 have:eqT (fq a) (fq b)=decide (a.num=b.num/\(a.den:Int)=(b.den:Int)):=by simp[fq,eqT,eqTs]
 rw[this]
 refine decide_eq_decide.mpr ⟨fun h=>Rat.ext h.1 (by omega),fun h=>by rw[h];exact⟨rfl,rfl⟩⟩
def Bq(k:Nat)(q:Rat):Prop:=Lim k q.num/\Lim k (q.den:Int)
theorem Bq.mono{k k':Nat}{q:Rat}(h:Bq k q)(hk:k<=k'):Bq k' q:=⟨h.1.mono hk,h.2.mono hk⟩
theorem bq_of{k:Nat}{q:Rat}{n m:Int}(hm:m≠0)(hn:Lim k n)(hd:Lim k m)(e:q=(n:Rat) / (m:Rat)):Bq k q:=by
 have A:=fq_rt hm e
 exact⟨A.lp hm hn,A.lq hm hd⟩
theorem q_ad{a b c d:Rat}(hb:b≠0)(hd:d≠0):a / b + c / d=(a * d + c * b) / (b * d):=by grind
theorem q_sb{a b c d:Rat}(hb:b≠0)(hd:d≠0):a / b - c / d=(a * d - c * b) / (b * d):=by grind
theorem q_ml{a b c d:Rat}(hb:b≠0)(hd:d≠0):(a / b) * (c / d)=(a * c) / (b * d):=by grind
theorem q_by{a b c d:Rat}(hb:b≠0)(hd:d≠0)(hc:c≠0):(a / b) / (c / d)=(a * d) / (b * c):=by grind
theorem q_dn(q:Rat):((q.den:Int):Rat)≠0:=qi_ne (by have:=q_den q;omega)
theorem fq_add(a b:Rat):fr (a.num * (b.den:Int) + b.num * (a.den:Int)) ((a.den:Int) * (b.den:Int))=fq (a + b):=by
 refine fq_of (Int.mul_ne_zero (by have:=q_den a;omega) (by have:=q_den b;omega)) ?_
 rw[Rat.intCast_add,Rat.intCast_mul,Rat.intCast_mul,Rat.intCast_mul,← q_ad (q_dn a) (q_dn b),q_nd,q_nd]
theorem fq_sub(a b:Rat):fr (a.num * (b.den:Int) - b.num * (a.den:Int)) ((a.den:Int) * (b.den:Int))=fq (a - b):=by
 refine fq_of (Int.mul_ne_zero (by have:=q_den a;omega) (by have:=q_den b;omega)) ?_
 rw[Rat.intCast_sub,Rat.intCast_mul,Rat.intCast_mul,Rat.intCast_mul,← q_sb (q_dn a) (q_dn b),q_nd,q_nd]
theorem fq_mul(a b:Rat):fr (a.num * b.num) ((a.den:Int) * (b.den:Int))=fq (a * b):=by
 refine fq_of (Int.mul_ne_zero (by have:=q_den a;omega) (by have:=q_den b;omega)) ?_
 rw[Rat.intCast_mul,Rat.intCast_mul,← q_ml (q_dn a) (q_dn b),q_nd,q_nd]
theorem q_num0{q:Rat}(h:q≠0):q.num≠0:=fun e=>h (Rat.num_eq_zero.mp e)
theorem fq_div(a:Rat){b:Rat}(h:b≠0):fr (a.num * (b.den:Int)) ((a.den:Int) * b.num)=fq (a / b):=by
 refine fq_of (Int.mul_ne_zero (by have:=q_den a;omega) (q_num0 h)) ?_
 rw[Rat.intCast_mul,Rat.intCast_mul,← q_by (q_dn a) (q_dn b) (qi_ne (q_num0 h)),q_nd,q_nd]
theorem Bq.add{j k:Nat}{a b:Rat}(ha:Bq j a)(hb:Bq k b):Bq (j + k + 1) (a + b):=by
 refine bq_of (Int.mul_ne_zero (by have:=q_den a;omega) (by have:=q_den b;omega)) (((ha.1.mul hb.2).add (hb.1.mul ha.2)).mono (by rw[Nat.add_comm k j,Nat.max_self];exact Nat.le_refl _)) ((ha.2.mul hb.2).mono (by omega)) ?_
 rw[Rat.intCast_add,Rat.intCast_mul,Rat.intCast_mul,Rat.intCast_mul,← q_ad (q_dn a) (q_dn b),q_nd,q_nd]
theorem Bq.sub{j k:Nat}{a b:Rat}(ha:Bq j a)(hb:Bq k b):Bq (j + k + 1) (a - b):=by
 refine bq_of (Int.mul_ne_zero (by have:=q_den a;omega) (by have:=q_den b;omega)) (((ha.1.mul hb.2).sub (hb.1.mul ha.2)).mono (by rw[Nat.add_comm k j,Nat.max_self];exact Nat.le_refl _)) ((ha.2.mul hb.2).mono (by omega)) ?_
 rw[Rat.intCast_sub,Rat.intCast_mul,Rat.intCast_mul,Rat.intCast_mul,← q_sb (q_dn a) (q_dn b),q_nd,q_nd]
theorem Bq.mul{j k:Nat}{a b:Rat}(ha:Bq j a)(hb:Bq k b):Bq (j + k) (a * b):=by
 refine bq_of (Int.mul_ne_zero (by have:=q_den a;omega) (by have:=q_den b;omega)) (ha.1.mul hb.1) (ha.2.mul hb.2) ?_
 rw[Rat.intCast_mul,Rat.intCast_mul,← q_ml (q_dn a) (q_dn b),q_nd,q_nd]
theorem Bq.div{j k:Nat}{a b:Rat}(ha:Bq j a)(hb:Bq k b)(h:b≠0):Bq (j + k) (a / b):=by
 refine bq_of (Int.mul_ne_zero (by have:=q_den a;omega) (q_num0 h)) (ha.1.mul hb.2) (ha.2.mul hb.1) ?_
 rw[Rat.intCast_mul,Rat.intCast_mul,← q_by (q_dn a) (q_dn b) (qi_ne (q_num0 h)),q_nd,q_nd]
theorem bq_int{k:Nat}{n:Int}(h:Lim k n)(hk:1<=k):Bq k (n:Rat):=by
 refine bq_of (n:=n) (m:=1) (by decide) h ((Lim.of (n:=1) (by decide) (by decide)).mono hk) ?_
 have:((1:Int):Rat)=1:=rfl
 rw[this]
 grind
theorem bq_two{k:Nat}{a b:Rat}(ha:Bq k a)(hb:Bq k b)(hk:k<=900:=by decide):Two 900 a.num (a.den:Int) b.num (b.den:Int) :=
 ⟨by have:=q_den a;omega,by have:=q_den b;omega,ha.1.mono hk,ha.2.mono hk,hb.1.mono hk,hb.2.mono hk⟩
def Bw(j:Nat)(q:Rat):Prop:=Lim 80000 q.num/\Lim j (q.den:Int)
theorem Bq.bw{k:Nat}{q:Rat}(h:Bq k q)(hk:k<=80000:=by decide):Bw k q:=⟨h.1.mono hk,h.2⟩
theorem bw_two{j k:Nat}{a b:Rat}(ha:Bw j a)(hb:Bw k b)(hjk:j + k<=2000):Twd a.num (a.den:Int) b.num (b.den:Int) :=
 ⟨by have:=q_den a;omega,by have:=q_den b;omega,ha.1.mono (by decide),j,k,ha.2,hb.1.mono (by decide),hb.2,hjk⟩
theorem sum_wd{j k:Nat}{a b:Rat}{Q:T->Prop}(ha:Bw j a)(hb:Bw k b)(hjk:j + k<=2000)(q:Q (fq (a + b))):Z03 [fq a,fq b] Q :=
 ⟨_,_,_,_,by rw[fq_fr a,fq_fr b],bw_two ha hb hjk,by rw[fq_add];exact q⟩
theorem less_wd{j k:Nat}{a b:Rat}{Q:T->Prop}(ha:Bw j a)(hb:Bw k b)(hjk:j + k<=2000)(q:Q (fq (a - b))):Z00 [fq a,fq b] Q :=
 ⟨_,_,_,_,by rw[fq_fr a,fq_fr b],bw_two ha hb hjk,by rw[fq_sub];exact q⟩
theorem times_wd{j k:Nat}{a b:Rat}{Q:T->Prop}(ha:Bw j a)(hb:Bw k b)(hjk:j + k<=2000)(q:Q (fq (a * b))):Z01 [fq a,fq b] Q :=
 ⟨_,_,_,_,by rw[fq_fr a,fq_fr b],bw_two ha hb hjk,by rw[fq_mul];exact q⟩
theorem sum_cal{a b:Rat}{Q:T->Prop}(ha:Bq 900 a)(hb:Bq 900 b)(q:Q (fq (a + b))):Z03 [fq a,fq b] Q:=sum_wd ha.bw hb.bw (by decide) q
theorem less_cal{a b:Rat}{Q:T->Prop}(ha:Bq 900 a)(hb:Bq 900 b)(q:Q (fq (a - b))):Z00 [fq a,fq b] Q:=less_wd ha.bw hb.bw (by decide) q
theorem times_cal{a b:Rat}{Q:T->Prop}(ha:Bq 900 a)(hb:Bq 900 b)(q:Q (fq (a * b))):Z01 [fq a,fq b] Q:=times_wd ha.bw hb.bw (by decide) q
theorem by_cal{a b:Rat}{Q:T->Prop}(ha:Bq 900 a)(hb:Bq 900 b)(h:b≠0)(q:Q (fq (a / b))):Z0w [fq a,fq b] Q :=
 ⟨_,_,_,_,by rw[fq_fr a,fq_fr b],bq_two ha hb,q_num0 h,by rw[fq_div a h];exact q⟩
theorem under_cal{a b:Rat}{Q:T->Prop}(ha:Bq 900 a)(hb:Bq 900 b)(q:Q (.bl (decide (a < b)))):Z0V [fq a,fq b] Q :=
 ⟨_,_,_,_,by rw[fq_fr a,fq_fr b],q_den a,q_den b,bq_two ha hb,by
  rw[show decide (a.num * (b.den:Int) < b.num * (a.den:Int))=decide (a < b) from decide_eq_decide.mpr (Rat.lt_iff a b).symm]
  exact q⟩
theorem num_lt{q:Rat}:q.num < 0 ↔ q < 0:=by
 have:=Rat.num_nonneg (q:=q)
 rw[← Int.not_le,this,Rat.not_le]
theorem num_gt{q:Rat}:0 < q.num ↔ 0 < q:=by
 have h1:=Rat.num_nonneg (q:=q)
 have h2:=Rat.num_eq_zero (q:=q)
 constructor
 ·intro h
  have:0<=q:=h1.mp (by omega)
  have:q≠0:=fun e=>by have:=h2.mpr e;omega
  grind
 ·intro h
  have:0<=q.num:=h1.mpr (by grind)
  have:q.num≠0:=fun e=>by have:=h2.mp e;grind
  omega
theorem num_mul{a b:Rat}:a.num * b.num < 0 ↔ a * b < 0:=by
 constructor
 ·intro h
  rcases Int.lt_trichotomy a.num 0 with z|z|z
  ·have:0 < b.num:=by
    rcases Int.lt_or_le 0 b.num with y|y
    ·exact y
    ·have:=Int.mul_nonneg_of_nonpos_of_nonpos (Int.le_of_lt z) y;omega
   have:=q_ng (num_gt.mp this) (num_lt.mp z)
   grind
  ·rw[z,Int.zero_mul]at h;omega
  ·have:b.num < 0:=by
    rcases Int.lt_or_le b.num 0 with y|y
    ·exact y
    ·have:=Int.mul_nonneg (Int.le_of_lt z) y;omega
   exact q_ng (num_gt.mp z) (num_lt.mp this)
 ·intro h
  rcases q_sg h with ⟨z,y⟩|⟨z,y⟩
  ·exact Int.mul_neg_of_pos_of_neg (num_gt.mpr z) (num_lt.mpr y)
  ·exact Int.mul_neg_of_neg_of_pos (num_lt.mpr z) (num_gt.mpr y)
def pq(p:Pq):T:=.tup [fq p.1,fq p.2]
def Bp(k:Nat)(p:Pq):Prop:=Bq k p.1/\Bq k p.2
theorem Bp.mono{k k':Nat}{p:Pq}(h:Bp k p)(hk:k<=k'):Bp k' p:=⟨h.1.mono hk,h.2.mono hk⟩
theorem pn_fq(q:Rat):Pn 1 (fq q):=by
 refine Pn.tup fun t ht=>?_
 simp only[List.mem_cons,List.not_mem_nil,or_false]at ht
 rcases ht with rfl|rfl<;>exact Pn.int _
theorem pn_pq(p:Pq):Pn 2 (pq p):=by
 refine Pn.tup fun t ht=>?_
 simp only[List.mem_cons,List.not_mem_nil,or_false]at ht
 rcases ht with rfl|rfl<;>exact pn_fq _
theorem eqT_pq(a b:Pq):eqT (pq a) (pq b)=decide (a=b):=by
 show (eqT (fq a.1) (fq b.1)&&(eqT (fq a.2) (fq b.2)&&true))=_
 rw[eqT_fq,eqT_fq,Bool.and_true,← Bool.decide_and]
 exact decide_eq_decide.mpr ⟨fun h=>Prod.ext h.1 h.2,fun h=>by rw[h];exact⟨rfl,rfl⟩⟩
theorem eqOk_pq(a b:Pq):EqOk (pq a) (pq b):=(pn_pq a).ok (pn_pq b) (by decide)
abbrev pqL(l:List Pq):T:=.lst (l.map pq)
theorem pn_pqL(l:List Pq):Pn 3 (pqL l):=Pn.lst fun t ht=>by
 obtain⟨p,_,rfl⟩:=List.mem_map.mp ht
 exact pn_pq p
theorem eqOk_pqL(l l':List Pq):EqOk (pqL l) (pqL l'):=(pn_pqL l).ok (pn_pqL l') (by decide)
def Sz(n:Nat)(p:Pq):Prop:=∃x y w:Int,0 < w/\Lim n x/\Lim n y/\Lim n w/\p.1=(x:Rat) / (w:Rat)/\p.2=(y:Rat) / (w:Rat)
theorem Sz.mono{n m:Nat}{p:Pq}(h:Sz n p)(hm:n<=m):Sz m p:=by
 obtain⟨x,y,w,h0,h1,h2,h3,e⟩:=h
 exact⟨x,y,w,h0,h1.mono hm,h2.mono hm,h3.mono hm,e⟩
theorem Sz.bp{n:Nat}{p:Pq}(h:Sz n p):Bp n p:=by
 obtain⟨x,y,w,h0,h1,h2,h3,e1,e2⟩:=h
 exact⟨bq_of (by omega) h1 h3 e1,bq_of (by omega) h2 h3 e2⟩
theorem tq_det{x1 y1 w1 x2 y2 w2 x3 y3 w3:Rat}(h1:w1≠0)(h2:w2≠0)(h3:w3≠0) :
  tq (x1 / w1,y1 / w1) (x2 / w2,y2 / w2) (x3 / w3,y3 / w3)=(x1 * (y2 * w3 - w2 * y3) + y1 * (w2 * x3 - x2 * w3) + w1 * (x2 * y3 - y2 * x3)) / (w1 * (w2 * w3)):=by
 simp only[tq]
 grind
theorem Sz.tq{n:Nat}{a b c:Pq}(ha:Sz n a)(hb:Sz n b)(hc:Sz n c):Bq (3 * n + 3) (tq a b c):=by
 obtain⟨x1,y1,w1,p1,l1,m1,k1,e1,f1⟩:=ha
 obtain⟨x2,y2,w2,p2,l2,m2,k2,e2,f2⟩:=hb
 obtain⟨x3,y3,w3,p3,l3,m3,k3,e3,f3⟩:=hc
 have z:∀{p q r s t:Int},Lim n p->Lim n q->Lim n r->Lim n s->Lim n t->Lim (3 * n + 1) (p * (q * r - s * t)):=fun h1 h2 h3 h4 h5=>(h1.mul ((h2.mul h3).sub (h4.mul h5))).mono (by simp;omega)
 have L:=((z l1 m2 k3 k2 m3).add (z m1 k2 l3 l2 k3)).add (z k1 l2 m3 m2 l3)
 refine bq_of (n:=x1 * (y2 * w3 - w2 * y3) + y1 * (w2 * x3 - x2 * w3) + w1 * (x2 * y3 - y2 * x3)) (m:=w1 * (w2 * w3)) (Int.mul_ne_zero (by omega) (Int.mul_ne_zero (by omega) (by omega))) (L.mono (by omega)) ((k1.mul (k2.mul k3)).mono (by omega)) ?_
 have ea:a=((x1:Rat) / w1,(y1:Rat) / w1):=Prod.ext e1 f1
 have eb:b=((x2:Rat) / w2,(y2:Rat) / w2):=Prod.ext e2 f2
 have ec:c=((x3:Rat) / w3,(y3:Rat) / w3):=Prod.ext e3 f3
 rw[ea,eb,ec,tq_det (qi_ne (by omega)) (qi_ne (by omega)) (qi_ne (by omega))]
 simp only[Rat.intCast_add,Rat.intCast_sub,Rat.intCast_mul]
structure Ln(k:Nat)(u v w:Int):Prop where
 ne:u≠0∨v≠0
 lu:Lim k u
 lv:Lim k v
 lw:Lim k w
def On(u v w:Int)(p:Pq):Prop:=(u:Rat) * p.1 + (v:Rat) * p.2 + (w:Rat)=0
def Lnd(k:Nat)(p q:Pq):Prop:=∃u v w:Int,Ln k u v w/\On u v w p/\On u v w q
theorem solve2{u v w u' v' w' x y:Rat}(h1:u * x + v * y + w=0)(h2:u' * x + v' * y + w'=0)(d:u * v' - u' * v≠0):x=(v * w' - v' * w) / (u * v' - u' * v)/\y=(u' * w - u * w') / (u * v' - u' * v):=by
 constructor<;>grind
theorem meet_sz{k:Nat}{u v w u' v' w':Int}{p:Pq}(L:Ln k u v w)(L':Ln k u' v' w')(o:On u v w p)(o':On u' v' w' p)(d:u * v' - u' * v≠0):Sz (2 * k + 1) p:=by
 have z:∀{p q r s:Int},Lim k p->Lim k q->Lim k r->Lim k s->Lim (2 * k + 1) (p * q - r * s):=fun h1 h2 h3 h4=>((h1.mul h2).sub (h3.mul h4)).mono (by simp;omega)
 have d':(u:Rat) * v' - u' * v≠0:=by
  have:=qi_ne d
  rwa [Rat.intCast_sub,Rat.intCast_mul,Rat.intCast_mul]at this
 obtain⟨e1,e2⟩:=solve2 o o' d'
 have lx:=z L.lv L'.lw L'.lv L.lw
 have ly:=z L'.lu L.lw L.lu L'.lw
 have lw:=z L.lu L'.lv L'.lu L.lv
 rcases Int.lt_or_lt_of_ne d with y|y
 ·refine⟨-(v * w' - v' * w),-(u' * w - u * w'),-(u * v' - u' * v),by omega,lx.neg,ly.neg,lw.neg,?_,?_⟩
  ·rw[e1]
   simp only[Rat.intCast_neg,Rat.intCast_sub,Rat.intCast_mul]
   grind
  ·rw[e2]
   simp only[Rat.intCast_neg,Rat.intCast_sub,Rat.intCast_mul]
   grind
 ·refine⟨v * w' - v' * w,u' * w - u * w',u * v' - u' * v,by omega,lx,ly,lw,?_,?_⟩
  ·rw[e1]
   simp only[Rat.intCast_sub,Rat.intCast_mul]
  ·rw[e2]
   simp only[Rat.intCast_sub,Rat.intCast_mul]
theorem On.mid{u v w:Int}{p q:Pq}(h:On u v w p)(h':On u v w q)(t:Rat):On u v w (mid t p q):=by
 unfold On TL.mid at *
 simp only
 grind
theorem q_ne2{u v:Int}(h:u≠0∨v≠0):(u:Rat) * u + (v:Rat) * v≠0:=by
 have sq:∀x:Rat,0<=x * x:=fun x=>by
  rcases Rat.le_total (a:=0) (b:=x) with z|z
  ·exact q_nn z z
  ·have:=q_nn (show 0 <= -x by grind) (show 0 <= -x by grind)
   grind
 have sqp:∀x:Rat,x≠0->0 < x * x:=fun x hx=>by
  have:=sq x
  have:x * x≠0:=fun e=>hx (by grind)
  grind
 rcases h with h|h
 ·have:=sqp u (qi_ne h)
  have:=sq v
  grind
 ·have:=sqp v (qi_ne h)
  have:=sq u
  grind
theorem tq_line{u v w:Int}{a b:Pq}(n:u≠0∨v≠0)(ha:On u v w a)(hb:On u v w b)(hn:a≠b):∃s:Rat,s≠0/\∀q:Pq,tq a b q=s * ((u:Rat) * q.1 + (v:Rat) * q.2 + (w:Rat)):=by
 have D:=q_ne2 n
 unfold On at ha hb
 have e:∀q:Pq,((u:Rat) * u + (v:Rat) * v) * tq a b q=((b.1 - a.1) * v - (b.2 - a.2) * u) * ((u:Rat) * q.1 + (v:Rat) * q.2 + (w:Rat)):=fun q=>by
  simp only[tq]
  generalize (u:Rat)=u at *
  generalize (v:Rat)=v at *
  generalize (w:Rat)=w at *
  grind
 obtain⟨z,hz⟩:=tq_ndg hn
 generalize (u:Rat)=u at *
 generalize (v:Rat)=v at *
 generalize (w:Rat)=w at *
 refine⟨((b.1 - a.1) * v - (b.2 - a.2) * u) / (u * u + v * v),fun h=>hz ?_,fun q=>?_⟩
 ·have:=e z
  have h2:(b.1 - a.1) * v - (b.2 - a.2) * u=0:=by
   generalize (b.1 - a.1) * v - (b.2 - a.2) * u=s at *
   grind
  rw[h2]at this
  generalize tq a b z=y at *
  grind
 ·have:=e q
  generalize tq a b q=y at *
  grind
structure Lined(k:Nat)(l:List Pq):Prop where
 sz:∀p∈l,Sz (2 * k + 1) p
 ed:∀e∈edW l,Lnd k e.1 e.2
theorem Lined.cut{k:Nat}{l:List Pq}(h:Lined k l){a b:Pq}(hl:Lnd k a b)(hn:a≠b):Lined k (cuW (tq a b) l):=by
 obtain⟨u,v,w,L,oa,ob⟩:=hl
 obtain⟨s,s0,hs⟩:=tq_line L.ne oa ob hn
 have on0:∀{p:Pq},tq a b p=0->On u v w p:=fun {p} e=>by
  rw[hs]at e
  unfold On
  generalize (u:Rat) * p.1 + (v:Rat) * p.2 + (w:Rat)=y at *
  grind
 refine⟨fun p hp=>?_,fun e he=>?_⟩
 ·rcases cuW_mem hp with ⟨m,_⟩|⟨e,m,c,rfl⟩
  ·exact h.sz p m
  ·obtain⟨u',v',w',L',o1,o2⟩:=h.ed e m
   have oc:=on0 (crq_zero (af_tq a b) c)
   have oc':On u' v' w' (crq (tq a b) e.1 e.2):=o1.mid o2 _
   refine meet_sz L L' oc oc' fun d=>?_
   have d':(u:Rat) * v' - u' * v=0:=by
    have:=congrArg (Int.cast:Int->Rat) d
    rwa [Rat.intCast_sub,Rat.intCast_mul,Rat.intCast_mul]at this
   have c1:=hs e.1
   have c2:=hs e.2
   have ne:tq a b e.1≠tq a b e.2:=fun z=>by
    rcases q_sg c with ⟨y,x⟩|⟨y,x⟩<;>grind
   have D:=q_ne2 L'.ne
   unfold On at o1 o2
   refine ne ?_
   rw[c1,c2]
   clear c1 c2 ne oc oc' c hs on0
   have e1:((u':Rat) * u' + (v':Rat) * v') * ((u:Rat) * e.1.1 + (v:Rat) * e.1.2 - ((u:Rat) * e.2.1 + (v:Rat) * e.2.2))=0:=by
    generalize (u:Rat)=u at *
    generalize (v:Rat)=v at *
    generalize (u':Rat)=u' at *
    generalize (v':Rat)=v' at *
    generalize (w':Rat)=w' at *
    grind
   have e2:(u:Rat) * e.1.1 + (v:Rat) * e.1.2 - ((u:Rat) * e.2.1 + (v:Rat) * e.2.2)=0:=by
    generalize (u:Rat) * e.1.1 + (v:Rat) * e.1.2 - ((u:Rat) * e.2.1 + (v:Rat) * e.2.2)=y at *
    grind
   grind
 ·rcases cuW_edges (af_tq a b) ⟨a,tq_aba _ _⟩ l e he with ⟨e',m,st⟩|⟨z1,z2⟩
  ·obtain⟨s,t,_,_,_,e1,e2⟩:=st
   obtain⟨u',v',w',L',o1,o2⟩:=h.ed e' m
   exact⟨u',v',w',L',by rw[e1];exact o1.mid o2 _,by rw[e2];exact o1.mid o2 _⟩
  ·exact⟨u,v,w,L,on0 z1,on0 z2⟩
theorem Lined.cuts{k:Nat}:∀{es:List (Pq×Pq)}{l:List Pq},Lined k l->(∀e∈es,Lnd k e.1 e.2/\e.1≠e.2)->Lined k (cuA es l)
 | [],l,h,_=>h
 | e::es,l,h,he=>by
  rw[cuA]
  exact Lined.cuts (h.cut (he e mcs).1 (he e mcs).2) fun e' m=>he e' (mcm _ m)
theorem Lined.rot{k:Nat}{A B:List Pq}(h:Lined k (A++B)):Lined k (B++A) :=
 ⟨fun p hp=>h.sz p (by rcases List.mem_append.mp hp with z|z;exact List.mem_append_right _ z;exact List.mem_append_left _ z),fun e he=>h.ed e (edW_mem_rot.mpr he)⟩
theorem lnd_of{n:Nat}{a b:Pq}(ha:Sz n a)(hb:Sz n b)(hn:a≠b):Lnd (2 * n + 1) a b:=by
 obtain⟨x1,y1,w1,p1,l1,m1,k1,e1,f1⟩:=ha
 obtain⟨x2,y2,w2,p2,l2,m2,k2,e2,f2⟩:=hb
 have z:∀{p q r s:Int},Lim n p->Lim n q->Lim n r->Lim n s->Lim (2 * n + 1) (p * q - r * s):=fun h1 h2 h3 h4=>((h1.mul h2).sub (h3.mul h4)).mono (by simp;omega)
 have q1:(w1:Rat)≠0:=qi_ne (by omega)
 have q2:(w2:Rat)≠0:=qi_ne (by omega)
 refine⟨y1 * w2 - y2 * w1,x2 * w1 - x1 * w2,x1 * y2 - x2 * y1,⟨?_,z m1 k2 m2 k1,z l2 k1 l1 k2,z l1 m2 l2 m1⟩,?_,?_⟩
 ·refine Classical.byContradiction fun c=>hn ?_
  have c1:y1 * w2 - y2 * w1=0:=Classical.byContradiction fun y=>c (.inl y)
  have c2:x2 * w1 - x1 * w2=0:=Classical.byContradiction fun y=>c (.inr y)
  have d1:=congrArg (Int.cast:Int->Rat) c1
  have d2:=congrArg (Int.cast:Int->Rat) c2
  rw[Rat.intCast_sub,Rat.intCast_mul,Rat.intCast_mul]at d1 d2
  refine Prod.ext ?_ ?_
  ·rw[e1,e2];grind
  ·rw[f1,f2];grind
 ·unfold On
  rw[e1,f1]
  simp only[Rat.intCast_sub,Rat.intCast_mul]
  grind
 ·unfold On
  rw[e2,f2]
  simp only[Rat.intCast_sub,Rat.intCast_mul]
  grind
theorem Rnd.lined{n:Nat}{l:List Pq}(h:Rnd l)(hs:∀p∈l,Sz n p):Lined (2 * n + 1) l :=
 ⟨fun p hp=>(hs p hp).mono (by omega),fun e he=>lnd_of (hs _ (edW_ends he).1) (hs _ (edW_ends he).2) (h.sc.ed_ne h.len he)⟩
def Rot(l l':List Pq):Prop:=∃A B,l=A++B/\l'=B++A
theorem Rot.refl(l:List Pq):Rot l l:=⟨[],l,rfl,by simp⟩
theorem Rot.symm{l l':List Pq}(h:Rot l l'):Rot l' l:=by
 obtain⟨A,B,rfl,rfl⟩:=h
 exact⟨B,A,rfl,rfl⟩
theorem Rot.trans{l l' l'':List Pq}(h:Rot l l')(h':Rot l' l''):Rot l l'':=by
 obtain⟨A,B,rfl,rfl⟩:=h
 obtain⟨C,D,e,rfl⟩:=h'
 rcases List.append_eq_append_iff.mp e with ⟨a,rfl,rfl⟩|⟨c,rfl,rfl⟩
 ·exact⟨a,D++B,by simp,by simp⟩
 ·exact⟨A++C,c,by simp,by simp⟩
theorem Rot.len{l l':List Pq}(h:Rot l l'):l.length=l'.length:=by
 obtain⟨A,B,rfl,rfl⟩:=h
 simp[Nat.add_comm]
theorem Rot.cut{l l':List Pq}(f:Pq->Rat)(h:Rot l l'):Rot (cuW f l) (cuW f l'):=by
 obtain⟨A,B,rfl,rfl⟩:=h
 obtain⟨C,D,e1,e2⟩:=cuW_rot f A B
 exact⟨C,D,e1,e2⟩
theorem pn_len{f:Pq->Rat}{l P N:List Pq}(h:Rot l (P++N))(hP:∀p∈P,0<=f p)(hN:∀n∈N,f n < 0):(cuW f l).length<=l.length + 1:=by
 rw[h.len,(h.cut f).len]
 cases P with
 | nil=>rw[List.nil_append,cuW_ng f hN];simp
 | cons p1 P =>
  cases N with
  | nil=>rw[List.append_nil,cuW_nn f hP];omega
  | cons n1 N =>
   rw[cuW_pn f p1 P n1 N hP hN]
   split<;>split<;>simp<;>omega
def Blk(l:List Pq):Prop:=∃u v a b,Rot l (List.replicate a u++List.replicate b v)
theorem crq_comm{f:Pq->Rat}{a b:Pq}(h:f a - f b≠0):crq f a b=crq f b a:=by
 have h':f b - f a≠0:=by grind
 unfold crq mid
 refine Prod.ext ?_ ?_
 ·show a.1 + f a / (f a - f b) * (b.1 - a.1)=b.1 + f b / (f b - f a) * (a.1 - b.1)
  grind
 ·show a.2 + f a / (f a - f b) * (b.2 - a.2)=b.2 + f b / (f b - f a) * (a.2 - b.2)
  grind
theorem last_rep(a:Nat)(u d:Pq):(List.replicate a u).getLastD u=u:=by
 induction a with
 | zero=>rfl
 | succ a ih=>rw[List.replicate_succ,List.getLastD_cons,ih]
theorem blk_pn{f:Pq->Rat}{u v:Pq}{a b:Nat}(hu:0<=f u)(hv:f v < 0):Blk (cuW f (List.replicate a u++List.replicate b v)):=by
 have hP:∀p∈List.replicate a u,0<=f p:=fun p hp=>by rw[(List.mem_replicate.mp hp).2];exact hu
 have hN:∀n∈List.replicate b v,f n < 0:=fun p hp=>by rw[(List.mem_replicate.mp hp).2];exact hv
 cases a with
 | zero =>
  rw[List.replicate_zero,List.nil_append,cuW_ng f hN]
  exact⟨u,v,0,0,Rot.refl _⟩
 | succ a =>
  cases b with
  | zero =>
   rw[List.replicate_zero,List.append_nil,cuW_nn f hP]
   exact⟨u,v,a + 1,0,by simp only[List.replicate_zero,List.append_nil];exact Rot.refl _⟩
  | succ b =>
   simp only[List.replicate_succ]at hP hN ⊢
   rw[cuW_pn f u _ v _ hP hN,last_rep b v v,last_rep a u u]
   by_cases c:f v * f u < 0
   ·rw[if_pos c,if_pos (by grind),crq_comm (a:=v) (b:=u) (by grind)]
    refine⟨u,crq f u v,a + 1,2,⟨[crq f u v],_,rfl,?_⟩⟩
    simp[List.replicate_succ]
   ·rw[if_neg c,if_neg (by grind)]
    exact⟨u,v,a + 1,0,by simp only[List.nil_append,List.replicate_zero,List.append_nil,List.replicate_succ];exact Rot.refl _⟩
theorem Blk.cut{l:List Pq}(f:Pq->Rat)(h:Blk l):Blk (cuW f l)/\(cuW f l).length<=l.length + 1:=by
 obtain⟨u,v,a,b,h⟩:=h
 have go:∀{l':List Pq},Rot l l'->Blk (cuW f l')->Blk (cuW f l):=fun r ⟨u,v,a,b,k⟩=>⟨u,v,a,b,(r.cut f).trans k⟩
 have rep:∀{P:Pq->Prop}{a:Nat}{u:Pq},P u->∀p∈List.replicate a u,P p:=fun h p hp=>by rw[(List.mem_replicate.mp hp).2];exact h
 have h2:Rot l (List.replicate b v++List.replicate a u):=h.trans ⟨_,_,rfl,rfl⟩
 by_cases hu:0<=f u
 ·by_cases hv:0<=f v
  ·have hP:∀p∈List.replicate a u++List.replicate b v,0<=f p:=fun p hp=>by
    rcases List.mem_append.mp hp with z|z
    ·exact rep (P:=fun p=>0<=f p) hu p z
    ·exact rep (P:=fun p=>0<=f p) hv p z
   refine⟨go h ?_,?_⟩
   ·rw[cuW_nn f hP]
    exact⟨u,v,a,b,Rot.refl _⟩
   ·exact pn_len (P:=List.replicate a u++List.replicate b v) (N:=[]) (by rw[List.append_nil];exact h) hP (by simp)
  ·have hv:=Rat.not_le.mp hv
   exact⟨go h (blk_pn hu hv),pn_len h (rep (P:=fun p=>0<=f p) hu) (rep (P:=fun p=>f p < 0) hv)⟩
 ·have hu:=Rat.not_le.mp hu
  by_cases hv:0<=f v
  ·exact⟨go h2 (blk_pn hv hu),pn_len h2 (rep (P:=fun p=>0<=f p) hv) (rep (P:=fun p=>f p < 0) hu)⟩
  ·have hv:=Rat.not_le.mp hv
   have hN:∀p∈List.replicate a u++List.replicate b v,f p < 0:=fun p hp=>by
    rcases List.mem_append.mp hp with z|z
    ·exact rep (P:=fun p=>f p < 0) hu p z
    ·exact rep (P:=fun p=>f p < 0) hv p z
   refine⟨go h ?_,pn_len (P:=[]) (by rw[List.nil_append];exact h) (by simp) hN⟩
   rw[cuW_ng f hN]
   exact⟨u,v,0,0,Rot.refl _⟩
theorem cuL_sub{f:Pq->Rat}:∀(a:Pq)(r:List Pq),f a<=0->(∀p∈r,f p<=0)->List.Sublist (cuL f a r) r/\∀p∈cuL f a r,f p=0
 | a,[],_,_=>⟨List.Sublist.refl _,by simp[cuL]⟩
 | a,b::r,ha,h=>by
  have hb:=h b mcs
  obtain⟨i1,i2⟩:=cuL_sub b r hb fun p hp=>h p (mcm _ hp)
  have nc:¬ f a * f b < 0:=by have:=q_nn (show 0 <= -f a by grind) (show 0 <= -f b by grind);grind
  rw[cuL,if_neg nc,List.nil_append]
  by_cases c:0<=f b
  ·rw[if_pos c]
   refine⟨List.Sublist.cons_cons _ i1,fun p hp=>?_⟩
   rcases List.mem_cons.mp hp with rfl|hp
   ·grind
   ·exact i2 p hp
  ·rw[if_neg c,List.nil_append]
   exact⟨i1.trans (List.sublist_cons_self _ _),i2⟩
theorem short_blk{l:List Pq}(h:l.length<=2):Blk l:=by
 cases l with
 | nil=>exact⟨(0,0),(0,0),0,0,Rot.refl _⟩
 | cons a l =>
  cases l with
  | nil=>exact⟨a,a,1,0,Rot.refl _⟩
  | cons b l =>
   cases l with
   | nil=>exact⟨a,b,1,1,Rot.refl _⟩
   | cons c l=>simp at h
def Sln(l:List Pq):Prop:=(SCv l/\3<=l.length)∨Blk l
theorem Sln.cut{l:List Pq}{f:Pq->Rat}(h:Sln l)(hf:Af f)(hn:∃z,f z≠0):Sln (cuW f l)/\(cuW f l).length<=l.length + 1:=by
 rcases h with ⟨h,hl⟩|h
 ·by_cases hp:∃p∈l,0 < f p
  ·refine⟨.inl (h.cut hl hf hp),?_⟩
   obtain⟨A,B,P,N,rfl,e,hP,hN⟩:=h.pn hf
   exact pn_len ⟨A,B,rfl,e.symm⟩ hP hN
  ·have hp':∀p∈l,f p<=0:=fun p hm=>Rat.not_lt.mp fun c=>hp ⟨p,hm,c⟩
   have key:List.Sublist (cuW f l) l/\∀p∈cuW f l,f p=0:=by
    cases l with
    | nil=>exact⟨List.Sublist.refl _,by simp[cuW]⟩
    | cons a r =>
     rw[cuW]
     exact cuL_sub _ _ (hp' _ (last_mem a r)) hp'
   have:(cuW f l).length<=2:=by
    refine Nat.le_of_not_lt fun c=>?_
    obtain⟨k1,k2⟩:=key
    generalize cuW f l=m at *
    cases m with
    | nil=>simp at c
    | cons x m =>
     cases m with
     | nil=>simp at c
     | cons y m =>
      cases m with
      | nil=>simp at c
      | cons z m =>
       have:=h x y z ((csc (csc (csc (List.nil_sublist m)))).trans k1)
       rw[af_line hf hn (k2 x (by simp)) (k2 y (by simp)) (k2 z (by simp))]at this
       exact Rat.lt_irrefl this
   exact⟨.inr (short_blk this),by omega⟩
 ·obtain⟨h1,h2⟩:=h.cut f
  exact⟨.inr h1,h2⟩
theorem Sln.cuts:∀{es:List (Pq×Pq)}{l:List Pq},Sln l->(∀e∈es,e.1≠e.2)->(cuA es l).length<=l.length + es.length
 | [],l,_,_=>by simp[cuA]
 | e::es,l,h,he=>by
  obtain⟨h1,h2⟩:=h.cut (af_tq e.1 e.2) (tq_ndg (he e mcs))
  have:=Sln.cuts (es:=es) h1 fun e' m=>he e' (mcm _ m)
  rw[cuA]
  simp only[List.length_cons]
  omega
theorem edL_len:∀(a:Pq)(r:List Pq),(edL a r).length=r.length
 | _,[]=>rfl
 | _,b::r=>by simp[edL,edL_len b r]
theorem edW_len(l:List Pq):(edW l).length=l.length:=by
 cases l with
 | nil=>rfl
 | cons a r=>exact edL_len _ _
theorem tqs{a b c:Pq}(n:Nat)(ha:Bp n a)(hb:Bp n b)(hc:Bp n c):Bq (2 * n + 1) (b.1 - a.1)/\Bq (2 * n + 1) (c.2 - a.2)/\Bq (2 * n + 1) (b.2 - a.2)/\Bq (2 * n + 1) (c.1 - a.1) :=
 ⟨(hb.1.sub ha.1).mono (by omega),(hc.2.sub ha.2).mono (by omega),(hb.2.sub ha.2).mono (by omega),(hc.1.sub ha.1).mono (by omega)⟩
def Z0p:SpT:=fun ts Q=>∃a b c:Pq,ts=[pq a,pq b,pq c]/\Bp 100 a/\Bp 100 b/\Bp 100 c/\Q (fq (tq a b c))
theorem Z5o:∀ts Q,Z0p ts Q->ts.length=3:=by rintro ts Q ⟨_,_,_,e,_⟩;subst e;rfl
def Z2R:WE :=
 (wCall Z00 (aCons (w2 rIxTT (wVar 1) (wVar 0)) (aCons (w2 rIxTT (wVar 2) (wVar 0)) aNil)))
def Z2S:WE :=
 (wCall Z00 (aCons (w2 rIxTT (wVar 1) (wVar 0)) (aCons (w2 rIxTT (wVar 2) (wVar 0)) aNil)))
def Z3P:WS :=
 (sSeq (sSet 3 (wComp (iRange1 (aCons (wC (.int 2)) aNil)) (gN 0) tTrue Z2R 1 [1,0]))
  (sSeq (sSet 4 (wComp (iRange1 (aCons (wC (.int 2)) aNil)) (gN 0) tTrue Z2S 1 [2,0]))
  (sRet (wCall Z00 (aCons (wCall Z01 (aCons (w2 rIxTT (wVar 3) (wC (.int 0))) (aCons (w2 rIxTT (wVar 4) (wC (.int 1))) aNil))) (aCons (wCall Z01 (aCons (w2 rIxTT (wVar 3) (wC (.int 1))) (aCons (w2 rIxTT (wVar 4) (wC (.int 0))) aNil))) aNil))))))
theorem Z5O:∀ts Q,Z0p ts Q->Z3P {nx:=fun _=>Q .non,rt:=Q} (startT 5 ts):=by
 rintro _ Q ⟨x,y,z,rfl,hx,hy,hz,h⟩
 obtain⟨SL,hSL⟩:∃S,S=Z00:=⟨_,rfl⟩
 obtain⟨ST,hST⟩:∃S,S=Z01:=⟨_,rfl⟩
 have cl:∀{a b:Rat}{Q:T->Prop},Bq 900 a->Bq 900 b->Q (fq (a - b))->SL [fq a,fq b] Q:=fun ha hb q=>by rw[hSL];exact less_cal ha hb q
 have ct:∀{a b:Rat}{Q:T->Prop},Bq 900 a->Bq 900 b->Q (fq (a * b))->ST [fq a,fq b] Q:=fun ha hb q=>by rw[hST];exact times_cal ha hb q
 obtain⟨d1,d2,d3,d4⟩:=tqs 100 hx hy hz
 have up:∀{q:Rat},Bq 100 q->Bq 900 q:=fun h=>h.mono (by decide)
 have u2:∀{q:Rat},Bq (2 * 100 + 1) q->Bq 900 q:=fun h=>h.mono (by decide)
 unfold Z3P
 obtain⟨W0,hW0⟩:∃W,W=Z2R:=⟨_,rfl⟩
 obtain⟨W1,hW1⟩:∃W,W=Z2S:=⟨_,rfl⟩
 have c0:∀{Q:T->Prop}{a b:Pq}{i:Int}{s t:Rat},atI [fq a.1,fq a.2] i=some (fq s)->atI [fq b.1,fq b.2] i=some (fq t)->Bq 100 s->Bq 100 t->Q (fq (s - t))->W0 [.val (.int i),.val (pq a),.val (pq b)] Q:=fun {Q a b i s t} e1 e2 h1 h2 q=>by
  rw[hW0]
  unfold Z2R
  rw[← hSL]
  walk_at "go"
  rw[e1]
  walk_at "go"
  rw[e2]
  exact cl (up h1) (up h2) q
 have c1:∀{Q:T->Prop}{a b:Pq}{i:Int}{s t:Rat},atI [fq a.1,fq a.2] i=some (fq s)->atI [fq b.1,fq b.2] i=some (fq t)->Bq 100 s->Bq 100 t->Q (fq (s - t))->W1 [.val (.int i),.val (pq a),.val (pq b)] Q:=fun {Q a b i s t} e1 e2 h1 h2 q=>by
  rw[hW1]
  unfold Z2S
  rw[← hSL]
  walk_at "go"
  rw[e1]
  walk_at "go"
  rw[e2]
  exact cl (up h1) (up h2) q
 rw[← hW0,← hW1,← hSL,← hST]
 walk_at "go"
 refine c0 (a:=y) (b:=x) rfl rfl hy.1 hx.1 ?_
 walk_at "go"
 refine c0 (a:=y) (b:=x) rfl rfl hy.2 hx.2 ?_
 walk_at "go"
 refine c1 (a:=z) (b:=x) rfl rfl hz.1 hx.1 ?_
 walk_at "go"
 refine c1 (a:=z) (b:=x) rfl rfl hz.2 hx.2 ?_
 walk_at "go"
 refine ct (u2 d1) (u2 d2) ?_
 walk_at "go"
 refine ct (u2 d3) (u2 d4) ?_
 exact cl ((d1.mul d2).mono (by decide)) ((d3.mul d4).mono (by decide)) h
theorem turn_cal{a b c:Pq}{Q:T->Prop}(ha:Bp 100 a)(hb:Bp 100 b)(hc:Bp 100 c)(q:Q (fq (tq a b c))):Z0p [pq a,pq b,pq c] Q:=⟨a,b,c,rfl,ha,hb,hc,q⟩
def Z0y:SpT:=fun ts Q=>∃(a b:Pq) (t:Rat),ts=[pq a,pq b,fq t]/\Bp 80 a/\Bp 80 b/\Bq 700 t/\Q (pq (mid t a b))
theorem Z3Q:∀ts Q,Z0y ts Q->ts.length=3:=by rintro ts Q ⟨_,_,_,e,_⟩;subst e;rfl
def Z1E:WE :=
 (wCall Z03 (aCons (w2 rIxTT (wVar 1) (wVar 0)) (aCons (wCall Z01 (aCons (wVar 2) (aCons (wCall Z00 (aCons (w2 rIxTT (wVar 3) (wVar 0)) (aCons (w2 rIxTT (wVar 1) (wVar 0)) aNil))) aNil))) aNil)))
def Z21:WS :=
 (sRet (wCB rTupleT (aCons (wComp (iRange1 (aCons (wC (.int 2)) aNil)) (gN 0) tTrue Z1E 1 [0,2,1]) aNil)))
theorem Z3Z:∀ts Q,Z0y ts Q->Z21 {nx:=fun _=>Q .non,rt:=Q} (startT 3 ts):=by
 rintro _ Q ⟨a,b,t,rfl,ha,hb,ht,q⟩
 obtain⟨SL,hSL⟩:∃S,S=Z00:=⟨_,rfl⟩
 obtain⟨ST,hST⟩:∃S,S=Z01:=⟨_,rfl⟩
 obtain⟨SS,hSS⟩:∃S,S=Z03:=⟨_,rfl⟩
 have cl:∀{a b:Rat}{Q:T->Prop},Bq 900 a->Bq 900 b->Q (fq (a - b))->SL [fq a,fq b] Q:=fun ha hb q=>by rw[hSL];exact less_cal ha hb q
 have ct:∀{a b:Rat}{Q:T->Prop},Bq 900 a->Bq 900 b->Q (fq (a * b))->ST [fq a,fq b] Q:=fun ha hb q=>by rw[hST];exact times_cal ha hb q
 have cs:∀{a b:Rat}{Q:T->Prop},Bq 900 a->Bq 900 b->Q (fq (a + b))->SS [fq a,fq b] Q:=fun ha hb q=>by rw[hSS];exact sum_cal ha hb q
 have up:∀{q:Rat},Bq 80 q->Bq 900 q:=fun h=>h.mono (by decide)
 unfold Z21
 obtain⟨W0,hW0⟩:∃W,W=Z1E:=⟨_,rfl⟩
 rw[← hW0]
 have c0:∀{k:Int}{x y:Rat}{Q:T->Prop},atI [fq a.1,fq a.2] k=some (fq x)->atI [fq b.1,fq b.2] k=some (fq y)->Bq 80 x->Bq 80 y->Q (fq (x + t * (y - x)))->W0 [.val (.int k),.val (pq a),.val (fq t),.val (pq b)] Q:=fun {k x y Q} ex ey lx ly hQ=>by
  rw[hW0]
  unfold Z1E
  rw[← hSL,← hST,← hSS]
  walk_at "go"
  rw[ex]
  walk_at "go"
  rw[ey]
  walk_at "go"
  try rw[ex]
  try walk_at "go"
  have d:Bq 161 (y - x):=(ly.sub lx).mono (by decide)
  refine cl (up ly) (up lx) ?_
  walk_at "go"
  refine ct (ht.mono (by decide)) (d.mono (by decide)) ?_
  exact cs (up lx) ((ht.mul d).mono (by decide)) hQ
 walk_at "go"
 refine c0 rfl rfl ha.1 hb.1 ?_
 walk_at "go"
 refine c0 rfl rfl ha.2 hb.2 ?_
 walk_at "go"
 exact q
instance (p q:Pq):Decidable (lowq p q):=by unfold lowq;infer_instance
def Z0t:SpT:=fun ts Q=>∃p q:Pq,ts=[pq p,pq q]/\Bp 100 p/\Bp 100 q/\Q (.bl (decide (lowq p q)))
theorem Z3M:∀ts Q,Z0t ts Q->ts.length=2:=by rintro ts Q ⟨_,_,e,_⟩;subst e;rfl
def Z1X:WS :=
 (sSeq (sIf (tCmpT cNeT (w2 rIxTT (wVar 0) (wC (.int 0))) (w2 rIxTT (wVar 1) (wC (.int 0)))) (sRet (wCall Z0V (aCons (w2 rIxTT (wVar 0) (wC (.int 0))) (aCons (w2 rIxTT (wVar 1) (wC (.int 0))) aNil)))) sNext)
  (sRet (wCall Z0V (aCons (w2 rIxTT (wVar 0) (wC (.int 1))) (aCons (w2 rIxTT (wVar 1) (wC (.int 1))) aNil)))))
theorem Z3R:∀ts Q,Z0t ts Q->Z1X {nx:=fun _=>Q .non,rt:=Q} (startT 2 ts):=by
 rintro _ Q ⟨p,q,rfl,hp,hq,h⟩
 obtain⟨S,hS⟩:∃S,S=Z0V:=⟨_,rfl⟩
 have cu:∀{x y:Rat}{Q:T->Prop},Bq 100 x->Bq 100 y->Q (.bl (decide (x < y)))->S [fq x,fq y] Q:=fun a b c=>by rw[hS];exact under_cal (a.mono (by decide)) (b.mono (by decide)) c
 unfold Z1X
 rw[← hS]
 walk_at "tw"
 refine⟨eqOk_fq _ _,?_⟩
 rw[eqT_fq]
 by_cases e:p.1=q.1
 ·rw[show (!decide (p.1=q.1))=false by rw[decide_eq_true e];rfl]
  refine⟨(fun z=>by cases z),fun _=>cu hp.2 hq.2 ?_⟩
  rw[show decide (lowq p q)=decide (p.2 < q.2) from decide_eq_decide.mpr (by unfold lowq;grind)]at h
  exact h
 ·rw[show (!decide (p.1=q.1))=true by rw[decide_eq_false e];rfl]
  refine⟨fun _=>cu hp.1 hq.1 ?_,(fun z=>by cases z)⟩
  rw[show decide (lowq p q)=decide (p.1 < q.1) from decide_eq_decide.mpr (by unfold lowq;grind)]at h
  exact h
abbrev Pz:=Pq×Rat
def crz(a b:Pz):Pq:=mid (a.2 / (a.2 - b.2)) a.1 b.1
def chL:Pz->List Pz->List Pq
 | _,[]=>[]
 | a,b::r=>(if a.2 * b.2 < 0 then [crz a b] else [])++((if 0<=b.2 then [b.1] else [])++chL b r)
def chW:List Pz->List Pq
 | []=>[]
 | a::r=>chL (r.getLastD a) (a::r)
def hz(f:Pq->Rat)(p:Pq):Pz:=(p,f p)
theorem chL_cuL(f:Pq->Rat):∀(a:Pq)(r:List Pq),chL (hz f a) (r.map (hz f))=cuL f a r
 | a,[]=>rfl
 | a,b::r=>by
  rw[List.map_cons,chL,cuL,chL_cuL f b r]
  rfl
theorem last_map{α β:Type}(f:α->β):∀(a:α)(r:List α),(r.map f).getLastD (f a)=f (r.getLastD a)
 | _,[]=>rfl
 | a,b::r=>by rw[List.map_cons,List.getLastD_cons,List.getLastD_cons,last_map f b r]
theorem chW_cuW(f:Pq->Rat)(l:List Pq):chW (l.map (hz f))=cuW f l:=by
 cases l with
 | nil=>rfl
 | cons a r =>
  rw[List.map_cons,chW,cuW,last_map,← List.map_cons,chL_cuL]
def Z07:SpT:=fun ts Q=>∃(ps:List Pz),ts=[pqL (ps.map (·.1)),.lst ((ps.map (·.2)).map fq)]/\ps.length<=100/\(∀p∈ps,Bp 80 p.1/\Bq 230 p.2)/\Q (pqL (chW ps))
theorem Z3S:∀ts Q,Z07 ts Q->ts.length=2:=by rintro ts Q ⟨_,e,_⟩;subst e;rfl
def Z10:WS :=
 (sIf (tCmpT cGeT (w2 rIxTT (wVar 5) (wC (.int 0))) (wC (.int 0))) (sApp 2 (wVar 4)) sNext)
def Z0n:WS :=
 (sSeq (sSet 5 (w2 rIxTT (wVar 1) (wVar 3)))
  (sSeq (sSet 6 (w2 rIxTT (wVar 1) (w2 rSubT (wVar 3) (wC (.int 1)))))
  (sSeq (sIf (tCmpT cLtT (w2 rMulT (w2 rIxTT (wVar 5) (wC (.int 0))) (w2 rIxTT (wVar 6) (wC (.int 0)))) (wC (.int 0))) (sSeq (sSet 7 (wCall Z0w (aCons (wVar 6) (aCons (wCall Z00 (aCons (wVar 6) (aCons (wVar 5) aNil))) aNil))))
  (sApp 2 (wCall Z0y (aCons (w2 rIxTT (wVar 0) (w2 rSubT (wVar 3) (wC (.int 1)))) (aCons (wVar 4) (aCons (wVar 7) aNil)))))) sNext)
  Z10)))
def Z22:WS :=
 (sSeq (sOwn 2 aNil)
  (sSeq (sFor (iEnum (aCons (wVar 0) aNil)) (gT 2 (gsC (gN 3) (gsC (gN 4) gs0))) Z0n)
  (sFrz 2 (sRet (wVar 2)))))
theorem cut_b0{D:DT}{acc:List Pq}{us hs:List T}{a b:Pz}{i:Int}{s5 s6 s7:Slot}(ea:atI us (i - 1)=some (pq a.1))(eh:atI hs i=some (fq (b.2)))(eg:atI hs (i - 1)=some (fq (a.2)))(ha:Bp 80 a.1/\Bq 230 a.2)(hb:Bp 80 b.1/\Bq 230 b.2)(la:acc.length < 900)
  (h:∀s5 s6 s7,D.nx [.val (.lst us),.val (.lst hs),.own ((acc++((if a.2 * b.2 < 0 then [crz a b] else [])++(if 0<=b.2 then [b.1] else []))).map pq),.val (.int i),.val (pq b.1),s5,s6,s7]) :
  Z0n D [.val (.lst us),.val (.lst hs),.own (acc.map pq),.val (.int i),.val (pq b.1),s5,s6,s7]:=by
 obtain⟨SL,hSL⟩:∃S,S=Z00:=⟨_,rfl⟩
 obtain⟨SB,hSB⟩:∃S,S=Z0w:=⟨_,rfl⟩
 obtain⟨SP,hSP⟩:∃S,S=Z0y:=⟨_,rfl⟩
 have cl:∀{a b:Rat}{Q:T->Prop},Bq 900 a->Bq 900 b->Q (fq (a - b))->SL [fq a,fq b] Q:=fun ha hb q=>by rw[hSL];exact less_cal ha hb q
 have cb:∀{a b:Rat}{Q:T->Prop},Bq 900 a->Bq 900 b->b≠0->Q (fq (a / b))->SB [fq a,fq b] Q:=fun ha hb h q=>by rw[hSB];exact by_cal ha hb h q
 have cp:∀{a b:Pq}{t:Rat}{Q:T->Prop},Bp 80 a->Bp 80 b->Bq 700 t->Q (pq (mid t a b))->SP [pq a,pq b,fq t] Q:=fun ha hb ht q=>by rw[hSP];exact⟨_,_,_,rfl,ha,hb,ht,q⟩
 have mo:MulOk b.2.num a.2.num:=mulOk hb.2.1 ha.2.1
 have k0:∀(acc':List Pq)(s7:Slot),acc'.length < 950->acc++(if a.2 * b.2 < 0 then [crz a b] else [])=acc'->Z10 D [.val (.lst us),.val (.lst hs),.own (acc'.map pq),.val (.int i),.val (pq b.1),.val (fq (b.2)),.val (fq (a.2)),s7]:=fun acc' s7 hl e=>by
  rw[← List.append_assoc,e]at h
  have hL:(acc'.map pq).length < 1000:=by rw[List.length_map];omega
  have en:0<=b.2.num ↔ 0<=b.2:=Rat.num_nonneg
  unfold Z10
  walk_at "tw"
  by_cases hy:0<=b.2
  ·rw[if_pos hy]at h
   have e3:decide (0<=b.2.num)=true:=decide_eq_true (en.mpr hy)
   refine⟨fun _=>⟨hL,?_⟩,fun z=>Bool.noConfusion (e3.symm.trans z)⟩
   have:=h (.val (fq (b.2))) (.val (fq (a.2))) s7
   rw[List.map_append]at this
   exact this
  ·rw[if_neg hy,List.append_nil]at h
   have e3:decide (0<=b.2.num)=false:=decide_eq_false (fun z=>hy (en.mp z))
   refine⟨fun z=>Bool.noConfusion (z.symm.trans e3),fun _=>h _ _ _⟩
 have hL:(acc.map pq).length < 1000:=by rw[List.length_map];omega
 unfold Z0n
 obtain⟨K0,hK0⟩:∃W,W=Z10:=⟨_,rfl⟩
 rw[← hK0]at k0 ⊢
 rw[← hSL,← hSB,← hSP]
 walk_at "go"
 rw[eh]
 walk_at "go"
 rw[eg]
 walk_at "go"
 have em:b.2.num * a.2.num < 0 ↔ a.2 * b.2 < 0:=by rw[Int.mul_comm];exact num_mul
 by_cases hz:a.2 * b.2 < 0
 ·have e3:decide (b.2.num * a.2.num < 0)=true:=decide_eq_true (em.mpr hz)
  refine⟨fun _=>?_,fun z=>Bool.noConfusion (e3.symm.trans z)⟩
  have nz:a.2 - b.2≠0:=fun z=>by
   rcases q_sg hz with ⟨y,x⟩|⟨y,x⟩<;>grind
  have d:Bq 461 (a.2 - b.2):=(ha.2.sub hb.2).mono (by decide)
  have t:Bq 691 (a.2 / (a.2 - b.2)):=(ha.2.div d nz).mono (by decide)
  walk_at "go"
  refine cl (ha.2.mono (by decide)) (hb.2.mono (by decide)) ?_
  walk_at "go"
  refine cb (ha.2.mono (by decide)) (d.mono (by decide)) nz ?_
  walk_at "go"
  rw[ea]
  walk_at "go"
  refine cp ha.1 hb.1 (t.mono (by decide)) ?_
  walk_at "go"
  have:=k0 (acc++[crz a b]) (.val (fq (a.2 / (a.2 - b.2)))) (by simp;omega) (by rw[if_pos hz])
  rw[List.map_append]at this
  exact this
 ·have e3:decide (b.2.num * a.2.num < 0)=false:=decide_eq_false (fun z=>hz (em.mp z))
  refine⟨fun z=>Bool.noConfusion (z.symm.trans e3),fun _=>?_⟩
  exact k0 acc _ (by omega) (by rw[if_neg hz,List.append_nil])
theorem cut_loop{D:DT}{ps:List Pz}(hm:ps.length<=100)(lim:∀p∈ps,Bp 80 p.1/\Bq 230 p.2):∀(r:List Pz)(i:Nat)(a:Pz)(acc:List Pq)(s3 s4 s5 s6 s7:Slot),ps.drop i=r->(r≠[]->atI ((ps.map (·.1)).map pq) ((i:Int) - 1)=some (pq a.1)/\atI ((ps.map (·.2)).map fq) ((i:Int) - 1)=some (fq a.2))->(Bp 80 a.1/\Bq 230 a.2)->acc.length<=2 * i →
  (∀s3 s4 s5 s6 s7,D.nx [.val (pqL (ps.map (·.1))),.val (.lst ((ps.map (·.2)).map fq)),.own ((acc++chL a r).map pq),s3,s4,s5,s6,s7]) →
  forT (gT 2 (gsC (gN 3) (gsC (gN 4) gs0))) Z0n (enumT i ((r.map (·.1)).map pq)) D [.val (pqL (ps.map (·.1))),.val (.lst ((ps.map (·.2)).map fq)),.own (acc.map pq),s3,s4,s5,s6,s7]
 | [],i,a,acc,s3,s4,s5,s6,s7,_,_,_,_,h=>by
  simp only[chL,List.append_nil]at h
  simp only[List.map,enumT,forT]
  exact h _ _ _ _ _
 | b::r,i,a,acc,s3,s4,s5,s6,s7,e,ea,la,hl,h=>by
  obtain⟨e1,e2,mb⟩:=drop_cons e
  have hi:i < ps.length:=(List.getElem?_eq_some_iff.mp e1).1
  obtain⟨a1,a2⟩:=ea (by simp)
  have e3:(ps.map (·.2))[i]?=some b.2:=by rw[List.getElem?_map,e1];rfl
  have e0:(ps.map (·.1))[i]?=some b.1:=by rw[List.getElem?_map,e1];rfl
  have ih:=fun (s3 s4 s5 s6 s7:Slot)=>cut_loop (D:=D) hm lim r (i + 1) b (acc++((if a.2 * b.2 < 0 then [crz a b] else [])++(if 0<=b.2 then [b.1] else []))) s3 s4 s5 s6 s7 e2 (fun _=>⟨at_prev e0,at_prev e3⟩) (lim b mb)
   (by split<;>split<;>simp<;>omega) (by simpa [chL,List.append_assoc] using h)
  simp only[List.map_cons,enumT,forT]
  generalize forT (gT 2 (gsC (gN 3) (gsC (gN 4) gs0))) Z0n (enumT (i + 1) ((r.map (·.1)).map pq)) D=F at ih ⊢
  simp only[gT,gsC,gs0,gN,sput,List.length_cons,List.length_nil,true_and]
  exact cut_b0 (D:={D with nx:=F,ct:=F,bk:=D.nx}) a1 (at_nat e3) a2 la (lim b mb) (by omega) fun s5 s6 s7=>ih _ _ _ _ _
theorem Z40:∀ts Q,Z07 ts Q->Z22 {nx:=fun _=>Q .non,rt:=Q} (startT 8 ts):=by
 rintro _ Q ⟨ps,rfl,hm,lim,q⟩
 unfold Z22
 obtain⟨W0,hW0⟩:∃W,W=Z0n:=⟨_,rfl⟩
 rw[← hW0]
 walk_at "tw"
 rw[hW0]
 cases ps with
 | nil =>
  simp only[List.map,enumT,forT]
  exact q
 | cons a r =>
  refine cut_loop hm lim (a::r) 0 (r.getLastD a) [] _ _ _ _ _ rfl (fun _=>⟨?_,?_⟩) (lim _ (last_mem a r)) (by simp) fun s3 s4 s5 s6 s7=>?_
  ·have:=at_last (f:=fun p:Pz=>pq p.1) a r
   rw[List.map_map]
   exact this
  ·have:=at_last (f:=fun p:Pz=>fq p.2) a r
   rw[List.map_map]
   exact this
  ·rw[List.nil_append]
   walk_at "go"
   exact q
theorem cut_lo{ts:List T}{k:Nat}(h:k<=ts.length):cutT ts (some (k:Int)) none=ts.drop k:=by
 unfold cutT
 rw[HT.sIx_nat,HT.sIx_none,Nat.min_eq_left h]
 exact List.take_of_length_le (by simp)
theorem cut_hi{ts:List T}{k:Nat}(h:k<=ts.length):cutT ts none (some (k:Int))=ts.take k:=by
 unfold cutT
 rw[HT.sIx_none,HT.sIx_nat,Nat.min_eq_left h]
 rfl
def Z0H:SpT:=fun ts Q=>∃l:List Pq,ts=[pqL l]/\l.length<=300/\(∀p∈l,Bp 100 p)/\(l=[]->Q (pqL []))/\∀A p B,l=A++p::B->(∀x∈l,x=p∨lowq p x)->Q (pqL (p::B++A))
theorem Z41:∀ts Q,Z0H ts Q->ts.length=1:=by rintro ts Q ⟨_,e,_⟩;subst e;rfl
def Z0u:WS :=
 (sIf (tVal (wCall Z0t (aCons (wVar 3) (aCons (w2 rIxTT (wVar 0) (wVar 1)) aNil)))) (sSet 1 (wVar 2)) sNext)
def Z2j:WS :=
 (sSeq (sSet 1 (wC (.int 0)))
  (sSeq (sFor (iEnum (aCons (wVar 0) aNil)) (gT 2 (gsC (gN 2) (gsC (gN 3) gs0))) Z0u)
  (sRet (w2 rCatLT (wSl (wVar 0) (wo (wVar 1)) wo0) (wSl (wVar 0) wo0 (wo (wVar 1)))))))
theorem begun_b0{D:DT}{us:List T}{p q:Pq}{k n:Int}(e:atI us k=some (pq q))(hp:Bp 100 p)(hq:Bp 100 q)(h1:lowq p q->D.nx [.val (.lst us),.val (.int n),.val (.int n),.val (pq p)])(h2:¬ lowq p q->D.nx [.val (.lst us),.val (.int k),.val (.int n),.val (pq p)]) :
  Z0u D [.val (.lst us),.val (.int k),.val (.int n),.val (pq p)]:=by
 unfold Z0u
 obtain⟨S,hS⟩:∃S,S=Z0t:=⟨_,rfl⟩
 have cu:∀{Q:T->Prop},Q (.bl (decide (lowq p q)))->S [pq p,pq q] Q:=fun z=>by rw[hS];exact⟨p,q,rfl,hp,hq,z⟩
 rw[← hS]
 walk_at "go"
 rw[e]
 walk_at "go"
 refine cu ?_
 by_cases z:lowq p q
 ·rw[decide_eq_true z]
  refine⟨fun _=>h1 z,fun y=>by cases y⟩
 ·rw[decide_eq_false z]
  refine⟨(fun y=>by cases y),fun _=>h2 z⟩
theorem begun_loop{D:DT}{l:List Pq}(hb:∀p∈l,Bp 100 p):∀(r:List Pq)(i k:Nat)(q:Pq)(s2 s3:Slot),l.drop i=r->l[k]?=some q →
  (∀(k':Nat) q' s2 s3,l[k']?=some q'->(q'=q∨lowq q' q)->(∀x∈r,x=q'∨lowq q' x)->D.nx [.val (pqL l),.val (.int k'),s2,s3]) →
  forT (gT 2 (gsC (gN 2) (gsC (gN 3) gs0))) Z0u (enumT i (r.map pq)) D [.val (pqL l),.val (.int k),s2,s3]
 | [],i,k,q,s2,s3,_,ek,h=>by
  simp only[List.map,enumT,forT]
  exact h k q _ _ ek (.inl rfl) (by simp)
 | b :: r,i,k,q,s2,s3,e,ek,h=>by
  obtain⟨e1,e2,mb⟩:=drop_cons e
  have i1:=fun (lo:lowq b q) s2 s3=>begun_loop (D:=D) hb r (i + 1) i b s2 s3 e2 e1 fun k' q' s2 s3 g1 g2 g3=>h k' q' s2 s3 g1 (.inr (by
   rcases g2 with rfl|z
   ·exact lo
   ·exact lowq_trans z lo)) fun x hx=>by
    rcases List.mem_cons.mp hx with rfl|hx
    ·rcases g2 with z|z
     ·exact .inl z.symm
     ·exact .inr z
    ·exact g3 x hx
  have i2:=fun (lo:¬ lowq b q) s2 s3=>begun_loop (D:=D) hb r (i + 1) k q s2 s3 e2 ek fun k' q' s2 s3 g1 g2 g3=>h k' q' s2 s3 g1 g2 fun x hx=>by
    rcases List.mem_cons.mp hx with rfl|hx
    ·by_cases ex:x=q
     ·subst ex
      rcases g2 with z|z
      ·exact .inl z.symm
      ·exact .inr z
     ·rcases lowq_tot ex with z|z
      ·exact absurd z lo
      ·rcases g2 with rfl|y
       ·exact .inr z
       ·exact .inr (lowq_trans y z)
    ·exact g3 x hx
  simp only[List.map_cons,enumT,forT]
  generalize forT (gT 2 (gsC (gN 2) (gsC (gN 3) gs0))) Z0u (enumT (i + 1) (r.map pq)) D=F at i1 i2 ⊢
  simp only[gT,gsC,gs0,gN,sput,List.length_cons,List.length_nil,true_and]
  exact begun_b0 (D:={D with nx:=F,ct:=F,bk:=D.nx}) (at_nat ek) (hb b mb) (hb q (List.mem_of_getElem? ek)) (fun lo=>i1 lo _ _) (fun lo=>i2 lo _ _)
theorem Z4b:∀ts Q,Z0H ts Q->Z2j {nx:=fun _=>Q .non,rt:=Q} (startT 4 ts):=by
 rintro _ Q ⟨l,rfl,hl,hb,h0,h⟩
 unfold Z2j
 obtain⟨W0,hW0⟩:∃W,W=Z0u:=⟨_,rfl⟩
 rw[← hW0]
 cases l with
 | nil =>
  walk_at "go"
  exact h0 rfl
 | cons a r =>
  walk_at "tw"
  rw[hW0]
  refine begun_loop hb (a::r) 0 0 a _ _ rfl rfl fun k q s2 s3 e1 e2 e3=>?_
  obtain⟨hk,e4⟩:=List.getElem?_eq_some_iff.mp e1
  have e5:=cut_lo (ts:=(a::r).map pq) (k:=k) (by rw[List.length_map];omega)
  have e6:=cut_hi (ts:=(a::r).map pq) (k:=k) (by rw[List.length_map];omega)
  have e7:a::r=(a::r).take k++q::(a::r).drop (k + 1):=by
   rw[← e4,List.getElem_cons_drop,List.take_append_drop]
  have:=h _ _ _ e7 e3
  walk_at "tw"
  rw[← List.map_cons,e5,e6,← List.map_drop,← List.map_take,← List.map_append]
  rw[← e4,List.getElem_cons_drop]at this
  refine⟨?_,this⟩
  rw[List.length_map,List.length_map,List.length_drop,List.length_take]
  omega
theorem at_back{α:Type}{f:α->T}{l:List α}{i:Nat}(h:i < l.length):∃x,x∈l/\atI (l.map f) ((i:Int) - 1)=some (f x):=by
 cases i with
 | zero =>
  cases l with
  | nil=>simp at h
  | cons a r=>exact⟨r.getLastD a,last_mem a r,at_last a r⟩
 | succ i =>
  have hi:i < l.length:=by omega
  exact⟨l[i],List.getElem_mem hi,at_prev (List.getElem?_eq_getElem hi)⟩
theorem at_mod{α:Type}{f:α->T}{l:List α}(i:Nat)(h:0 < l.length):∃x,x∈l/\atI (l.map f) (((i:Int) + 1).fmod (l.length:Int))=some (f x):=by
 have b:=fmod_pos ((i:Int) + 1) (b:=(l.length:Int)) (by omega)
 obtain⟨k,hk⟩:∃k:Nat,((i:Int) + 1).fmod (l.length:Int)=(k:Int):=⟨_,(Int.toNat_of_nonneg b.1).symm⟩
 rw[hk]at b ⊢
 have hk':k < l.length:=by omega
 exact⟨l[k],List.getElem_mem hk',at_nat (List.getElem?_eq_getElem hk')⟩
theorem scv_ne{a b c:Pq}(h:0 < tq a b c):b≠a:=fun e=>by
 rw[e,tq_aab]at h
 exact Rat.lt_irrefl h
theorem eq_nil_or_snoc{α:Type}(A:List α):A=[]∨∃B b,A=B++[b]:=by
 rcases List.eq_nil_or_concat A with h|⟨B,b,h⟩
 ·exact .inl h
 ·exact .inr ⟨B,b,by rw[h,List.concat_eq_append]⟩
theorem scv_at{l:List Pq}(h:SCv l)(hl:3<=l.length){A B:List Pq}{b:Pq}(e:l=A++b::B):∃a∈l,∃c∈l,atI (l.map pq) ((A.length:Int) - 1)=some (pq a)/\atI (l.map pq) (((A.length:Int) + 1).fmod (l.length:Int))=some (pq c)/\0 < tq a b c:=by
 cases B with
 | cons b' B =>
  have e2:((A.length:Int) + 1).fmod (l.length:Int)=((A.length + 1:Nat):Int):=by
   rw[e]
   simp only[List.length_append,List.length_cons]
   rw[Int.fmod_eq_emod_of_nonneg _ (by omega),Int.emod_eq_of_lt (by omega) (by omega)]
   simp
  have e3:l[A.length + 1]?=some b':=by rw[e,List.getElem?_append_right (by omega)];simp
  have mb:b'∈l:=List.mem_of_getElem? e3
  rcases eq_nil_or_snoc A with rfl|⟨A,a,rfl⟩
  ·cases B with
   | nil=>rw[e]at hl;simp at hl
   | cons x B =>
    refine⟨B.getLastD x,?_,b',mb,?_,by rw[e2];exact at_nat e3,?_⟩
    ·rw[e];exact mcm _ (mcm _ (last_mem x B))
    ·rw[e]
     have:=at_last (f:=pq) b (b'::x::B)
     rw[List.getLastD_cons,List.getLastD_cons]at this
     exact this
    ·rw[← tq_rot]
     refine h _ _ _ ?_
     rw[e]
     exact csc (csc (List.singleton_sublist.mpr (last_mem x B)))
  ·have e4:l[A.length]?=some a:=by rw[e];simp
   refine⟨a,List.mem_of_getElem? e4,b',mb,?_,by rw[e2];exact at_nat e3,?_⟩
   ·rw[show ((A++[a]).length:Int)=((A.length + 1:Nat):Int) by simp]
    exact at_prev e4
   ·refine h _ _ _ ?_
    rw[e,List.append_assoc]
    refine List.Sublist.trans ?_ (List.sublist_append_right _ _)
    exact csc (csc (csc (List.nil_sublist _)))
 | nil =>
  rcases eq_nil_or_snoc A with rfl|⟨A,a,rfl⟩
  ·rw[e]at hl;simp at hl
  ·cases A with
   | nil=>rw[e]at hl;simp at hl
   | cons c A =>
    have e4:l[(c::A).length]?=some a:=by rw[e];simp
    have e5:l[0]?=some c:=by rw[e];rfl
    have e2:((((c::A)++[a]).length:Int) + 1).fmod (l.length:Int)=((0:Nat):Int):=by
     rw[e]
     have:((((c::A)++[a]).length:Int) + 1)=((((c::A)++[a])++[b]).length:Int):=by simp;omega
     rw[this,Int.fmod_self]
     rfl
    refine⟨a,List.mem_of_getElem? e4,c,List.mem_of_getElem? e5,?_,by rw[e2];exact at_nat e5,?_⟩
    ·rw[show (((c::A)++[a]).length:Int)=(((c::A).length + 1:Nat):Int) by simp]
     exact at_prev e4
    ·rw[tq_rot]
     refine h _ _ _ ?_
     rw[e,List.append_assoc,List.cons_append]
     refine csc ?_
     exact List.sublist_append_right _ _
def Z0N:SpT:=fun ts Q=>∃l:List Pq,ts=[pqL l]/\l.length<=300/\(∀p∈l,Bp 100 p)/\((Flt l/\Q (pqL []))∨(Rnd l/\∀A B,l=A++B->Lowest (B++A)->Q (pqL (B++A))))
theorem Z4q:∀ts Q,Z0N ts Q->ts.length=1:=by rintro ts Q ⟨_,e,_⟩;subst e;rfl
def Z0f:WS :=
 (sSeq (sSet 5 (w2 rIxTT (wVar 1) (w2 rModT (w2 rAddT (wVar 3) (wC (.int 1))) (wCB rLenT (aCons (wVar 1) aNil)))))
  (sIf (tCmpT cGtT (w2 rIxTT (wCall Z0p (aCons (w2 rIxTT (wVar 1) (w2 rSubT (wVar 3) (wC (.int 1)))) (aCons (wVar 4) (aCons (wVar 5) aNil)))) (wC (.int 0))) (wC (.int 0))) (sApp 2 (wVar 4)) sNext))
def Z2T:WS :=
 (sSeq (sSet 1 (wComp (iEnum (aCons (wVar 0) aNil)) (gT 2 (gsC (gN 0) (gsC (gN 1) gs0))) (tCmpT cNeT (wVar 1) (w2 rIxTT (wVar 2) (w2 rSubT (wVar 0) (wC (.int 1))))) (wVar 1) 2 [0]))
  (sSeq (sOwn 2 aNil)
  (sSeq (sFor (iEnum (aCons (wVar 1) aNil)) (gT 2 (gsC (gN 3) (gsC (gN 4) gs0))) Z0f)
  (sFrz 2 (sRet (wCall Z0H (aCons (wVar 2) aNil)))))))
abbrev unlT:WT:=(tCmpT cNeT (wVar 1) (w2 rIxTT (wVar 2) (w2 rSubT (wVar 0) (wC (.int 1)))))
theorem unlike_comp{ps:List Pq}:∀(r:List Pq)(i:Nat)(acc:List Pq)(x0 x1:Slot)(Q:List T->Prop),ps.drop i=r->(∀p∈acc,p∈ps)->acc.length<=i->(∀us:List Pq,(∀p∈us,p∈ps)->us.length<=ps.length->Q (us.map pq))->i<=ps.length →
  compT (gT 2 (gsC (gN 0) (gsC (gN 1) gs0))) unlT (wVar 1) (enumT i (r.map pq)) (acc.map pq) [x0,x1,.val (.lst (ps.map pq))] Q
 | [],i,acc,x0,x1,Q,_,ha,hl,h,hi=>by
  simp only[List.map,enumT,compT]
  exact h acc ha (by omega)
 | b::r,i,acc,x0,x1,Q,e,ha,hl,h,hi=>by
  obtain⟨e1,e2,mb⟩:=drop_cons e
  have hi:i < ps.length:=(List.getElem?_eq_some_iff.mp e1).1
  obtain⟨a,ma,ea⟩:=at_back (f:=pq) hi
  have i1:=fun x0 x1=>unlike_comp r (i + 1) (acc++[b]) x0 x1 Q e2 (fun p hp=>by
   rcases List.mem_append.mp hp with w|w
   ·exact ha p w
   ·rw[List.mem_singleton.mp w];exact mb) (by simp;omega) h (by omega)
  have i2:=fun x0 x1=>unlike_comp r (i + 1) acc x0 x1 Q e2 ha (by omega) h (by omega)
  simp only[List.map_append,List.map_cons,List.map_nil]at i1
  have oo:=eqOk_pq b a
  simp only[List.map_cons,enumT,compT]
  generalize compT (gT 2 (gsC (gN 0) (gsC (gN 1) gs0))) unlT (wVar 1) (enumT (i + 1) (r.map pq))=F at i1 i2 ⊢
  walk_at "tw"
  rw[ea]
  exact⟨oo,fun _=>i1 _ _,fun _=>i2 _ _⟩
theorem all_comp{ps:List Pq}(hs:SCv ps)(h3:3<=ps.length):∀(r:List Pq)(i:Nat)(x0 x1:Slot)(Q:List T->Prop),ps.drop i=r->Q (ps.map pq)->i<=ps.length →
  compT (gT 2 (gsC (gN 0) (gsC (gN 1) gs0))) unlT (wVar 1) (enumT i (r.map pq)) ((ps.take i).map pq) [x0,x1,.val (.lst (ps.map pq))] Q
 | [],i,x0,x1,Q,e,h,hi=>by
  simp only[List.map,enumT,compT]
  have:ps.length<=i:=List.drop_eq_nil_iff.mp e
  rw[List.take_of_length_le this]
  exact h
 | b::r,i,x0,x1,Q,e,h,hi=>by
  obtain⟨e1,e2,mb⟩:=drop_cons e
  have hi:i < ps.length:=(List.getElem?_eq_some_iff.mp e1).1
  have e3:ps=ps.take i++b::r:=by rw[← e,List.take_append_drop]
  have e4:(ps.take i).length=i:=by rw[List.length_take];omega
  obtain⟨a,ma,c,mc,ea,ec,ht⟩:=scv_at hs h3 e3
  rw[e4]at ea
  have i1:=fun x0 x1=>all_comp hs h3 r (i + 1) x0 x1 Q e2 h (by omega)
  rw[List.take_succ,e1]at i1
  simp only[List.map_append,List.map_cons,List.map_nil,Option.toList]at i1
  have oo:=eqOk_pq b a
  have en:eqT (pq b) (pq a)=false:=by rw[eqT_pq];exact decide_eq_false (scv_ne ht)
  simp only[List.map_cons,enumT,compT]
  generalize compT (gT 2 (gsC (gN 0) (gsC (gN 1) gs0))) unlT (wVar 1) (enumT (i + 1) (r.map pq))=F at i1 ⊢
  walk_at "tw"
  rw[ea]
  refine⟨oo,?_⟩
  rw[en]
  exact⟨fun _=>i1 _ _,fun z=>by cases z⟩
theorem round_b0{D:DT}{us:List T}{x y z:Pq}{k:Int}{own:List T}{s0 s5:Slot}(len:(us.length:Int)≠0)(e1:atI us ((k + 1).fmod us.length)=some (pq z))(e2:atI us (k - 1)=some (pq x))(hx:Bp 100 x)(hy:Bp 100 y)(hz:Bp 100 z)(hl:own.length < 900)
  (h1:0 < tq x y z->∀s5,D.nx [s0,.val (.lst us),.own (own++[pq y]),.val (.int k),.val (pq y),s5]) (h2:¬ 0 < tq x y z->∀s5,D.nx [s0,.val (.lst us),.own own,.val (.int k),.val (pq y),s5]):Z0f D [s0,.val (.lst us),.own own,.val (.int k),.val (pq y),s5]:=by
 obtain⟨S,hS⟩:∃S,S=Z0p:=⟨_,rfl⟩
 have ct:∀{Q:T->Prop},Q (fq (tq x y z))->S [pq x,pq y,pq z] Q:=fun q=>by rw[hS];exact turn_cal hx hy hz q
 have hn:0 < (tq x y z).num ↔ 0 < tq x y z:=num_gt
 unfold Z0f
 rw[← hS]
 generalize hp:pq y=Y at *
 walk_at "go"
 rw[e1]
 walk_at "go"
 rw[e2]
 walk_at "go"
 refine ct ?_
 generalize tq x y z=v at *
 walk_at "tw"
 by_cases hv:0 < v
 ·have e3:decide (v.num > 0)=true:=decide_eq_true (hn.mpr hv)
  exact⟨fun _=>⟨by omega,h1 hv _⟩,fun z=>Bool.noConfusion (e3.symm.trans z)⟩
 ·have e3:decide (v.num > 0)=false:=decide_eq_false (fun z=>hv (hn.mp z))
  exact⟨fun z=>Bool.noConfusion (z.symm.trans e3),fun _=>h2 hv _⟩
theorem round_flt{D:DT}{us:List Pq}{s0:Slot}(sm:∀p∈us,Bp 100 p)(z:Flt us)(h:∀s3 s4 s5,D.nx [s0,.val (.lst (us.map pq)),.own [],s3,s4,s5]):∀(r:List Pq)(i:Nat)(s3 s4 s5:Slot),us.drop i=r →
  forT (gT 2 (gsC (gN 3) (gsC (gN 4) gs0))) Z0f (enumT i (r.map pq)) D [s0,.val (.lst (us.map pq)),.own [],s3,s4,s5]
 | [],i,s3,s4,s5,_=>by
  simp only[List.map,enumT,forT]
  exact h _ _ _
 | b::r,i,s3,s4,s5,e=>by
  obtain⟨e1,e2,mb⟩:=drop_cons e
  have hi:i < us.length:=(List.getElem?_eq_some_iff.mp e1).1
  obtain⟨a,ma,ea⟩:=at_back (f:=pq) hi
  obtain⟨c,mc,ec⟩:=at_mod (f:=pq) (l:=us) i (by omega)
  have ih:=fun s3 s4 s5=>round_flt (D:=D) sm z h r (i + 1) s3 s4 s5 e2
  simp only[List.map_cons,enumT,forT]
  generalize forT (gT 2 (gsC (gN 3) (gsC (gN 4) gs0))) Z0f (enumT (i + 1) (r.map pq)) D=F at ih ⊢
  simp only[gT,gsC,gs0,gN,sput,List.length_cons,List.length_nil,true_and]
  exact round_b0 (D:={D with nx:=F,ct:=F,bk:=D.nx}) (by rw[List.length_map];omega) (by rw[List.length_map];exact ec) ea (sm a ma) (sm b mb) (sm c mc) (by simp) (fun y=>absurd y (by rw[z a ma b mb c mc];exact Rat.lt_irrefl)) fun _ s5=>ih _ _ _
theorem round_rnd{D:DT}{us:List Pq}{s0:Slot}(sm:∀p∈us,Bp 100 p)(hs:SCv us)(h3:3<=us.length)(hm:us.length<=300)(h:∀s3 s4 s5,D.nx [s0,.val (.lst (us.map pq)),.own (us.map pq),s3,s4,s5]):∀(r:List Pq)(i:Nat)(s3 s4 s5:Slot),us.drop i=r →
  forT (gT 2 (gsC (gN 3) (gsC (gN 4) gs0))) Z0f (enumT i (r.map pq)) D [s0,.val (.lst (us.map pq)),.own ((us.take i).map pq),s3,s4,s5]
 | [],i,s3,s4,s5,e=>by
  simp only[List.map,enumT,forT]
  rw[List.take_of_length_le (List.drop_eq_nil_iff.mp e)]
  exact h _ _ _
 | b::r,i,s3,s4,s5,e=>by
  obtain⟨e1,e2,mb⟩:=drop_cons e
  have hi:i < us.length:=(List.getElem?_eq_some_iff.mp e1).1
  have e3:us=us.take i++b::r:=by rw[← e,List.take_append_drop]
  have e4:(us.take i).length=i:=by rw[List.length_take];omega
  obtain⟨a,ma,c,mc,ea,ec,ht⟩:=scv_at hs h3 e3
  rw[e4]at ea ec
  have ih:=fun s3 s4 s5=>round_rnd (D:=D) sm hs h3 hm h r (i + 1) s3 s4 s5 e2
  rw[List.take_succ,e1]at ih
  simp only[List.map_append,List.map_cons,List.map_nil,Option.toList]at ih
  simp only[List.map_cons,enumT,forT]
  generalize forT (gT 2 (gsC (gN 3) (gsC (gN 4) gs0))) Z0f (enumT (i + 1) (r.map pq)) D=F at ih ⊢
  simp only[gT,gsC,gs0,gN,sput,List.length_cons,List.length_nil,true_and]
  exact round_b0 (D:={D with nx:=F,ct:=F,bk:=D.nx}) (by rw[List.length_map];omega) (by rw[List.length_map];exact ec) ea (sm a ma) (sm b mb) (sm c mc) (by rw[List.length_map,e4];omega) (fun _ s5=>ih _ _ _) fun z=>absurd ht z
theorem Z4E:∀ts Q,Z0N ts Q->Z2T {nx:=fun _=>Q .non,rt:=Q} (startT 6 ts):=by
 rintro _ Q ⟨l,rfl,hl,sm,h⟩
 obtain⟨S,hS⟩:∃S,S=Z0H:=⟨_,rfl⟩
 unfold Z2T
 obtain⟨W0,hW0⟩:∃W,W=Z0f:=⟨_,rfl⟩
 rw[← hW0,← hS]
 walk_at "tw"
 refine⟨by rw[enumT_length,List.length_map];omega,?_⟩
 rcases h with ⟨z,q⟩|⟨R,q⟩
 ·refine unlike_comp l 0 [] _ _ _ rfl (fun p hp=>absurd hp (by simp)) (by simp) (fun us hu lu=>?_) (by omega)
  rw[hW0]
  refine round_flt (fun p hp=>sm p (hu p hp)) (fun a ma b mb c mc=>z a (hu a ma) b (hu b mb) c (hu c mc)) (fun s3 s4 s5=>?_) us 0 _ _ _ rfl
  rw[hS]
  exact⟨[],rfl,by simp,by simp,fun _=>q,fun A p B e=>by simp at e⟩
 ·have:=all_comp R.sc R.len l 0 Slot.no Slot.no (Q:=fun rs=>forT (gT 2 (gsC (gN 3) (gsC (gN 4) gs0))) W0 (enumT 0 rs) {nx:=fun τ=>sFrz 2 (sRet (wCall S (aCons (wVar 2) aNil))) {nx:=fun _=>Q .non,rt:=Q} τ,rt:=Q} [.val (pqL l),.val (.lst rs),.own [],Slot.no,Slot.no,Slot.no]) rfl (by
   rw[hW0]
   refine round_rnd (D:={nx:=fun τ=>sFrz 2 (sRet (wCall S (aCons (wVar 2) aNil))) {nx:=fun _=>Q .non,rt:=Q} τ,rt:=Q}) sm R.sc R.len hl (fun s3 s4 s5=>?_) l 0 _ _ _ rfl
   walk_at "tw"
   rw[hS]
   refine⟨l,rfl,hl,sm,fun e=>?_,fun A p B e lo=>q A (p::B) e ?_⟩
   ·have:=R.len
    rw[e]at this
    simp at this
   ·intro x hx
    have nd:=R.sc.nodup R.len
    rw[e]at nd
    rcases lo x (by rw[e];simp at hx ⊢;rcases hx with z|z<;>simp[z]) with rfl|z
    ·exfalso
     rw[List.nodup_append]at nd
     rcases List.mem_append.mp hx with y|y
     ·exact(List.nodup_cons.mp nd.2.1).1 y
     ·exact nd.2.2 x y x mcs rfl
    ·exact z) (by omega)
  exact this
theorem cuL_len(f:Pq->Rat):∀(a:Pq)(r:List Pq),(cuL f a r).length<=2 * r.length
 | _,[]=>by simp[cuL]
 | a,b::r=>by
  have:=cuL_len f b r
  rw[cuL]
  split<;>split<;>simp<;>omega
theorem cuW_len(f:Pq->Rat)(l:List Pq):(cuW f l).length<=2 * l.length:=by
 cases l with
 | nil=>simp[cuW]
 | cons a r=>exact cuL_len f _ _
def Lg(l:List Pq)(n:Nat):Prop:=(Sln l/\l.length + n<=95)∨l.length * 2 ^ n<=128
theorem Lg.here{l:List Pq}{n:Nat}(h:Lg l (n + 1)):l.length<=100:=by
 rcases h with ⟨_,h⟩|h
 ·omega
 ·have:l.length * 2<=l.length * 2 ^ (n + 1):=Nat.mul_le_mul_left _ (by have:1<=2 ^ n:=Nat.one_le_two_pow;rw[Nat.pow_succ];omega)
  omega
theorem Lg.cut{l:List Pq}{n:Nat}{f:Pq->Rat}(h:Lg l (n + 1))(hf:Af f)(hn:∃z,f z≠0):Lg (cuW f l) n:=by
 rcases h with ⟨S,h⟩|h
 ·obtain⟨S',l'⟩:=S.cut hf hn
  exact .inl ⟨S',by omega⟩
 ·refine .inr (Nat.le_trans (Nat.mul_le_mul_right _ (cuW_len f l)) ?_)
  rw[Nat.pow_succ,Nat.mul_comm (2 ^ n) 2,← Nat.mul_assoc,Nat.mul_comm l.length 2]at h
  exact h
def Z0c:SpT:=fun ts Q=>∃(k:Nat) (A B:List Pq),k<=37/\ts=[pqL A,pqL B]/\Lined k A/\Lined k B/\A.length + B.length<=90 ∧
 ((A=[]/\(B=[]∨Rnd B)/\Q (pqL []))∨(B=[]/\Q (pqL []))∨(Flt A/\A.length<=8/\B.length<=4/\Rnd B/\Q (pqL []))∨(Rnd A/\Rnd B/\∀F,Bth A B F->Lined k F->F.length<=A.length + B.length->Q (pqL F)))
theorem Z5p:∀ts Q,Z0c ts Q->ts.length=2:=by rintro ts Q ⟨_,_,_,_,e,_⟩;subst e;rfl
def Z1f:WS :=
 (sSeq (sSet 5 (w2 rIxTT (wVar 1) (w2 rSubT (wVar 3) (wC (.int 1)))))
  (sSet 2 (wCall Z07 (aCons (wVar 2) (aCons (wComp (iSeq (wVar 2)) (gN 0) tTrue (wCall Z0p (aCons (wVar 1) (aCons (wVar 2) (aCons (wVar 0) aNil)))) 1 [5,4]) aNil)))))
def Z3T:WS :=
 (sSeq (sIf (tNotT (tTruT (wVar 1))) (sRet (wLst aNil)) sNext)
  (sSeq (sSet 2 (wVar 0))
  (sSeq (sFor (iEnum (aCons (wVar 1) aNil)) (gT 2 (gsC (gN 3) (gsC (gN 4) gs0))) Z1f)
  (sRet (wCall Z0N (aCons (wVar 2) aNil))))))
theorem turn_comp{a b:Pq}(ha:Bp 100 a)(hb:Bp 100 b):∀(l:List Pq)(acc:List Rat)(x:Slot)(Q:List T->Prop),(∀p∈l,Bp 100 p)->Q ((acc++l.map (tq a b)).map fq) →
  compT (gN 0) tTrue (wCall Z0p (aCons (wVar 1) (aCons (wVar 2) (aCons (wVar 0) aNil)))) (l.map pq) (acc.map fq) [x,.val (pq a),.val (pq b)] Q
 | [],acc,x,Q,_,h=>by
  simp only[List.map,compT]
  simpa using h
 | p::l,acc,x,Q,hl,h=>by
  have ih:=fun x=>turn_comp ha hb l (acc++[tq a b p]) x Q (fun q m=>hl q (mcm _ m)) (by simpa using h)
  simp only[List.map_append,List.map_cons,List.map_nil]at ih
  obtain⟨S,hS⟩:∃S,S=Z0p:=⟨_,rfl⟩
  have ct:∀{Q:T->Prop},Q (fq (tq a b p))->S [pq a,pq b,pq p] Q:=fun q=>by rw[hS];exact turn_cal ha hb (hl p mcs) q
  simp only[List.map_cons,compT]
  rw[← hS]at ih ⊢
  generalize compT (gN 0) tTrue (wCall S (aCons (wVar 1) (aCons (wVar 2) (aCons (wVar 0) aNil)))) (l.map pq)=F at ih ⊢
  walk_at "tw"
  refine⟨fun _=>ct ?_,fun z=>(by cases z)⟩
  exact ih _
theorem Lined.bp{k:Nat}(hk:k<=37){l:List Pq}(h:Lined k l){p:Pq}(hp:p∈l):Bp 80 p:=(h.sz p hp).bp.mono (by omega)
theorem both_b0{D:DT}{A:Slot}{us:List T}{l:List Pq}{k:Int}{n:Nat}{e c:Pq}{s5:Slot}(hn:n<=37)(ee:atI us (k - 1)=some (pq e))(he:Sz (2 * n + 1) e)(hc:Sz (2 * n + 1) c)(L:Lined n l)(hl:l.length<=100)
  (h:∀s5,D.nx [A,.val (.lst us),.val (pqL (cuW (tq e c) l)),.val (.int k),.val (pq c),s5]):Z1f D [A,.val (.lst us),.val (pqL l),.val (.int k),.val (pq c),s5]:=by
 obtain⟨SC,hSC⟩:∃S,S=Z07:=⟨_,rfl⟩
 have bp:∀{p:Pq},Sz (2 * n + 1) p->Bp 100 p:=fun h=>h.bp.mono (by omega)
 have cc:∀{Q:T->Prop},Q (pqL (cuW (tq e c) l))->SC [pqL l,.lst ((l.map (tq e c)).map fq)] Q:=fun q=>by
  rw[hSC]
  refine⟨l.map (hz (tq e c)),?_,by rw[List.length_map];exact hl,fun p hp=>?_,by rw[chW_cuW];exact q⟩
  ·have e1:(l.map (hz (tq e c))).map (fun x:Pz=>x.1)=l:=by
    rw[List.map_map,show ((fun x:Pz=>x.1) ∘ hz (tq e c))=id from rfl,List.map_id]
   have e2:(l.map (hz (tq e c))).map (fun x:Pz=>x.2)=l.map (tq e c):=by
    rw[List.map_map]
    rfl
   rw[e1,e2]
  ·obtain⟨x,hx,rfl⟩:=List.mem_map.mp hp
   exact⟨L.bp hn hx,(he.tq hc (L.sz x hx)).mono (by omega)⟩
 unfold Z1f
 obtain⟨S,hS⟩:∃S,S=Z0p:=⟨_,rfl⟩
 have tc:=fun (x:Slot) (Q:List T->Prop) (q:Q ((l.map (tq e c)).map fq))=>turn_comp (bp he) (bp hc) l [] x Q (fun p hp=>bp (L.sz p hp)) (by rw[List.nil_append];exact q)
 rw[← hS]at tc ⊢
 rw[← hSC]
 generalize hE:pq c=C at *
 walk_at "tw"
 rw[ee]
 walk_at "tw"
 refine⟨by rw[List.length_map];omega,?_⟩
 exact tc _ _ (cc (h _))
theorem both_loop{D:DT}{A:Slot}{B:List Pq}{n:Nat}(hn:n<=37)(LB:Lined n B)(nB:∀e∈edW B,e.1≠e.2):∀(r:List Pq)(i:Nat)(a:Pq)(l:List Pq)(s3 s4 s5:Slot),B.drop i=r->(r≠[]->atI (B.map pq) ((i:Int) - 1)=some (pq a)/\Sz (2 * n + 1) a)->(∀e∈edL a r,e∈edW B)->Lined n l->Lg l r.length →
  (∀s3 s4 s5,D.nx [A,.val (pqL B),.val (pqL (cuA (edL a r) l)),s3,s4,s5]) →
  forT (gT 2 (gsC (gN 3) (gsC (gN 4) gs0))) Z1f (enumT i (r.map pq)) D [A,.val (pqL B),.val (pqL l),s3,s4,s5]
 | [],i,a,l,s3,s4,s5,_,_,_,_,_,h=>by
  simp only[List.map,enumT,forT]
  exact h _ _ _
 | b::r,i,a,l,s3,s4,s5,e,ea,hE,L,S,h=>by
  obtain⟨e1,e2,mb⟩:=drop_cons e
  obtain⟨a1,a2⟩:=ea (by simp)
  have me:=hE (a,b) (by simp[edL])
  have ne:=nB _ me
  have S':=S.cut (af_tq a b) (tq_ndg ne)
  have ih:=fun s3 s4 s5=>both_loop (D:=D) hn LB nB r (i + 1) b (cuW (tq a b) l) s3 s4 s5 e2 (fun _=>⟨at_prev e1,LB.sz b mb⟩) (fun e' m=>hE e' (by simp[edL,m])) (L.cut (LB.ed _ me) ne) S' (by simpa [edL,cuA] using h)
  have hl:=S.here
  simp only[List.map_cons,enumT,forT]
  generalize forT (gT 2 (gsC (gN 3) (gsC (gN 4) gs0))) Z1f (enumT (i + 1) (r.map pq)) D=F at ih ⊢
  simp only[gT,gsC,gs0,gN,sput,List.length_cons,List.length_nil,true_and]
  exact both_b0 (D:={D with nx:=F,ct:=F,bk:=D.nx}) hn a1 a2 (LB.sz b mb) L hl fun s5=>ih _ _ _
theorem cuA_nil:∀es:List (Pq×Pq),cuA es []=[]
 | []=>rfl
 | e::es=>by rw[cuA];exact cuA_nil es
theorem Lg.cuts:∀{es:List (Pq×Pq)}{l:List Pq},Lg l es.length->(∀e∈es,e.1≠e.2)->(cuA es l).length<=300
 | [],l,h,_=>by
  rcases h with ⟨_,h⟩|h
  ·rw[cuA];omega
  ·rw[cuA];simp at h;omega
 | e::es,l,h,he=>by
  rw[cuA]
  exact Lg.cuts (Lg.cut h (af_tq e.1 e.2) (tq_ndg (he e mcs))) fun e' m=>he e' (mcm _ m)
theorem Z5P:∀ts Q,Z0c ts Q->Z3T {nx:=fun _=>Q .non,rt:=Q} (startT 6 ts):=by
 rintro _ Q ⟨n,A,B,hn,rfl,LA,LB,hl,h⟩
 obtain⟨S,hS⟩:∃S,S=Z0N:=⟨_,rfl⟩
 unfold Z3T
 obtain⟨W0,hW0⟩:∃W,W=Z1f:=⟨_,rfl⟩
 rw[← hW0,← hS]
 have fin:B=[]->Q (pqL []):=fun e=>by
  have no:Rnd B->False:=fun R=>by
   have:=R.len
   rw[e]at this
   simp at this
  rcases h with ⟨_,_,q⟩|⟨_,q⟩|⟨_,_,_,R,_⟩|⟨_,R,_⟩
  ·exact q
  ·exact q
  ·exact(no R).elim
  ·exact(no R).elim
 cases B with
 | nil =>
  walk_at "tw"
  exact⟨fun _=>fin rfl,fun z=>by cases z⟩
 | cons b r =>
  have RB:Rnd (b::r):=by
   rcases h with ⟨_,e|R,_⟩|⟨e,_⟩|⟨_,_,_,R,_⟩|⟨_,R,_⟩
   ·cases e
   ·exact R
   ·cases e
   ·exact R
   ·exact R
  have SA:Lg A (b::r).length:=by
   rcases h with ⟨rfl,_⟩|⟨e,_⟩|⟨_,l8,l4,_⟩|⟨R,_⟩
   ·exact .inl ⟨.inr (short_blk (by simp)),by omega⟩
   ·cases e
   ·refine .inr (Nat.le_trans (Nat.mul_le_mul l8 (Nat.pow_le_pow_right (by decide) l4)) (by decide))
   ·exact .inl ⟨.inl ⟨R.sc,R.len⟩,by omega⟩
  have nB:∀e∈edW (b::r),e.1≠e.2:=fun e he=>RB.sc.ed_ne RB.len he
  have LC:=LA.cuts (es:=edW (b::r)) fun e he=>⟨LB.ed e he,nB e he⟩
  have lc:=Lg.cuts (es:=edW (b::r)) (l:=A) (by rw[edW_len];exact SA) nB
  walk_at "tw"
  rw[hW0]
  refine⟨fun z=>(by cases z),fun _=>?_⟩
  refine both_loop hn LB nB (b::r) 0 (r.getLastD b) A _ _ _ rfl (fun _=>⟨at_last b r,LB.sz _ (last_mem b r)⟩) (fun e m=>m) LA SA fun s3 s4 s5=>?_
  walk_at "tw"
  rw[hS]
  show Z0N [pqL (cuA (edW (b::r)) A)] Q
  refine⟨_,rfl,lc,fun p hp=>(LC.bp hn hp).mono (by decide),?_⟩
  rcases h with ⟨rfl,_,q⟩|⟨e,_⟩|⟨z,_,_,_,q⟩|⟨R,_,q⟩
  ·rw[cuA_nil]
   exact .inl ⟨fun a ha=>by simp at ha,q⟩
  ·cases e
  ·exact .inl ⟨cuA_flt _ z,q⟩
  ·have lc':=Sln.cuts (.inl ⟨R.sc,R.len⟩) nB
   rw[edW_len]at lc'
   rcases R.cuts RB with ⟨R',g⟩|⟨z,g⟩
   ·refine .inr ⟨R',fun C D e lo=>q _ (.inr ⟨⟨?_,?_⟩,lo,fun p=>?_⟩) ?_ ?_⟩
    ·have:=R'.sc
     rw[e]at this
     exact this.rot
    ·have:=R'.len
     rw[e]at this
     simp at this ⊢
     omega
    ·rw[← inq_rot,← e]
     exact g p
    ·rw[e]at LC
     exact LC.rot
    ·rw[e]at lc'
     simp at lc' ⊢
     omega
   ·exact .inl ⟨z,q [] (.inl ⟨rfl,g⟩) ⟨by simp,by simp[edW]⟩ (by simp)⟩
theorem rev_last{α:Type}(r:List α)(z:α):r.reverse.getLastD z=r.headD z:=by
 cases r with
 | nil=>rfl
 | cons b r=>rw[List.reverse_cons,gld_app];rfl
def Cx2(f:Pq->Rat)(a b:Pq):List Pq:=if f a * f b < 0 then [crq f a b] else []
def Kx2(f:Pq->Rat)(b:Pq):List Pq:=if 0<=f b then [b] else []
theorem cuL_cons(f:Pq->Rat)(a b:Pq)(r:List Pq):cuL f a (b::r)=Cx2 f a b++(Kx2 f b++cuL f b r):=rfl
theorem Cx2.rev(f:Pq->Rat)(a b:Pq):(Cx2 f a b).reverse=Cx2 f b a:=by
 unfold Cx2
 by_cases h:f a * f b < 0
 ·have h':f b * f a < 0:=by grind
  rw[if_pos h,if_pos h',crq_comm (by rcases q_sg h with ⟨y,x⟩|⟨y,x⟩<;>grind)]
  rfl
 ·have h':¬ f b * f a < 0:=by grind
  rw[if_neg h,if_neg h']
  rfl
theorem Kx2.rev(f:Pq->Rat)(b:Pq):(Kx2 f b).reverse=Kx2 f b:=by
 unfold Kx2
 split<;>rfl
theorem cuL_rev(f:Pq->Rat)(z:Pq):∀(r:List Pq)(a:Pq),cuL f z r.reverse++Cx2 f (r.headD z) a=Cx2 f z (r.getLastD a)++(cuL f a r).reverse
 | [],a=>by simp[cuL]
 | b::r,a=>by
  have ih:=cuL_rev f z r b
  rw[List.reverse_cons,cuL_app,rev_last,List.getLastD_cons,cuL_cons,cuL_cons]
  simp only[cuL,List.append_nil,List.reverse_append,Cx2.rev,Kx2.rev,List.headD_cons,List.append_assoc]
  rw[← List.append_assoc (cuL f z r.reverse),ih]
  simp only[List.append_assoc]
theorem cuW_rev(f:Pq->Rat)(l:List Pq):Rot (cuW f l).reverse (cuW f l.reverse):=by
 cases l with
 | nil=>exact⟨[],[],rfl,rfl⟩
 | cons b r =>
  have h:=cuL_rev f b (b::r) (r.getLastD b)
  have e1:cuW f (b::r).reverse=cuL f b (b::r).reverse:=by
   rw[cuW_eq f (by simp) b,rev_last]
   rfl
  rw[← e1,List.getLastD_cons]at h
  have g:cuW f (b::r).reverse++Cx2 f b (r.getLastD b)=Cx2 f b (r.getLastD b)++(cuW f (b::r)).reverse:=h
  clear h e1
  generalize cuW f (b::r).reverse=X at *
  generalize (cuW f (b::r)).reverse=Y at *
  have h:=g
  clear g
  unfold Cx2 at h
  split at h
  ·cases X with
   | nil =>
    simp at h
    subst h
    exact⟨[],[],rfl,rfl⟩
   | cons x X =>
    simp only[List.cons_append,List.nil_append,List.cons.injEq]at h
    obtain⟨h1,h2⟩:=h
    exact⟨X,[x],by rw[h1];exact h2.symm,rfl⟩
  ·simp at h
   subst h
   exact Rot.refl _
theorem arL_rev(z:Pq):∀(r:List Pq)(a:Pq),arL z r.reverse + crp (r.headD z) a=crp z (r.getLastD a) - arL a r
 | [],a=>by simp only[List.reverse_nil,arL,List.headD_nil,List.getLastD_nil];grind
 | b::r,a=>by
  have ih:=arL_rev z r b
  rw[List.reverse_cons,arL_app,rev_last,List.getLastD_cons]
  simp only[arL,List.headD_cons]
  have:=crp_neg a b
  grind
theorem arW_rev(l:List Pq):arW l.reverse=- arW l:=by
 cases l with
 | nil=>simp only[List.reverse_nil,arW];grind
 | cons b r =>
  have h:=arL_rev b (b::r) (r.getLastD b)
  rw[arW_eq (by simp) b,rev_last,List.headD_cons]
  rw[List.getLastD_cons,List.headD_cons]at h
  show arL b (b::r).reverse=- arL (r.getLastD b) (b::r)
  grind
def swp(e:Pq×Pq):Pq×Pq:=(e.2,e.1)
theorem edL_rev(z:Pq):∀(r:List Pq)(a:Pq),edL z r.reverse++[(r.headD z,a)]=(z,r.getLastD a)::((edL a r).map swp).reverse
 | [],a=>by simp[edL]
 | b::r,a=>by
  have ih:=edL_rev z r b
  rw[List.reverse_cons,edL_app,rev_last,List.getLastD_cons]
  simp only[edL,List.map_cons,List.reverse_cons,List.headD_cons]
  rw[← List.cons_append,← ih]
  rfl
theorem edW_rev{l:List Pq}{e:Pq×Pq}(h:e∈edW l.reverse):swp e∈edW l:=by
 cases l with
 | nil=>simp[edW]at h
 | cons b r =>
  have k:=edL_rev b (b::r) (r.getLastD b)
  have e1:edW (b::r).reverse=edL b (b::r).reverse:=by
   rw[edW_eq (by simp) b,rev_last]
   rfl
  rw[e1]at h
  have h2:e∈edL b (b::r).reverse++[((b::r).headD b,r.getLastD b)]:=List.mem_append_left _ h
  rw[k,List.mem_cons]at h2
  rcases h2 with rfl|h2
  ·rw[List.getLastD_cons]
   exact mcs
  ·obtain⟨e',he',rfl⟩:=List.mem_map.mp (List.mem_reverse.mp h2)
   exact he'
theorem Lined.rev{k:Nat}{l:List Pq}(h:Lined k l):Lined k l.reverse :=
 ⟨fun p hp=>h.sz p (List.mem_reverse.mp hp),fun e he=>by
  obtain⟨u,v,w,L,o1,o2⟩:=h.ed _ (edW_rev he)
  exact⟨u,v,w,L,o2,o1⟩⟩
theorem Lined.cutL{k:Nat}{l:List Pq}(h:Lined k l){f:Pq->Rat}{u v w:Int}{s:Rat}(L:Ln k u v w)(s0:s≠0)(hs:∀q:Pq,f q=s * ((u:Rat) * q.1 + (v:Rat) * q.2 + (w:Rat))):Lined k (cuW f l):=by
 have hf:Af f:=⟨s * u,s * v,s * w,fun p=>by rw[hs];grind⟩
 have on0:∀{p:Pq},f p=0->On u v w p:=fun {p} e=>by
  rw[hs]at e
  unfold On
  generalize (u:Rat) * p.1 + (v:Rat) * p.2 + (w:Rat)=y at *
  grind
 have hz:∃z,f z=0:=by
  have D:=q_ne2 L.ne
  refine⟨(- (w:Rat) * u / (u * u + v * v),- (w:Rat) * v / (u * u + v * v)),?_⟩
  rw[hs]
  generalize (u:Rat)=u at *
  generalize (v:Rat)=v at *
  grind
 refine⟨fun p hp=>?_,fun e he=>?_⟩
 ·rcases cuW_mem hp with ⟨m,_⟩|⟨e,m,c,rfl⟩
  ·exact h.sz p m
  ·obtain⟨u',v',w',L',o1,o2⟩:=h.ed e m
   have oc:=on0 (crq_zero hf c)
   have oc':On u' v' w' (crq f e.1 e.2):=o1.mid o2 _
   refine meet_sz L L' oc oc' fun d=>?_
   have d':(u:Rat) * v' - u' * v=0:=by
    have:=congrArg (Int.cast:Int->Rat) d
    rwa [Rat.intCast_sub,Rat.intCast_mul,Rat.intCast_mul]at this
   have c1:=hs e.1
   have c2:=hs e.2
   have ne:f e.1≠f e.2:=fun z=>by
    rcases q_sg c with ⟨y,x⟩|⟨y,x⟩<;>grind
   have D:=q_ne2 L'.ne
   unfold On at o1 o2
   refine ne ?_
   rw[c1,c2]
   clear c1 c2 ne oc oc' c hs on0 hz hf
   have e1:((u':Rat) * u' + (v':Rat) * v') * ((u:Rat) * e.1.1 + (v:Rat) * e.1.2 - ((u:Rat) * e.2.1 + (v:Rat) * e.2.2))=0:=by
    generalize (u:Rat)=u at *
    generalize (v:Rat)=v at *
    generalize (u':Rat)=u' at *
    generalize (v':Rat)=v' at *
    generalize (w':Rat)=w' at *
    grind
   have e2:(u:Rat) * e.1.1 + (v:Rat) * e.1.2 - ((u:Rat) * e.2.1 + (v:Rat) * e.2.2)=0:=by
    generalize (u:Rat) * e.1.1 + (v:Rat) * e.1.2 - ((u:Rat) * e.2.1 + (v:Rat) * e.2.2)=y at *
    grind
   grind
 ·rcases cuW_edges hf hz l e he with ⟨e',m,st⟩|⟨z1,z2⟩
  ·obtain⟨s,t,_,_,_,e1,e2⟩:=st
   obtain⟨u',v',w',L',o1,o2⟩:=h.ed e' m
   exact⟨u',v',w',L',by rw[e1];exact o1.mid o2 _,by rw[e2];exact o1.mid o2 _⟩
  ·exact⟨u,v,w,L,on0 z1,on0 z2⟩
theorem Rnd.area_pos{l:List Pq}(h:Rnd l):0 < arW l:=by
 obtain⟨sc,hl⟩:=h
 cases l with
 | nil=>simp at hl
 | cons p l =>
  cases l with
  | nil=>simp at hl
  | cons b l =>
   cases l with
   | nil=>simp at hl
   | cons c r =>
    rw[arW_fan]
    show 0 < fanS p b (c::r)
    have h1:=sc p b c (csc (csc (csc (List.nil_sublist r))))
    have h2:=fanS_nn p c r fun x y hs=>Rat.le_of_lt (sc p x y (csc (hs.trans (List.sublist_cons_self _ _))))
    show 0 < tq p b c + fanS p c r
    grind
theorem eps_of{p v:Pq}:∀(es:List (Pq×Pq)),(∀e∈es,0 < tq e.1 e.2 p)->∃t:Rat,0 < t/\∀e∈es,∀s:Rat,0<=s->s<=t->0<=tq e.1 e.2 p + s * (tq e.1 e.2 p - tq e.1 e.2 v)
 | [],_=>⟨1,by decide,by simp⟩
 | e :: es,h=>by
  obtain⟨t,t0,ht⟩:=eps_of es fun e' m=>h e' (mcm _ m)
  have he:=h e mcs
  rcases Rat.le_total (a:=0) (b:=tq e.1 e.2 p - tq e.1 e.2 v) with z|z
  ·refine⟨t,t0,fun e' m s s0 s1=>?_⟩
   rcases List.mem_cons.mp m with rfl|m
   ·have:=q_nn s0 z
    grind
   ·exact ht e' m s s0 s1
  ·generalize hx:tq e.1 e.2 p=x at *
   generalize hy:tq e.1 e.2 v=y at *
   by_cases hd:x - y=0
   ·refine⟨t,t0,fun e' m s s0 s1=>?_⟩
    rcases List.mem_cons.mp m with rfl|m
    ·rw[hx,hy,hd];grind
    ·exact ht e' m s s0 s1
   ·have dp:0 < y - x:=by grind
    have r0:0 < x / (y - x):=q_lt dp (by rw[show (y - x) * (x / (y - x))=x by grind];exact he)
    refine⟨if t<=x / (y - x) then t else x / (y - x),by split<;>assumption,fun e' m s s0 s1=>?_⟩
    have s2:s<=t/\s<=x / (y - x):=by
     split at s1
     ·exact⟨s1,by grind⟩
     ·exact⟨by grind,s1⟩
    rcases List.mem_cons.mp m with rfl|m
    ·rw[hx,hy]
     have:=q_nn (show 0<=x / (y - x) - s by grind) (Rat.le_of_lt dp)
     have e2:x / (y - x) * (y - x)=x:=by grind
     grind
    ·exact ht e' m s s0 s2.1
theorem Rnd.strict{l:List Pq}(h:Rnd l){f:Pq->Rat}(hf:Af f)(hn:∃z,f z≠0)(hp:∀p∈l,0<=f p){p:Pq}(hi:∀e∈edW l,0 < tq e.1 e.2 p):0 < f p:=by
 obtain⟨q,hq,ha⟩:=h.sc.amid h.len
 have fq:=ha f hf hn hp
 obtain⟨t,t0,ht⟩:=eps_of (v:=q) (edW l) hi
 have hm:Inq l (mid (-t) p q):=fun e he=>by
  rw[tq_m3]
  have:=ht e he t (Rat.le_of_lt t0) Rat.le_refl
  grind
 have:=hull_nn h.sc h.len hf hp hm
 rw[hf.mid]at this
 have h2:=q_pp t0 fq
 by_cases z:0 < f p
 ·exact z
 ·exfalso
  have:=q_nn (show 0<=1 + t by grind) (show 0 <= - f p by grind)
  grind
structure PSum(B i:Nat)(a:Pq)(S:Rat):Prop where
 ex:∃N W x y w:Int,0 < W/\0 < w/\N.natAbs<=2 * i * B ^ (i + 1)/\W.natAbs<=B ^ i/\x.natAbs<=B/\y.natAbs<=B/\w.natAbs<=B/\a.1=(x:Rat) / (w:Rat)/\a.2=(y:Rat) / (w:Rat)/\S=(N:Rat) / ((W * w:Int):Rat)
theorem ps_alg{N W w w' c:Rat}(h1:W≠0)(h2:w≠0)(h3:w'≠0):N / (W * w) + c / (w * w')=(N * w' + c * W) / (W * w * w'):=by grind
theorem ps_cr{x y w x' y' w':Rat}(h2:w≠0)(h3:w'≠0):x / w * (y' / w') - x' / w' * (y / w)=(x * y' - x' * y) / (w * w'):=by grind
theorem nat_bd{B:Nat}{N W w' c:Int}{i:Nat}(h1:N.natAbs<=2 * i * B ^ (i + 1))(h2:W.natAbs<=B ^ i)(h3:w'.natAbs<=B)(h4:c.natAbs<=2 * (B * B)):(N * w' + c * W).natAbs<=2 * (i + 1) * B ^ (i + 1 + 1):=by
 have a1:(N * w').natAbs<=2 * i * B ^ (i + 1) * B:=by rw[Int.natAbs_mul];exact Nat.mul_le_mul h1 h3
 have a2:(c * W).natAbs<=2 * (B * B) * B ^ i:=by rw[Int.natAbs_mul];exact Nat.mul_le_mul h4 h2
 have a3:(N * w' + c * W).natAbs<=(N * w').natAbs + (c * W).natAbs:=Int.natAbs_add_le _ _
 have e3:2 * i * B ^ (i + 1) * B=2 * i * B ^ (i + 1 + 1):=by rw[Nat.pow_succ B (i + 1),Nat.mul_assoc]
 have e4:2 * (B * B) * B ^ i=2 * B ^ (i + 1 + 1):=by rw[Nat.pow_succ B (i + 1),Nat.pow_succ B i,Nat.mul_assoc,Nat.mul_comm (B * B),Nat.mul_assoc]
 rw[e3]at a1
 rw[e4]at a2
 have e5:2 * (i + 1) * B ^ (i + 1 + 1)=2 * i * B ^ (i + 1 + 1) + 2 * B ^ (i + 1 + 1):=by rw[Nat.mul_add,Nat.add_mul]
 rw[e5]
 omega
theorem lim_le{n:Nat}{x:Int}(h:Lim n x):x.natAbs<=10 ^ n:=Nat.le_of_lt h
def Szb(B:Nat)(p:Pq):Prop:=∃x y w:Int,0 < w/\x.natAbs<=B/\y.natAbs<=B/\w.natAbs<=B/\p.1=(x:Rat) / (w:Rat)/\p.2=(y:Rat) / (w:Rat)
theorem Sz.szb{n:Nat}{p:Pq}(h:Sz n p):Szb (10 ^ n) p:=by
 obtain⟨x,y,w,pw,lx,ly,lw,e1,e2⟩:=h
 exact⟨x,y,w,pw,lim_le lx,lim_le ly,lim_le lw,e1,e2⟩
theorem PSum.step{B i:Nat}{a b:Pq}{S:Rat}(h:PSum B i a S)(hb:Szb B b):PSum B (i + 1) b (S + crp a b):=by
 obtain⟨N,W,x,y,w,pW,pw,bN,bW,lx,ly,lw,e1,e2,rfl⟩:=h.ex
 obtain⟨x',y',w',pw',lx',ly',lw',f1,f2⟩:=hb
 refine⟨N * w' + (x * y' - x' * y) * W,W * w,x',y',w',Int.mul_pos pW pw,pw',?_,?_,lx',ly',lw',f1,f2,?_⟩
 ·refine nat_bd bN bW lw' ?_
  have a1:(x * y').natAbs<=B * B:=by rw[Int.natAbs_mul];exact Nat.mul_le_mul lx ly'
  have a2:(x' * y).natAbs<=B * B:=by rw[Int.natAbs_mul];exact Nat.mul_le_mul lx' ly
  have a3:(x * y' - x' * y).natAbs<=(x * y').natAbs + (x' * y).natAbs:=by omega
  omega
 ·rw[Int.natAbs_mul,Nat.pow_succ]
  exact Nat.mul_le_mul bW lw
 ·have q1:=qi_ne (show W≠0 by omega)
  have q2:=qi_ne (show w≠0 by omega)
  have q3:=qi_ne (show w'≠0 by omega)
  unfold crp
  rw[e1,e2,f1,f2]
  simp only[Rat.intCast_mul,Rat.intCast_add,Rat.intCast_sub]
  rw[ps_cr q2 q3,ps_alg q1 q2 q3]
theorem lim_of_le{n m:Nat}{x:Int}(h:x.natAbs<=90 * 10 ^ n)(hm:n + 2<=m):Lim m x:=by
 show x.natAbs < 10 ^ m
 have h1:10 ^ (n + 2)<=10 ^ m:=Nat.pow_le_pow_right (by decide) hm
 have h2:0 < 10 ^ n:=Nat.pow_pos (by decide)
 rw[Nat.pow_add]at h1
 generalize 10 ^ m=M at *
 generalize 10 ^ n=N at *
 omega
theorem PSum.bq{n i:Nat}{a:Pq}{S:Rat}(h:PSum (10 ^ n) i a S)(hi:i<=40):Bq (n * (i + 1) + 2) S:=by
 obtain⟨N,W,x,y,w,pW,pw,bN,bW,lx,ly,lw,e1,e2,e⟩:=h.ex
 have p:=Int.mul_pos pW pw
 have g:(10 ^ n) ^ (i + 1)=10 ^ (n * (i + 1)):=by rw[← Nat.pow_mul]
 refine bq_of (n:=N) (m:=W * w) (by omega) (lim_of_le (n:=n * (i + 1)) (Nat.le_trans bN ?_) (Nat.le_refl _)) (lim_of_le (n:=n * (i + 1)) ?_ (Nat.le_refl _)) e
 ·rw[g]
  exact Nat.mul_le_mul_right _ (by omega)
 ·rw[Int.natAbs_mul]
  have:=Nat.mul_le_mul bW lw
  rw[← Nat.pow_succ,g]at this
  generalize 10 ^ (n * (i + 1))=M at *
  omega
theorem psum0{B:Nat}{a:Pq}(h:Szb B a):PSum B 0 a 0:=by
 obtain⟨x,y,w,pw,lx,ly,lw,e1,e2⟩:=h
 have z:(0:Rat)=((0:Int):Rat) / ((1 * w:Int):Rat):=by
  rw[Rat.intCast_zero]
  grind
 exact⟨0,1,x,y,w,by decide,pw,by simp,by simp,lx,ly,lw,e1,e2,z⟩
def Z08:SpT:=fun ts Q=>∃(n:Nat) (l:List Pq),ts=[pqL l]/\l.length<=40/\n<=80/\n * (l.length + 1)<=820/\(∀p∈l,Sz n p)/\(Bq (n * (l.length + 1) + 3) (arW l * (1 / 2))->Q (fq (arW l * (1 / 2))))
theorem Z57:∀ts Q,Z08 ts Q->ts.length=1:=by rintro ts Q ⟨_,_,e,_⟩;subst e;rfl
def Z1m:WS :=
 (sSeq (sSet 4 (w2 rIxTT (wVar 0) (w2 rSubT (wVar 2) (wC (.int 1)))))
  (sSeq (sSet 5 (wCall Z00 (aCons (wCall Z01 (aCons (w2 rIxTT (wVar 4) (wC (.int 0))) (aCons (w2 rIxTT (wVar 3) (wC (.int 1))) aNil))) (aCons (wCall Z01 (aCons (w2 rIxTT (wVar 3) (wC (.int 0))) (aCons (w2 rIxTT (wVar 4) (wC (.int 1))) aNil))) aNil))))
  (sSet 1 (wCall Z03 (aCons (wVar 1) (aCons (wVar 5) aNil))))))
def Z3A:WS :=
 (sSeq (sSet 1 (wTup (aCons (wC (.int 0)) (aCons (wC (.int 1)) aNil))))
  (sSeq (sFor (iEnum (aCons (wVar 0) aNil)) (gT 2 (gsC (gN 2) (gsC (gN 3) gs0))) Z1m)
  (sRet (wCall Z01 (aCons (wVar 1) (aCons (wTup (aCons (wC (.int 1)) (aCons (wC (.int 2)) aNil))) aNil))))))
theorem share_loop{D:DT}{n:Nat}{l:List Pq}(hl:l.length<=40)(hk:n<=80)(hn:n * (l.length + 1)<=820)(hs:∀p∈l,Sz n p):∀(r:List Pq)(i:Nat)(a:Pq)(S:Rat)(s2 s3 s4 s5:Slot),l.drop i=r->(r≠[]->atI (l.map pq) ((i:Int) - 1)=some (pq a))->Sz n a->PSum (10 ^ n) i a S->i<=l.length →
  (Bq (n * (l.length + 1) + 2) (S + arL a r)->∀s2 s3 s4 s5,D.nx [.val (pqL l),.val (fq (S + arL a r)),s2,s3,s4,s5]) →
  forT (gT 2 (gsC (gN 2) (gsC (gN 3) gs0))) Z1m (enumT i (r.map pq)) D [.val (pqL l),.val (fq S),s2,s3,s4,s5]
 | [],i,a,S,s2,s3,s4,s5,_,_,_,hS,hi,h=>by
  simp only[List.map,enumT,forT]
  rw[show S + arL a []=S by simp only[arL];grind]at h
  exact h ((hS.bq (by omega)).mono (Nat.add_le_add_right (Nat.mul_le_mul_left n (by omega)) 2)) _ _ _ _
 | b::r,i,a,S,s2,s3,s4,s5,e,ea,ha,hS,hi,h=>by
  obtain⟨e1,e2,mb⟩:=drop_cons e
  have hb:=hs b mb
  have hi':i < l.length:=(List.getElem?_eq_some_iff.mp e1).1
  have hS':=hS.step hb.szb
  have ih:=fun (s2 s3 s4 s5:Slot)=>share_loop (D:=D) hl hk hn hs r (i + 1) b (S + crp a b) s2 s3 s4 s5 e2 (fun _=>at_prev e1) hb hS' (by omega) (by
   rw[show S + crp a b + arL b r=S + arL a (b::r) by simp only[arL];grind]
   exact h)
  obtain⟨SL,hSL⟩:∃S,S=Z00:=⟨_,rfl⟩
  obtain⟨ST,hST⟩:∃S,S=Z01:=⟨_,rfl⟩
  obtain⟨SS,hSS⟩:∃S,S=Z03:=⟨_,rfl⟩
  have cl:∀{a b:Rat}{Q:T->Prop},Bq 900 a->Bq 900 b->Q (fq (a - b))->SL [fq a,fq b] Q:=fun ha hb q=>by rw[hSL];exact less_cal ha hb q
  have ct:∀{a b:Rat}{Q:T->Prop},Bq 900 a->Bq 900 b->Q (fq (a * b))->ST [fq a,fq b] Q:=fun ha hb q=>by rw[hST];exact times_cal ha hb q
  have cs:∀{a b:Rat}{Q:T->Prop},Bq 900 a->Bq 900 b->Q (fq (a + b))->SS [fq a,fq b] Q:=fun ha hb q=>by rw[hSS];exact sum_cal ha hb q
  simp only[List.map_cons,enumT,forT]
  generalize forT (gT 2 (gsC (gN 2) (gsC (gN 3) gs0))) Z1m (enumT (i + 1) (r.map pq)) D=F at ih ⊢
  unfold Z1m
  rw[← hSL,← hST,← hSS]
  have pa:=ha.bp.mono hk
  have pb:=hb.bp.mono hk
  walk_at "go"
  rw[ea (by simp)]
  walk_at "go"
  refine ct (pa.1.mono (by decide)) (pb.2.mono (by decide)) ?_
  walk_at "go"
  refine ct (pb.1.mono (by decide)) (pa.2.mono (by decide)) ?_
  walk_at "go"
  refine cl ((pa.1.mul pb.2).mono (by decide)) ((pb.1.mul pa.2).mono (by decide)) ?_
  walk_at "go"
  refine cs ((hS.bq (by omega)).mono (Nat.le_trans (Nat.add_le_add_right (Nat.mul_le_mul_left n (show i + 1<=l.length + 1 by omega)) 2) (by omega))) (((pa.1.mul pb.2).sub (pb.1.mul pa.2)).mono (by decide)) ?_
  exact ih _ _ _ _
theorem fr12q:T.tup [.int 1,.int 2]=fq (1 / 2):=by
 have:fr 1 2=fq (1 / 2):=fq_of (by decide) rfl
 rw[← this]
 exact fr_of (by decide) ⟨by decide,by decide,rfl⟩
theorem bq12:Bq 1 (1 / 2:Rat):=bq_of (n:=1) (m:=2) (by decide) (Lim.of (by decide) (by decide)) (Lim.of (by decide) (by decide)) rfl
theorem fq0:T.tup [.int 0,.int 1]=fq 0:=fq_int 0
theorem Z5q:∀ts Q,Z08 ts Q->Z3A {nx:=fun _=>Q .non,rt:=Q} (startT 6 ts):=by
 rintro _ Q ⟨n,l,rfl,hl,hk,hn,hs,h⟩
 obtain⟨ST,hST⟩:∃S,S=Z01:=⟨_,rfl⟩
 have ct:∀{a b:Rat}{Q:T->Prop},Bq 900 a->Bq 900 b->Q (fq (a * b))->ST [fq a,fq b] Q:=fun ha hb q=>by rw[hST];exact times_cal ha hb q
 unfold Z3A
 obtain⟨W0,hW0⟩:∃W,W=Z1m:=⟨_,rfl⟩
 rw[← hW0,← hST]
 have fin:∀(A:Rat)(s2 s3 s4 s5:Slot),Bq (n * (l.length + 1) + 2) A->A=arW l->sRet (wCall ST (aCons (wVar 1) (aCons (wTup (aCons (wC (.int 1)) (aCons (wC (.int 2)) aNil))) aNil))) {nx:=fun _=>Q .non,rt:=Q} [.val (pqL l),.val (fq A),s2,s3,s4,s5]:=fun A s2 s3 s4 s5 lA e=>by
  subst e
  walk_at "go"
  rw[fr12q]
  exact ct (lA.mono (by omega)) (bq12.mono (by decide)) (h ((lA.mul bq12).mono (by omega)))
 walk_at "go"
 rw[hW0,fq0]
 cases l with
 | nil =>
  simp only[List.map,enumT,forT]
  exact fin 0 _ _ _ _ ((bq_int (k:=1) (n:=0) (Lim.of (by decide) (by decide)) (by decide)).mono (by omega)) rfl
 | cons a r =>
  refine share_loop (D:={nx:=fun τ=>sRet (wCall ST (aCons (wVar 1) (aCons (wTup (aCons (wC (.int 1)) (aCons (wC (.int 2)) aNil))) aNil))) {nx:=fun _=>Q .non,rt:=Q} τ,rt:=Q}) hl hk hn hs (a::r) 0 (r.getLastD a) 0 _ _ _ _ rfl (fun _=>at_last a r) (hs _ (last_mem a r)) (psum0 (hs _ (last_mem a r)).szb) (by omega) fun l s2 s3 s4 s5=>?_
  exact fin _ _ _ _ _ l (by show 0 + arL _ _=arL _ _;grind)
structure Par where
 P:Pq
 S:Pq
 O:Pq
 h0:Rat
 hs:Rat
 ho:Rat
namespace Par
variable (g:Par)
def pp(u v:Rat):Pq:=(g.P.1 + u * g.S.1 + v * g.O.1,g.P.2 + u * g.S.2 + v * g.O.2)
def hh(u v:Rat):Rat:=g.h0 + u * g.hs + v * g.ho
def D:Rat:=g.S.1 * g.O.2 - g.S.2 * g.O.1
def sg(q:Pq):Rat:=((q.1 - g.P.1) * g.O.2 - (q.2 - g.P.2) * g.O.1) / g.D
def ta(q:Pq):Rat:=(g.S.1 * (q.2 - g.P.2) - g.S.2 * (q.1 - g.P.1)) / g.D
def f(q:Pq):Rat:=g.hh (g.sg q) (g.ta q)
def In(q:Pq):Prop:=0<=g.sg q/\g.sg q<=1/\0<=g.ta q/\g.ta q<=1
def cs:List Pq:=[g.pp 0 0,g.pp 1 0,g.pp 1 1,g.pp 0 1]
def zs:List Pz:=[(g.pp 0 0,g.hh 0 0),(g.pp 1 0,g.hh 1 0),(g.pp 1 1,g.hh 1 1),(g.pp 0 1,g.hh 0 1)]
theorem tq_pp(a b c d e h:Rat):tq (g.pp a b) (g.pp c d) (g.pp e h)=g.D * ((c - a) * (h - b) - (d - b) * (e - a)):=by
 simp only[tq,pp,D]
 grind
theorem pp_q(hD:g.D≠0)(q:Pq):g.pp (g.sg q) (g.ta q)=q:=by
 have e:g.D=g.S.1 * g.O.2 - g.S.2 * g.O.1:=rfl
 unfold pp sg ta
 refine Prod.ext ?_ ?_
 ·show g.P.1 + _ * g.S.1 + _ * g.O.1=q.1
  generalize g.D=d at *
  grind
 ·show g.P.2 + _ * g.S.2 + _ * g.O.2=q.2
  generalize g.D=d at *
  grind
theorem sg_pp(hD:g.D≠0)(u v:Rat):g.sg (g.pp u v)=u:=by
 have e:g.D=g.S.1 * g.O.2 - g.S.2 * g.O.1:=rfl
 unfold pp sg
 generalize g.D=d at *
 show ((g.P.1 + u * g.S.1 + v * g.O.1 - g.P.1) * g.O.2 - (g.P.2 + u * g.S.2 + v * g.O.2 - g.P.2) * g.O.1) / d=u
 grind
theorem ta_pp(hD:g.D≠0)(u v:Rat):g.ta (g.pp u v)=v:=by
 have e:g.D=g.S.1 * g.O.2 - g.S.2 * g.O.1:=rfl
 unfold pp ta
 generalize g.D=d at *
 show (g.S.1 * (g.P.2 + u * g.S.2 + v * g.O.2 - g.P.2) - g.S.2 * (g.P.1 + u * g.S.1 + v * g.O.1 - g.P.1)) / d=v
 grind
theorem f_pp(hD:g.D≠0)(u v:Rat):g.f (g.pp u v)=g.hh u v:=by unfold f;rw[g.sg_pp hD,g.ta_pp hD]
theorem af_f:Af g.f:=by
 refine⟨(g.O.2 * g.hs - g.S.2 * g.ho) / g.D,(g.S.1 * g.ho - g.O.1 * g.hs) / g.D,g.h0 - (g.P.1 * (g.O.2 * g.hs - g.S.2 * g.ho) + g.P.2 * (g.S.1 * g.ho - g.O.1 * g.hs)) / g.D,fun q=>?_⟩
 unfold f hh sg ta
 simp only[Rat.div_def]
 grind
theorem zs_cs(hD:g.D≠0):g.zs=g.cs.map (hz g.f):=by
 simp only[zs,cs,List.map_cons,List.map_nil,hz,g.f_pp hD]
theorem sv4{a b c d:Pq}(h1:0 < tq a b c)(h2:0 < tq a b d)(h3:0 < tq a c d)(h4:0 < tq b c d):SCv [a,b,c,d]:=by
 intro x y z hs
 rcases List.sublist_cons_iff.mp hs with hs|⟨r,e,hs⟩
 ·have e:=hs.eq_of_length rfl
  cases e
  exact h4
 ·cases e
  rcases List.sublist_cons_iff.mp hs with hs|⟨r,e,hs⟩
  ·have e:=hs.eq_of_length rfl
   cases e
   exact h3
  ·cases e
   rcases List.sublist_cons_iff.mp hs with hs|⟨r,e,hs⟩
   ·have e:=hs.eq_of_length rfl
    cases e
    exact h2
   ·cases e
    exact h1
theorem rnd_pos(h:0 < g.D):Rnd g.cs:=by
 refine⟨sv4 ?_ ?_ ?_ ?_,by simp[cs]⟩<;>rw[tq_pp]<;>grind
theorem rnd_neg(h:g.D < 0):Rnd g.cs.reverse:=by
 refine⟨sv4 ?_ ?_ ?_ ?_,by simp[cs]⟩<;>rw[tq_pp]<;>grind
theorem ed_cs:edW g.cs=[(g.pp 0 1,g.pp 0 0),(g.pp 0 0,g.pp 1 0),(g.pp 1 0,g.pp 1 1),(g.pp 1 1,g.pp 0 1)]:=rfl
theorem ed_rv:edW g.cs.reverse=[(g.pp 0 0,g.pp 0 1),(g.pp 0 1,g.pp 1 1),(g.pp 1 1,g.pp 1 0),(g.pp 1 0,g.pp 0 0)]:=rfl
theorem q_sc{a b:Rat}(h:0 < a):0<=a * b ↔ 0<=b:=⟨fun z=>q_le h z,fun z=>q_nn (Rat.le_of_lt h) z⟩
theorem in_pos(h:0 < g.D)(q:Pq):Inq g.cs q ↔ g.In q:=by
 have hD:g.D≠0:=by grind
 have e:=g.pp_q hD q
 unfold Inq In
 rw[ed_cs]
 simp only[List.forall_mem_cons]
 have k:∀a b c d,tq (g.pp a b) (g.pp c d) q=g.D * ((c - a) * (g.ta q - b) - (d - b) * (g.sg q - a)):=fun a b c d=>by
  conv=>lhs;rw[← e]
  rw[tq_pp]
 simp only[k,q_sc h]
 generalize g.sg q=x
 generalize g.ta q=y
 constructor
 ·rintro ⟨h1,h2,h3,h4,_⟩
  grind
 ·intro ⟨h1,h2,h3,h4⟩
  refine⟨?_,?_,?_,?_,by simp⟩<;>grind
theorem in_neg(h:g.D < 0)(q:Pq):Inq g.cs.reverse q ↔ g.In q:=by
 have hD:g.D≠0:=by grind
 have e:=g.pp_q hD q
 unfold Inq In
 rw[ed_rv]
 simp only[List.forall_mem_cons]
 have k:∀a b c d,tq (g.pp a b) (g.pp c d) q=(-g.D) * ((d - b) * (g.sg q - a) - (c - a) * (g.ta q - b)):=fun a b c d=>by
  conv=>lhs;rw[← e]
  rw[tq_pp]
  grind
 simp only[k,q_sc (show 0 < -g.D by grind)]
 generalize g.sg q=x
 generalize g.ta q=y
 constructor
 ·rintro ⟨h1,h2,h3,h4,_⟩
  grind
 ·intro ⟨h1,h2,h3,h4⟩
  refine⟨?_,?_,?_,?_,by simp⟩<;>grind
end Par
theorem Rnd.cutf{l:List Pq}(h:Rnd l){f:Pq->Rat}(hf:Af f)(hp:∃p∈l,0 < f p):Rnd (cuW f l)/\∀q,Inq (cuW f l) q ↔ Inq l q/\0<=f q:=by
 have c:=h.sc.cut h.len hf hp
 refine⟨⟨c.1,c.2⟩,fun q=>?_⟩
 by_cases hn:∀p∈l,0<=f p
 ·rw[cuW_nn f hn]
  exact⟨fun z=>⟨z,hull_nn h.sc h.len hf hn z⟩,fun z=>z.1⟩
 ·obtain⟨n,hn⟩:=Classical.not_forall.mp hn
  have mn:n∈l:=Classical.byContradiction fun z=>hn fun y=>absurd y z
  have fn:f n < 0:=Rat.not_le.mp fun z=>hn fun _=>z
  obtain⟨p,mp,fp⟩:=hp
  have hz:∃z,f z=0:=⟨crq f p n,crq_zero hf (q_ng fp fn)⟩
  exact h.sc.cut_in h.len hf hz ⟨p,mp,fp⟩ q
theorem Rot.rnd{l l':List Pq}(h:Rot l l')(R:Rnd l):Rnd l':=by
 obtain⟨A,B,rfl,rfl⟩:=h
 exact⟨R.sc.rot,by have:=R.len;simp at this ⊢;omega⟩
theorem Rot.inq{l l':List Pq}(h:Rot l l')(q:Pq):Inq l q ↔ Inq l' q:=by
 obtain⟨A,B,rfl,rfl⟩:=h
 exact inq_rot
theorem Par.thrown(g:Par)(hD:g.D≠0)(hp:∃p∈g.cs,0 < g.f p) :
  (0 < g.D/\Rnd (cuW g.f g.cs)/\∀q,Inq (cuW g.f g.cs) q ↔ g.In q/\0<=g.f q)∨(g.D < 0/\Rnd (cuW g.f g.cs).reverse/\∀q,Inq (cuW g.f g.cs).reverse q ↔ g.In q/\0<=g.f q):=by
 by_cases h:0 < g.D
 ·obtain⟨R,k⟩:=(g.rnd_pos h).cutf g.af_f hp
  exact .inl ⟨h,R,fun q=>by rw[k,g.in_pos h]⟩
 ·have h:g.D < 0:=by grind
  obtain⟨p,mp,fp⟩:=hp
  obtain⟨R,k⟩:=(g.rnd_neg h).cutf g.af_f ⟨p,List.mem_reverse.mpr mp,fp⟩
  have r:=cuW_rev g.f g.cs
  exact .inr ⟨h,r.symm.rnd R,fun q=>by rw[r.inq,k,g.in_neg h]⟩
abbrev V3:=Rat×Rat×Rat
def dt(a b:V3):Rat:=a.1 * b.1 + a.2.1 * b.2.1 + a.2.2 * b.2.2
def cx(a b:V3):V3:=(a.2.1 * b.2.2 - a.2.2 * b.2.1,a.2.2 * b.1 - a.1 * b.2.2,a.1 * b.2.1 - a.2.1 * b.1)
theorem bin1(a b s o d:V3):dt a (cx o d) * dt b (cx d s) - dt a (cx d s) * dt b (cx o d)=dt (cx s o) d * dt (cx a b) d:=by
 simp only[dt,cx]
 grind
def rr(s o q:V3)(X Y:Rat):V3:=(X * s.1 + Y * o.1 - q.1,X * s.2.1 + Y * o.2.1 - q.2.1,X * s.2.2 + Y * o.2.2 - q.2.2)
theorem x_rr(s o d q:V3)(X Y:Rat):dt (rr s o q X Y) (cx o d)=X * dt (cx s o) d - dt q (cx o d):=by
 simp only[dt,cx,rr]
 grind
theorem y_rr(s o d q:V3)(X Y:Rat):dt (rr s o q X Y) (cx d s)=Y * dt (cx s o) d - dt q (cx d s):=by
 simp only[dt,cx,rr]
 grind
def th(r d:V3)(m w:Rat):V3:=(m * r.1 + w * d.1,m * r.2.1 + w * d.2.1,m * r.2.2 + w * d.2.2)
theorem crm(F s o r d:V3):dt F s * dt (cx r o) d + dt F o * dt (cx s r) d=dt (cx s o) d * dt F r - dt (cx s o) r * dt F d:=by
 simp only[dt,cx]
 grind
theorem f_rr(s o q:V3)(X Y:Rat):dt (cx s o) (rr s o q X Y)=- dt (cx s o) q:=by
 simp only[dt,cx,rr]
 grind
def geo(s o q s' o' d:V3):Par :=
 let W:=dt (cx s o) d
 ⟨(dt q (cx o d) / W,dt q (cx d s) / W),(dt s' (cx o d) / W,dt s' (cx d s) / W),(dt o' (cx o d) / W,dt o' (cx d s) / W),dt (cx s o) q,dt (cx s o) s',dt (cx s o) o'⟩
section
variable {s o q s' o' d:V3}
theorem geo_D(hW:dt (cx s o) d≠0):(geo s o q s' o' d).D=dt (cx s' o') d / dt (cx s o) d:=by
 have:=bin1 s' o' s o d
 simp only[Par.D,geo]
 generalize dt (cx s o) d=W at *
 generalize dt (cx s' o') d=B at *
 generalize dt s' (cx o d)=a at *
 generalize dt o' (cx d s)=b at *
 generalize dt s' (cx d s)=a' at *
 generalize dt o' (cx o d)=b' at *
 grind
theorem geo_sg(hW:dt (cx s o) d≠0)(hB:dt (cx s' o') d≠0)(p:Pq):(geo s o q s' o' d).sg p=dt (cx (rr s o q p.1 p.2) o') d / dt (cx s' o') d:=by
 have e1:=bin1 (rr s o q p.1 p.2) o' s o d
 rw[x_rr,y_rr]at e1
 unfold Par.sg
 rw[geo_D hW]
 simp only[geo]
 generalize dt (cx s o) d=W at *
 generalize dt (cx s' o') d=B at *
 generalize dt (cx (rr s o q p.1 p.2) o') d=K at *
 generalize dt q (cx o d)=a at *
 generalize dt q (cx d s)=a' at *
 generalize dt o' (cx d s)=b at *
 generalize dt o' (cx o d)=b' at *
 grind
theorem geo_ta(hW:dt (cx s o) d≠0)(hB:dt (cx s' o') d≠0)(p:Pq):(geo s o q s' o' d).ta p=dt (cx s' (rr s o q p.1 p.2)) d / dt (cx s' o') d:=by
 have e1:=bin1 s' (rr s o q p.1 p.2) s o d
 rw[x_rr,y_rr]at e1
 unfold Par.ta
 rw[geo_D hW]
 simp only[geo]
 generalize dt (cx s o) d=W at *
 generalize dt (cx s' o') d=B at *
 generalize dt (cx s' (rr s o q p.1 p.2)) d=K at *
 generalize dt q (cx o d)=a at *
 generalize dt q (cx d s)=a' at *
 generalize dt s' (cx d s)=b at *
 generalize dt s' (cx o d)=b' at *
 grind
theorem geo_f(hW:dt (cx s o) d≠0)(hB:dt (cx s' o') d≠0)(p:Pq):(geo s o q s' o' d).f p=dt (cx s o) d * (- dt (cx s' o') (rr s o q p.1 p.2) / dt (cx s' o') d):=by
 have e1:=crm (cx s o) s' o' (rr s o q p.1 p.2) d
 rw[f_rr]at e1
 unfold Par.f Par.hh
 rw[geo_sg hW hB,geo_ta hW hB]
 simp only[geo]
 generalize dt (cx s o) d=W at *
 generalize dt (cx s' o') d=B at *
 generalize dt (cx (rr s o q p.1 p.2) o') d=K at *
 generalize dt (cx s' (rr s o q p.1 p.2)) d=K' at *
 generalize dt (cx s' o') (rr s o q p.1 p.2)=R at *
 generalize dt (cx s o) q=a at *
 generalize dt (cx s o) s'=b at *
 generalize dt (cx s o) o'=b' at *
 grind
end
def SQ:List Pq:=[(0,0),(1,0),(1,1),(0,1)]
def InS(q:Pq):Prop:=∀e∈edW SQ,0 < tq e.1 e.2 q
theorem sq_tq:tq (0,0) (1,0) (1,1)=1/\tq (0,0) (1,0) (0,1)=1/\tq (0,0) (1,1) (0,1)=1/\tq (1,0) (1,1) (0,1)=1:=by
 simp only[tq]
 grind
theorem rnd_SQ:Rnd SQ:=by
 obtain⟨h1,h2,h3,h4⟩:=sq_tq
 exact⟨Par.sv4 (by rw[h1];decide) (by rw[h2];decide) (by rw[h3];decide) (by rw[h4];decide),by simp[SQ]⟩
theorem sz_SQ:∀p∈SQ,Sz 1 p:=by
 have z:∀a b:Int,(a=0∨a=1)->(b=0∨b=1)->Sz 1 ((a:Rat),(b:Rat)):=fun a b ha hb=>⟨a,b,1,by decide,Lim.of (by omega) (by omega),Lim.of (by omega) (by omega),Lim.of (by decide) (by decide),by show (a:Rat)=(a:Rat) / ((1:Int):Rat);rw[Rat.intCast_one];grind,by show (b:Rat)=(b:Rat) / ((1:Int):Rat);rw[Rat.intCast_one];grind⟩
 intro p hp
 simp only[SQ,List.mem_cons,List.not_mem_nil,or_false]at hp
 rcases hp with rfl|rfl|rfl|rfl
 ·exact z 0 0 (.inl rfl) (.inl rfl)
 ·exact z 1 0 (.inr rfl) (.inl rfl)
 ·exact z 1 1 (.inr rfl) (.inr rfl)
 ·exact z 0 1 (.inl rfl) (.inr rfl)
theorem Lnd.mono{k k':Nat}{p q:Pq}(h:Lnd k p q)(hk:k<=k'):Lnd k' p q:=by
 obtain⟨u,v,w,L,a,b⟩:=h
 exact⟨u,v,w,⟨L.ne,L.lu.mono hk,L.lv.mono hk,L.lw.mono hk⟩,a,b⟩
theorem Lined.mono{k k':Nat}{l:List Pq}(h:Lined k l)(hk:k<=k'):Lined k' l:=⟨fun p hp=>(h.sz p hp).mono (by omega),fun e he=>(h.ed e he).mono hk⟩
theorem lin_SQ:Lined 8 SQ:=(rnd_SQ.lined sz_SQ).mono (by decide)
def Shd(g:Par)(F:List Pq):Prop:=(F=[]/\∀q,InS q->¬ (g.D≠0/\g.In q/\0 < g.f q))∨(Rnd F/\Lowest F/\g.D≠0/\(∃z,g.f z≠0)/\∀q,Inq F q ↔ (g.In q/\0<=g.f q)/\Inq SQ q)
theorem sq_ne{e:Pq×Pq}(h:e∈edW SQ):e.1≠e.2:=rnd_SQ.sc.ed_ne rnd_SQ.len h
theorem Shd.mix{g:Par}{F:List Pq}(h:∀q,InS q->¬ (g.D≠0/\g.In q/\0 < g.f q))(R:Rnd F)(hD:g.D≠0)(hf:∃z,g.f z≠0)(k:∀q,Inq F q ↔ (g.In q/\0<=g.f q)/\Inq SQ q):False:=by
 obtain⟨q,hq,ha⟩:=R.sc.amid R.len
 have hv:∀p∈F,(g.In p/\0<=g.f p)/\Inq SQ p:=fun p hp=>(k p).mp (R.sc.inq (by have:=R.len;omega) hp)
 refine h q (fun e he=>ha _ (af_tq e.1 e.2) (tq_ndg (sq_ne he)) fun p hp=>(hv p hp).2 e he) ⟨hD,((k q).mp hq).1.1,ha _ g.af_f hf fun p hp=>(hv p hp).1.2⟩
theorem Shd.uniq{g:Par}{F F':List Pq}(h:Shd g F)(h':Shd g F'):F'=F:=by
 rcases h with ⟨rfl,h⟩|⟨R,lo,hD,hf,k⟩<;>rcases h' with ⟨rfl,h'⟩|⟨R',lo',hD',hf',k'⟩
 ·rfl
 ·exact(Shd.mix h R' hD' hf' k').elim
 ·exact(Shd.mix h' R hD hf k).elim
 ·exact R'.sc.same R'.len lo' R.sc R.len lo fun q=>by rw[k,k']
def rq(a b:Int):Rat:=(a:Rat) / (b:Rat)
def rT(t:Tr):V3:=((t.1:Rat),(t.2.1:Rat),(t.2.2:Rat))
theorem dt_rT(a b:Tr):dt (rT a) (rT b)=((dotI a b:Int):Rat):=by
 simp only[dt,rT,dotI,Rat.intCast_add,Rat.intCast_mul]
theorem cx_rT(a b:Tr):cx (rT a) (rT b)=rT (crs a b):=by
 simp only[cx,rT,crs,Rat.intCast_sub,Rat.intCast_mul]
def Bd(B:Nat)(i:Int):Prop:=i.natAbs<=B
theorem Bd.mul{B C:Nat}{i j:Int}(h:Bd B i)(k:Bd C j):Bd (B * C) (i * j):=by
 unfold Bd at *
 rw[Int.natAbs_mul]
 exact Nat.mul_le_mul h k
theorem Bd.add{B C:Nat}{i j:Int}(h:Bd B i)(k:Bd C j):Bd (B + C) (i + j):=by
 unfold Bd at *
 omega
theorem Bd.sub{B C:Nat}{i j:Int}(h:Bd B i)(k:Bd C j):Bd (B + C) (i - j):=by
 unfold Bd at *
 omega
theorem Bd.lim{B n:Nat}{i:Int}(h:Bd B i)(hn:B < 10 ^ n:=by decide):Lim n i:=Nat.lt_of_le_of_lt h hn
theorem Bd.mono{B C:Nat}{i:Int}(h:Bd B i)(hc:B<=C):Bd C i:=Nat.le_trans h hc
abbrev BdT(B:Nat)(t:Tr):Prop:=Bd B t.1/\Bd B t.2.1/\Bd B t.2.2
theorem bd_crs{m n:Nat}{a b:Tr}(ha:BdT m a)(hb:BdT n b):BdT (m * n + m * n) (crs a b) :=
 ⟨(ha.2.1.mul hb.2.2).sub (ha.2.2.mul hb.2.1),(ha.2.2.mul hb.1).sub (ha.1.mul hb.2.2),(ha.1.mul hb.2.1).sub (ha.2.1.mul hb.1)⟩
theorem bd_dot{m n:Nat}{a b:Tr}(ha:BdT m a)(hb:BdT n b):Bd (m * n + m * n + m * n) (dotI a b):=((ha.1.mul hb.1).add (ha.2.1.mul hb.2.1)).add (ha.2.2.mul hb.2.2)
structure Szs(c s o c' s' o' d:Tr):Prop where
 lc:BdT 60 c
 ls:BdT 60 s
 lo:BdT 60 o
 lc':BdT 600 c'
 ls':BdT 120 s'
 lo':BdT 120 o'
 ld:BdT 70 d
 W:0 < dotI (crs s o) d
 n:crs s' o'≠(0,0,0)
abbrev wpt(c s o:Tr)(u v:Int):Tr:=(c.1 + (u * s.1 + v * o.1),c.2.1 + (u * s.2.1 + v * o.2.1),c.2.2 + (u * s.2.2 + v * o.2.2))
section
variable {c s o c' s' o' d:Tr}
abbrev gI(c s o c' s' o' d:Tr):Par:=geo (rT s) (rT o) (rT (tless c' c 1)) (rT s') (rT o') (rT d)
abbrev qI(c c' s' o':Tr)(u v:Int):Tr:=tless (wpt c' s' o' u v) c 1
abbrev xI(s o d t:Tr):Int:=dotI t (crs o d)
abbrev yI(s o d t:Tr):Int:=dotI t (crs d s)
theorem pp_I(hW:dotI (crs s o) d≠0)(u v:Int):(gI c s o c' s' o' d).pp (u:Rat) (v:Rat)=(rq (xI s o d (qI c c' s' o' u v)) (dotI (crs s o) d),rq (yI s o d (qI c c' s' o' u v)) (dotI (crs s o) d)):=by
 have q1:=qi_ne hW
 unfold Par.pp
 simp only[gI,geo,cx_rT,dt_rT,rq]
 generalize dotI (crs s o) d=W at *
 have e1:∀k:Tr,((dotI (qI c c' s' o' u v) k:Int):Rat)=((dotI (tless c' c 1) k:Int):Rat) + (u:Rat) * ((dotI s' k:Int):Rat) + (v:Rat) * ((dotI o' k:Int):Rat):=fun k=>by
  rw[← Rat.intCast_mul,← Rat.intCast_mul,← Rat.intCast_add,← Rat.intCast_add]
  congr 1
  simp only[dotI,tless,wpt]
  grind
 rw[e1,e1]
 generalize ((dotI (tless c' c 1) (crs o d):Int):Rat)=a
 generalize ((dotI (tless c' c 1) (crs d s):Int):Rat)=a'
 generalize ((dotI s' (crs o d):Int):Rat)=b
 generalize ((dotI s' (crs d s):Int):Rat)=b'
 generalize ((dotI o' (crs o d):Int):Rat)=e
 generalize ((dotI o' (crs d s):Int):Rat)=e'
 refine Prod.ext ?_ ?_
 ·show a / W + u * (b / W) + v * (e / W)=(a + u * b + v * e) / W
  grind
 ·show a' / W + u * (b' / W) + v * (e' / W)=(a' + u * b' + v * e') / W
  grind
theorem hh_I(u v:Int):(gI c s o c' s' o' d).hh (u:Rat) (v:Rat)=((dotI (qI c c' s' o' u v) (crs s o):Int):Rat):=by
 unfold Par.hh
 simp only[gI,geo,cx_rT,dt_rT]
 rw[← Rat.intCast_mul,← Rat.intCast_mul,← Rat.intCast_add,← Rat.intCast_add]
 congr 1
 simp only[dotI,tless,wpt]
 grind
theorem lim_q(h:Szs c s o c' s' o' d){u v:Int}(hu:u=0∨u=1)(hv:v=0∨v=1):BdT 900 (qI c c' s' o' u v):=by
 have z:∀{a b e k:Int},Bd 600 a->Bd 120 b->Bd 120 e->Bd 60 k->Bd 900 (a + (u * b + v * e) - k * 1):=fun h1 h2 h3 h4=>by
  unfold Bd at *
  rcases hu with rfl|rfl<;>rcases hv with rfl|rfl<;>omega
 exact⟨z h.lc'.1 h.ls'.1 h.lo'.1 h.lc.1,z h.lc'.2.1 h.ls'.2.1 h.lo'.2.1 h.lc.2.1,z h.lc'.2.2 h.ls'.2.2 h.lo'.2.2 h.lc.2.2⟩
theorem lim_W(h:Szs c s o c' s' o' d):Bd 1512000 (dotI (crs s o) d):=bd_dot (bd_crs h.ls h.lo) h.ld
theorem lim_x(h:Szs c s o c' s' o' d){u v:Int}(hu:u=0∨u=1)(hv:v=0∨v=1):Bd 22680000 (xI s o d (qI c c' s' o' u v))/\Bd 22680000 (yI s o d (qI c c' s' o' u v))/\Bd 19440000 (dotI (qI c c' s' o' u v) (crs s o)) :=
 ⟨bd_dot (lim_q h hu hv) (bd_crs h.lo h.ld),bd_dot (lim_q h hu hv) (bd_crs h.ld h.ls),bd_dot (lim_q h hu hv) (bd_crs h.ls h.lo)⟩
theorem binI(a b:Tr):xI s o d a * yI s o d b - yI s o d a * xI s o d b=dotI (crs s o) d * dotI (crs a b) d:=by
 simp only[xI,yI,dotI,crs]
 grind
theorem edge_on(hW:dotI (crs s o) d≠0)(a b:Tr):On (yI s o d a - yI s o d b) (xI s o d b - xI s o d a) (dotI (crs a b) d) (rq (xI s o d a) (dotI (crs s o) d),rq (yI s o d a) (dotI (crs s o) d))/\On (yI s o d a - yI s o d b) (xI s o d b - xI s o d a) (dotI (crs a b) d) (rq (xI s o d b) (dotI (crs s o) d),rq (yI s o d b) (dotI (crs s o) d)):=by
 have e:=congrArg (Int.cast:Int->Rat) (binI (s:=s) (o:=o) (d:=d) a b)
 have q:=qi_ne hW
 unfold On rq
 simp only[Rat.intCast_sub,Rat.intCast_mul]at e ⊢
 generalize ((dotI (crs s o) d:Int):Rat)=W at *
 generalize ((xI s o d a:Int):Rat)=xa at *
 generalize ((xI s o d b:Int):Rat)=xb at *
 generalize ((yI s o d a:Int):Rat)=ya at *
 generalize ((yI s o d b:Int):Rat)=yb at *
 generalize ((dotI (crs a b) d:Int):Rat)=k at *
 constructor<;>grind
end
theorem chL_mem:∀(a:Pz)(r:List Pz){v:Pq},v∈chL a r->(∃z∈r,v=z.1)∨∃x∈a::r,∃y∈r,x.2 * y.2 < 0/\v=crz x y
 | a,[],v,h=>by simp[chL]at h
 | a,b::r,v,h=>by
  rw[chL]at h
  rcases List.mem_append.mp h with h|h
  ·split at h
   ·rename_i c
    exact .inr ⟨a,mcs,b,mcs,c,List.mem_singleton.mp h⟩
   ·simp at h
  ·rcases List.mem_append.mp h with h|h
   ·split at h
    ·exact .inl ⟨b,mcs,List.mem_singleton.mp h⟩
    ·simp at h
   ·rcases chL_mem b r h with ⟨z,m,e⟩|⟨x,mx,y,my,c,e⟩
    ·exact .inl ⟨z,mcm _ m,e⟩
    ·exact .inr ⟨x,mcm _ mx,y,mcm _ my,c,e⟩
theorem chW_mem{l:List Pz}{v:Pq}(h:v∈chW l):(∃z∈l,v=z.1)∨∃x∈l,∃y∈l,x.2 * y.2 < 0/\v=crz x y:=by
 cases l with
 | nil=>simp[chW]at h
 | cons a r =>
  rcases chL_mem _ _ h with z|⟨x,mx,y,my,c,e⟩
  ·exact .inl z
  ·refine .inr ⟨x,?_,y,my,c,e⟩
   rcases List.mem_cons.mp mx with rfl|mx
   ·exact last_mem a r
   ·exact mx
theorem chL_len:∀(a:Pz)(r:List Pz),(chL a r).length<=2 * r.length
 | _,[]=>by simp[chL]
 | a,b::r=>by
  have:=chL_len b r
  rw[chL]
  split<;>split<;>simp<;>omega
theorem chW_len(l:List Pz):(chW l).length<=2 * l.length:=by
 cases l with
 | nil=>simp[chW]
 | cons a r=>exact chL_len _ _
theorem on_flt{u v w:Int}(n:u≠0∨v≠0){l:List Pq}(h:∀p∈l,On u v w p):Flt l:=by
 intro a ha b hb c hc
 by_cases e:a=b
 ·rw[e,tq_aab]
 ·obtain⟨s,s0,hs⟩:=tq_line n (h a ha) (h b hb) e
  rw[hs]
  have:=h c hc
  unfold On at this
  rw[this]
  grind
section
variable {c s o c' s' o' d:Tr}
def cI(c s o c' s' o' d:Tr)(u v:Int):Pq:=(rq (xI s o d (qI c c' s' o' u v)) (dotI (crs s o) d),rq (yI s o d (qI c c' s' o' u v)) (dotI (crs s o) d))
abbrev hI(c s o c' s' o':Tr)(u v:Int):Int:=dotI (qI c c' s' o' u v) (crs s o)
abbrev gg(c s o c' s' o' d:Tr):Par:=gI c s o c' s' o' d
theorem cs_I(h:Szs c s o c' s' o' d):(gg c s o c' s' o' d).cs=[cI c s o c' s' o' d 0 0,cI c s o c' s' o' d 1 0,cI c s o c' s' o' d 1 1,cI c s o c' s' o' d 0 1]:=by
 have hW:dotI (crs s o) d≠0:=by have:=h.W;omega
 have e:=fun u v=>pp_I (c:=c) (c':=c') (s':=s') (o':=o') hW u v
 unfold Par.cs cI
 rw[← e,← e,← e,← e]
 simp only[Rat.intCast_zero,Rat.intCast_one]
theorem zs_I(h:Szs c s o c' s' o' d):(gg c s o c' s' o' d).zs=[(cI c s o c' s' o' d 0 0,(hI c s o c' s' o' 0 0:Rat)),(cI c s o c' s' o' d 1 0,(hI c s o c' s' o' 1 0:Rat)),(cI c s o c' s' o' d 1 1,(hI c s o c' s' o' 1 1:Rat)),(cI c s o c' s' o' d 0 1,(hI c s o c' s' o' 0 1:Rat))]:=by
 have hW:dotI (crs s o) d≠0:=by have:=h.W;omega
 have e:=fun u v=>pp_I (c:=c) (c':=c') (s':=s') (o':=o') hW u v
 have e2:=fun u v=>hh_I (c:=c) (s:=s) (o:=o) (c':=c') (s':=s') (o':=o') (d:=d) u v
 unfold Par.zs cI
 rw[← e,← e,← e,← e,← e2,← e2,← e2,← e2]
 simp only[Rat.intCast_zero,Rat.intCast_one]
abbrev B01(u:Int):Prop:=u=0∨u=1
theorem mem_zs(h:Szs c s o c' s' o' d){z:Pz}(m:z∈(gg c s o c' s' o' d).zs):∃u v:Int,B01 u/\B01 v/\z=(cI c s o c' s' o' d u v,(hI c s o c' s' o' u v:Rat)):=by
 rw[zs_I h]at m
 simp only[List.mem_cons,List.not_mem_nil,or_false]at m
 rcases m with rfl|rfl|rfl|rfl
 ·exact⟨0,0,.inl rfl,.inl rfl,rfl⟩
 ·exact⟨1,0,.inr rfl,.inl rfl,rfl⟩
 ·exact⟨1,1,.inr rfl,.inr rfl,rfl⟩
 ·exact⟨0,1,.inl rfl,.inr rfl,rfl⟩
theorem mem_cs(h:Szs c s o c' s' o' d){z:Pq}(m:z∈(gg c s o c' s' o' d).cs):∃u v:Int,B01 u/\B01 v/\z=cI c s o c' s' o' d u v:=by
 rw[cs_I h]at m
 simp only[List.mem_cons,List.not_mem_nil,or_false]at m
 rcases m with rfl|rfl|rfl|rfl
 ·exact⟨0,0,.inl rfl,.inl rfl,rfl⟩
 ·exact⟨1,0,.inr rfl,.inl rfl,rfl⟩
 ·exact⟨1,1,.inr rfl,.inr rfl,rfl⟩
 ·exact⟨0,1,.inl rfl,.inr rfl,rfl⟩
theorem sz_cI(h:Szs c s o c' s' o' d){u v:Int}(hu:B01 u)(hv:B01 v):Sz 8 (cI c s o c' s' o' d u v):=by
 obtain⟨l1,l2,_⟩:=lim_x h hu hv
 exact⟨_,_,_,h.W,l1.lim,l2.lim,(lim_W h).lim,rfl,rfl⟩
theorem lnd_cI(h:Szs c s o c' s' o' d){u v u' v':Int}(hu:B01 u)(hv:B01 v)(hu':B01 u')(hv':B01 v')(ne:cI c s o c' s' o' d u v≠cI c s o c' s' o' d u' v'):∃a b e,Ln 8 a b e/\On a b e (cI c s o c' s' o' d u v)/\On a b e (cI c s o c' s' o' d u' v'):=by
 have hW:dotI (crs s o) d≠0:=by have:=h.W;omega
 obtain⟨l1,l2,_⟩:=lim_x h hu hv
 obtain⟨k1,k2,_⟩:=lim_x h hu' hv'
 obtain⟨o1,o2⟩:=edge_on (s:=s) (o:=o) (d:=d) hW (qI c c' s' o' u v) (qI c c' s' o' u' v')
 refine⟨_,_,_,⟨?_,(l2.sub k2).lim,(k1.sub l1).lim,?_⟩,o1,o2⟩
 rotate_left
 ·have e:dotI (crs (qI c c' s' o' u v) (qI c c' s' o' u' v')) d=dotI (crs (qI c c' s' o' u v) ((u' - u) * s'.1 + (v' - v) * o'.1,(u' - u) * s'.2.1 + (v' - v) * o'.2.1,(u' - u) * s'.2.2 + (v' - v) * o'.2.2)) d:=by
   simp only[dotI,crs,qI,tless,wpt]
   grind
  have z:∀{a b:Int},Bd 120 a->Bd 120 b->Bd 240 ((u' - u) * a + (v' - v) * b):=fun {a b} h1 h2=>by
   unfold Bd at *
   rcases hu with rfl|rfl<;>rcases hv with rfl|rfl<;>rcases hu' with rfl|rfl<;>rcases hv' with rfl|rfl<;>omega
  rw[e]
  exact(bd_dot (bd_crs (lim_q h hu hv) ⟨z h.ls'.1 h.lo'.1,z h.ls'.2.1 h.lo'.2.1,z h.ls'.2.2 h.lo'.2.2⟩) h.ld).lim
 refine Classical.byContradiction fun z=>ne ?_
 have z1:yI s o d (qI c c' s' o' u v) - yI s o d (qI c c' s' o' u' v')=0:=Classical.byContradiction fun y=>z (.inl y)
 have z2:xI s o d (qI c c' s' o' u' v') - xI s o d (qI c c' s' o' u v)=0:=Classical.byContradiction fun y=>z (.inr y)
 unfold cI
 rw[show xI s o d (qI c c' s' o' u v)=xI s o d (qI c c' s' o' u' v') by omega,show yI s o d (qI c c' s' o' u v)=yI s o d (qI c c' s' o' u' v') by omega]
theorem ed_ne_cs{g:Par}(hD:g.D≠0){e:Pq×Pq}(he:e∈edW g.cs):e.1≠e.2:=by
 by_cases h:0 < g.D
 ·exact(g.rnd_pos h).sc.ed_ne (g.rnd_pos h).len he
 ·have h:g.D < 0:=by grind
  have:(e.2,e.1)∈edW g.cs.reverse:=by
   rw[g.ed_cs]at he
   rw[g.ed_rv]
   simp only[List.mem_cons,List.not_mem_nil,or_false]at he ⊢
   rcases he with rfl|rfl|rfl|rfl<;>simp
  exact fun z=>(g.rnd_neg h).sc.ed_ne (g.rnd_neg h).len this z.symm
theorem lin_cs(h:Szs c s o c' s' o' d)(hD:(gg c s o c' s' o' d).D≠0):Lined 8 (gg c s o c' s' o' d).cs:=by
 refine⟨fun p hp=>?_,fun e he=>?_⟩
 ·obtain⟨u,v,hu,hv,rfl⟩:=mem_cs h hp
  exact(sz_cI h hu hv).mono (by decide)
 ·have ne:=ed_ne_cs hD he
  obtain⟨m1,m2⟩:=edW_ends he
  obtain⟨u,v,hu,hv,e1⟩:=mem_cs h m1
  obtain⟨u',v',hu',hv',e2⟩:=mem_cs h m2
  rw[e1,e2]at ne ⊢
  exact lnd_cI h hu hv hu' hv' ne
theorem cast_W(h:Szs c s o c' s' o' d):dt (cx (rT s) (rT o)) (rT d)≠0:=by
 rw[cx_rT,dt_rT]
 exact qi_ne (by have:=h.W;omega)
theorem D_I(h:Szs c s o c' s' o' d):(gg c s o c' s' o' d).D≠0 ↔ dotI (crs s' o') d≠0:=by
 rw[show (gg c s o c' s' o' d).D=_ from geo_D (cast_W h)]
 have hW:=cast_W h
 rw[cx_rT,dt_rT]at hW ⊢
 rw[cx_rT,dt_rT]
 generalize ((dotI (crs s o) d:Int):Rat)=W at *
 constructor
 ·intro z y
  rw[y]at z
  exact z (by rw[Rat.intCast_zero];grind)
 ·intro z y
  have:=qi_ne z
  generalize ((dotI (crs s' o') d:Int):Rat)=B at *
  grind
theorem f_I(h:Szs c s o c' s' o' d)(hD:(gg c s o c' s' o' d).D≠0):∃(a b e:Int) (t:Rat),Lim 8 a/\Lim 8 b/\Lim 8 e/\t≠0/\∀q:Pq,(gg c s o c' s' o' d).f q=t * ((a:Rat) * q.1 + (b:Rat) * q.2 + (e:Rat)):=by
 have hB:=(D_I h).mp hD
 have hW:=cast_W h
 have ln:=bd_crs h.ls' h.lo'
 have lq:BdT 660 (tless c' c 1):=by
  have z:∀{a k:Int},Bd 600 a->Bd 60 k->Bd 660 (a - k * 1):=fun h1 h4=>by
   unfold Bd at *
   omega
  exact⟨z h.lc'.1 h.lc.1,z h.lc'.2.1 h.lc.2.1,z h.lc'.2.2 h.lc.2.2⟩
 refine⟨dotI (crs s' o') s,dotI (crs s' o') o,- dotI (crs s' o') (tless c' c 1),- (((dotI (crs s o) d:Int):Rat) / ((dotI (crs s' o') d:Int):Rat)),(bd_dot ln h.ls).lim,(bd_dot ln h.lo).lim,?_,?_,fun q=>?_⟩
 ·have this:Lim 8 (dotI (crs s' o') (tless c' c 1)):=(bd_dot ln lq).lim
  unfold Lim at this ⊢
  rw[Int.natAbs_neg]
  exact this
 ·have q1:=qi_ne hB
  rw[cx_rT,dt_rT]at hW
  generalize ((dotI (crs s o) d:Int):Rat)=W at *
  generalize ((dotI (crs s' o') d:Int):Rat)=B at *
  intro z
  grind
 ·have hB':dt (cx (rT s') (rT o')) (rT d)≠0:=by rw[cx_rT,dt_rT];exact qi_ne hB
  rw[show (gg c s o c' s' o' d).f q=_ from geo_f hW hB' q]
  have e:dt (cx (rT s') (rT o')) (rr (rT s) (rT o) (rT (tless c' c 1)) q.1 q.2)=q.1 * dt (cx (rT s') (rT o')) (rT s) + q.2 * dt (cx (rT s') (rT o')) (rT o) - dt (cx (rT s') (rT o')) (rT (tless c' c 1)):=by
   generalize cx (rT s') (rT o')=n
   simp only[dt,rr]
   grind
  rw[e]
  simp only[cx_rT,dt_rT,Rat.intCast_neg]
  generalize ((dotI (crs s o) d:Int):Rat)=W
  generalize ((dotI (crs s' o') d:Int):Rat)=B
  generalize ((dotI (crs s' o') s:Int):Rat)=x
  generalize ((dotI (crs s' o') o:Int):Rat)=y
  generalize ((dotI (crs s' o') (tless c' c 1):Int):Rat)=z
  simp only[Rat.div_def]
  grind
theorem lin_cut(h:Szs c s o c' s' o' d)(hD:(gg c s o c' s' o' d).D≠0)(hp:∃p∈(gg c s o c' s' o' d).cs,0 < (gg c s o c' s' o' d).f p):Lined 8 (cuW (gg c s o c' s' o' d).f (gg c s o c' s' o' d).cs):=by
 obtain⟨a,b,e,t,la,lb,le,t0,hf⟩:=f_I h hD
 by_cases n:a≠0∨b≠0
 ·exact(lin_cs h hD).cutL ⟨n,la,lb,le⟩ t0 hf
 ·have a0:a=0:=Classical.byContradiction fun z=>n (.inl z)
  have b0:b=0:=Classical.byContradiction fun z=>n (.inr z)
  obtain⟨p,_,fp⟩:=hp
  have all:∀q∈(gg c s o c' s' o' d).cs,0<=(gg c s o c' s' o' d).f q:=fun q _=>by
   rw[hf]at fp ⊢
   rw[a0,b0,Rat.intCast_zero]at fp ⊢
   grind
  rw[cuW_nn _ all]
  exact lin_cs h hD
end
section
variable {c s o c' s' o' d:Tr}
theorem two_cI(h:Szs c s o c' s' o' d):cI c s o c' s' o' d 1 0≠cI c s o c' s' o' d 0 0∨cI c s o c' s' o' d 0 1≠cI c s o c' s' o' d 0 0:=by
 have W:=h.W
 have rqi:∀{x y:Int},rq x (dotI (crs s o) d)=rq y (dotI (crs s o) d)->x=y:=fun {x y} e=>by
  have q:=qi_ne (show dotI (crs s o) d≠0 by omega)
  unfold rq at e
  refine Rat.intCast_inj.mp ?_
  generalize ((dotI (crs s o) d:Int):Rat)=W at *
  grind
 refine Classical.byContradiction fun z=>h.n ?_
 have z1:cI c s o c' s' o' d 1 0=cI c s o c' s' o' d 0 0:=Classical.byContradiction fun y=>z (.inl y)
 have z2:cI c s o c' s' o' d 0 1=cI c s o c' s' o' d 0 0:=Classical.byContradiction fun y=>z (.inr y)
 have x1:=rqi (congrArg Prod.fst z1)
 have y1:=rqi (congrArg Prod.snd z1)
 have x2:=rqi (congrArg Prod.fst z2)
 have y2:=rqi (congrArg Prod.snd z2)
 have x1:dotI s' (crs o d)=0:=by simp only[xI,qI,wpt,tless,dotI]at x1 ⊢;grind
 have y1:dotI s' (crs d s)=0:=by simp only[yI,qI,wpt,tless,dotI]at y1 ⊢;grind
 have x2:dotI o' (crs o d)=0:=by simp only[xI,qI,wpt,tless,dotI]at x2 ⊢;grind
 have y2:dotI o' (crs d s)=0:=by simp only[yI,qI,wpt,tless,dotI]at y2 ⊢;grind
 have cr:∀t:Tr,dotI t (crs o d)=0->dotI t (crs d s)=0->dotI (crs s o) d * t.1=dotI t (crs s o) * d.1/\dotI (crs s o) d * t.2.1=dotI t (crs s o) * d.2.1/\dotI (crs s o) d * t.2.2=dotI t (crs s o) * d.2.2:=fun t h1 h2=>by
  have i1:dotI (crs s o) d * t.1=dotI t (crs o d) * s.1 + dotI t (crs d s) * o.1 + dotI t (crs s o) * d.1:=by simp only[dotI,crs];grind
  have i2:dotI (crs s o) d * t.2.1=dotI t (crs o d) * s.2.1 + dotI t (crs d s) * o.2.1 + dotI t (crs s o) * d.2.1:=by simp only[dotI,crs];grind
  have i3:dotI (crs s o) d * t.2.2=dotI t (crs o d) * s.2.2 + dotI t (crs d s) * o.2.2 + dotI t (crs s o) * d.2.2:=by simp only[dotI,crs];grind
  rw[h1,h2]at i1 i2 i3
  exact⟨by omega,by omega,by omega⟩
 obtain⟨a1,a2,a3⟩:=cr s' x1 y1
 obtain⟨b1,b2,b3⟩:=cr o' x2 y2
 generalize dotI (crs s o) d=V at *
 generalize dotI s' (crs s o)=k at *
 generalize dotI o' (crs s o)=m at *
 have two:∀{x y x' y' e f:Int},V * x=k * e->V * y=k * f->V * x'=m * e->V * y'=m * f->x * y' - y * x'=0:=fun {x y x' y' e f} g1 g2 g3 g4=>by
  have:V * V * (x * y' - y * x')=0:=by
   have:V * V * (x * y' - y * x')=(V * x) * (V * y') - (V * y) * (V * x'):=by grind
   rw[this,g1,g2,g3,g4]
   grind
  rcases Int.mul_eq_zero.mp this with z|z
  ·rcases Int.mul_eq_zero.mp z with z|z<;>omega
  ·exact z
 exact Prod.ext (two a2 a3 b2 b3) (Prod.ext (two a3 a1 b3 b1) (two a1 a2 b1 b2))
theorem flat_line(h:Szs c s o c' s' o' d)(hD:(gg c s o c' s' o' d).D=0):∃a b e,Ln 8 a b e/\∀u v,B01 u->B01 v->On a b e (cI c s o c' s' o' d u v):=by
 have hW:dotI (crs s o) d≠0:=by have:=h.W;omega
 have key:∀u v u' v',B01 u->B01 v->B01 u'->B01 v'->cI c s o c' s' o' d u v≠cI c s o c' s' o' d u' v'->∃a b e,Ln 8 a b e/\∀u v,B01 u->B01 v->On a b e (cI c s o c' s' o' d u v):=fun u v u' v' hu hv hu' hv' ne=>by
  obtain⟨a,b,e,L,o1,o2⟩:=lnd_cI h hu hv hu' hv' ne
  obtain⟨t,t0,ht⟩:=tq_line L.ne o1 o2 ne
  refine⟨a,b,e,L,fun x y hx hy=>?_⟩
  have z:tq (cI c s o c' s' o' d u v) (cI c s o c' s' o' d u' v') (cI c s o c' s' o' d x y)=0:=by
   have e:=fun u v=>pp_I (c:=c) (c':=c') (s':=s') (o':=o') hW u v
   unfold cI
   rw[← e,← e,← e,Par.tq_pp,show (gI c s o c' s' o' d).D=0 from hD]
   grind
  rw[ht]at z
  unfold On
  generalize (a:Rat) * (cI c s o c' s' o' d x y).1 + (b:Rat) * (cI c s o c' s' o' d x y).2 + (e:Rat)=k at *
  grind
 rcases two_cI h with z|z
 ·exact key 1 0 0 0 (.inr rfl) (.inl rfl) (.inl rfl) (.inl rfl) z
 ·exact key 0 1 0 0 (.inl rfl) (.inr rfl) (.inl rfl) (.inl rfl) z
theorem cr_alg{x y W a b:Rat}(hW:W≠0)(hab:a - b≠0):x / W + a / (a - b) * (y / W - x / W)=(x * (a - b) + a * (y - x)) / (W * (a - b)):=by grind
theorem sz_crz(h:Szs c s o c' s' o' d){u v u' v':Int}(hu:B01 u)(hv:B01 v)(hu':B01 u')(hv':B01 v')(hc:(hI c s o c' s' o' u v:Rat) * (hI c s o c' s' o' u' v':Rat) < 0) :
  Sz 17 (crz (cI c s o c' s' o' d u v,(hI c s o c' s' o' u v:Rat)) (cI c s o c' s' o' d u' v',(hI c s o c' s' o' u' v':Rat))):=by
 obtain⟨l1,l2,l3⟩:=lim_x h hu hv
 obtain⟨k1,k2,k3⟩:=lim_x h hu' hv'
 have l3:Bd 19440000 (hI c s o c' s' o' u v):=l3
 have k3:Bd 19440000 (hI c s o c' s' o' u' v'):=k3
 have lW:=lim_W h
 have pW:=h.W
 have ne:(hI c s o c' s' o' u v:Rat) - (hI c s o c' s' o' u' v':Rat)≠0:=by rcases q_sg hc with ⟨y,x⟩|⟨y,x⟩<;>grind
 have nz:hI c s o c' s' o' u v - hI c s o c' s' o' u' v'≠0:=fun z=>ne (by rw[← Rat.intCast_sub,z,Rat.intCast_zero])
 simp only[crz,mid,cI,rq]
 generalize hI c s o c' s' o' u v=a at *
 generalize hI c s o c' s' o' u' v'=b at *
 generalize xI s o d (qI c c' s' o' u v)=x at *
 generalize xI s o d (qI c c' s' o' u' v')=x' at *
 generalize yI s o d (qI c c' s' o' u v)=y at *
 generalize yI s o d (qI c c' s' o' u' v')=y' at *
 generalize dotI (crs s o) d=W at *
 have qW:=qi_ne (show W≠0 by omega)
 have ld:Bd 38880000 (a - b):=l3.sub k3
 have lx:∀{p q:Int},Bd 22680000 p->Bd 22680000 q->Lim 17 (p * (a - b) + a * (q - p)):=fun h1 h2=>((h1.mul ld).add (l3.mul (h2.sub h1))).lim
 have neg:∀{n:Nat}{i:Int},Lim n i->Lim n (-i):=fun {n i} h=>by unfold Lim at h ⊢;rw[Int.natAbs_neg];exact h
 have ex:∀p q:Int,(p:Rat) / (W:Rat) + (a:Rat) / ((a:Rat) - (b:Rat)) * ((q:Rat) / (W:Rat) - (p:Rat) / (W:Rat))=((p * (a - b) + a * (q - p):Int):Rat) / ((W * (a - b):Int):Rat):=fun p q=>by
  rw[cr_alg qW ne]
  simp only[Rat.intCast_mul,Rat.intCast_add,Rat.intCast_sub]
 have lw:Lim 17 (W * (a - b)):=(lW.mul ld).lim
 rcases Int.lt_trichotomy (a - b) 0 with z|z|z
 ·have en:∀p q:Int,((p * (a - b) + a * (q - p):Int):Rat) / ((W * (a - b):Int):Rat)=((-(p * (a - b) + a * (q - p)):Int):Rat) / ((-(W * (a - b)):Int):Rat):=fun p q=>by
   have nn:((W * (a - b):Int):Rat)≠0:=qi_ne (Int.mul_ne_zero (by omega) nz)
   rw[Rat.intCast_neg,Rat.intCast_neg]
   generalize ((W * (a - b):Int):Rat)=m at *
   generalize ((p * (a - b) + a * (q - p):Int):Rat)=n
   grind
  refine⟨-(x * (a - b) + a * (x' - x)),-(y * (a - b) + a * (y' - y)),-(W * (a - b)),by have:=Int.mul_neg_of_pos_of_neg pW z;omega,neg (lx l1 k1),neg (lx l2 k2),neg lw,?_,?_⟩
  ·show (x:Rat) / W + _ * ((x':Rat) / W - (x:Rat) / W)=_
   rw[ex,en]
  ·show (y:Rat) / W + _ * ((y':Rat) / W - (y:Rat) / W)=_
   rw[ex,en]
 ·exact absurd z nz
 ·refine⟨x * (a - b) + a * (x' - x),y * (a - b) + a * (y' - y),W * (a - b),Int.mul_pos pW z,lx l1 k1,lx l2 k2,lw,ex _ _,ex _ _⟩
theorem flat_lin(h:Szs c s o c' s' o' d)(hD:(gg c s o c' s' o' d).D=0):Lined 8 (chW (gg c s o c' s' o' d).zs)/\Flt (chW (gg c s o c' s' o' d).zs):=by
 obtain⟨a,b,e,L,on⟩:=flat_line h hD
 have all:∀p∈chW (gg c s o c' s' o' d).zs,On a b e p/\Sz 17 p:=fun p hp=>by
  rcases chW_mem hp with ⟨z,m,rfl⟩|⟨x,mx,y,my,hc,rfl⟩
  ·obtain⟨u,v,hu,hv,rfl⟩:=mem_zs h m
   exact⟨on u v hu hv,(sz_cI h hu hv).mono (by decide)⟩
  ·obtain⟨u,v,hu,hv,rfl⟩:=mem_zs h mx
   obtain⟨u',v',hu',hv',rfl⟩:=mem_zs h my
   exact⟨(on u v hu hv).mid (on u' v' hu' hv') _,sz_crz h hu hv hu' hv' hc⟩
 refine⟨⟨fun p hp=>(all p hp).2,fun e he=>?_⟩,on_flt L.ne fun p hp=>(all p hp).1⟩
 obtain⟨m1,m2⟩:=edW_ends he
 exact⟨a,b,_,L,(all _ m1).1,(all _ m2).1⟩
theorem thrown_I(h:Szs c s o c' s' o' d)(hp:∃z∈(gg c s o c' s' o' d).zs,0 < z.2) :
  Lined 8 (chW (gg c s o c' s' o' d).zs)/\(chW (gg c s o c' s' o' d).zs).length<=8/\(((gg c s o c' s' o' d).D=0/\Flt (chW (gg c s o c' s' o' d).zs)) ∨
  ((gg c s o c' s' o' d).D≠0/\(∃z,(gg c s o c' s' o' d).f z≠0)/\Rnd (chW (gg c s o c' s' o' d).zs)/\∀q,Inq (chW (gg c s o c' s' o' d).zs) q ↔ (gg c s o c' s' o' d).In q/\0<=(gg c s o c' s' o' d).f q) ∨
  ((gg c s o c' s' o' d).D≠0/\(∃z,(gg c s o c' s' o' d).f z≠0)/\Rnd (chW (gg c s o c' s' o' d).zs).reverse/\∀q,Inq (chW (gg c s o c' s' o' d).zs).reverse q ↔ (gg c s o c' s' o' d).In q/\0<=(gg c s o c' s' o' d).f q)):=by
 have l8:=chW_len (gg c s o c' s' o' d).zs
 have l4:(gg c s o c' s' o' d).zs.length=4:=rfl
 by_cases hD:(gg c s o c' s' o' d).D=0
 ·obtain⟨L,F⟩:=flat_lin h hD
  exact⟨L,by omega,.inl ⟨hD,F⟩⟩
 ·have e:=(gg c s o c' s' o' d).zs_cs hD
  obtain⟨z,mz,zp⟩:=hp
  have hp':∃p∈(gg c s o c' s' o' d).cs,0 < (gg c s o c' s' o' d).f p:=by
   rw[e]at mz
   obtain⟨p,mp,rfl⟩:=List.mem_map.mp mz
   exact⟨p,mp,zp⟩
  have hf:∃z,(gg c s o c' s' o' d).f z≠0:=by
   obtain⟨p,_,fp⟩:=hp'
   exact⟨p,by grind⟩
  have L:=lin_cut h hD hp'
  rw[e,chW_cuW]at l8 ⊢
  rw[List.length_map]at l8
  have l4':(gg c s o c' s' o' d).cs.length=4:=rfl
  refine⟨L,by omega,.inr ?_⟩
  rcases (gg c s o c' s' o' d).thrown hD hp' with ⟨_,R,k⟩|⟨_,R,k⟩
  ·exact .inl ⟨hD,hf,R,k⟩
  ·exact .inr ⟨hD,hf,R,k⟩
theorem below_I(hp:∀z∈(gg c s o c' s' o' d).zs,z.2<=0):Shd (gg c s o c' s' o' d) []:=by
 refine .inl ⟨rfl,fun q _ ⟨hD,hi,hf⟩=>?_⟩
 rw[(gg c s o c' s' o' d).zs_cs hD]at hp
 have nn:∀p∈(gg c s o c' s' o' d).cs,0 <= - (gg c s o c' s' o' d).f p:=fun p mp=>by
  have:=hp _ (List.mem_map.mpr ⟨p,mp,rfl⟩)
  show 0 <= - (gg c s o c' s' o' d).f p
  have this:(gg c s o c' s' o' d).f p<=0:=this
  grind
 by_cases h:0 < (gg c s o c' s' o' d).D
 ·have R:=(gg c s o c' s' o' d).rnd_pos h
  have:=hull_nn R.sc R.len (gg c s o c' s' o' d).af_f.neg nn (((gg c s o c' s' o' d).in_pos h q).mpr hi)
  grind
 ·have h:(gg c s o c' s' o' d).D < 0:=by grind
  have R:=(gg c s o c' s' o' d).rnd_neg h
  have:=hull_nn R.sc R.len (gg c s o c' s' o' d).af_f.neg (fun p mp=>nn p (List.mem_reverse.mp mp)) (((gg c s o c' s' o' d).in_neg h q).mpr hi)
  grind
theorem Shd.of{g:Par}{A F:List Pq}(hD:g.D≠0)(hf:∃z,g.f z≠0)(k:∀q,Inq A q ↔ g.In q/\0<=g.f q)(h:Bth A SQ F):Shd g F:=by
 rcases h with ⟨rfl,h⟩|⟨R,lo,h⟩
 ·exact .inl ⟨rfl,fun q hs z=>h q ((k q).mpr ⟨z.2.1,Rat.le_of_lt z.2.2⟩) hs⟩
 ·exact .inr ⟨R,lo,hD,hf,fun q=>by rw[h,k]⟩
end
abbrev c_WHOLE:T:=.tup [.tup [.tup [.int 0,.int 1],.tup [.int 0,.int 1]],.tup [.tup [.int 1,.int 1],.tup [.int 0,.int 1]],.tup [.tup [.int 1,.int 1],.tup [.int 1,.int 1]],.tup [.tup [.int 0,.int 1],.tup [.int 1,.int 1]]]
abbrev Whp:List P2:=[(0,0),(1,0),(1,1),(0,1)]
def iq(p:P2):Pq:=((p.1:Rat),(p.2:Rat))
theorem fq1:T.tup [.int 1,.int 1]=fq 1:=fq_int 1
theorem sq_iq:SQ=Whp.map iq:=by
 simp only[SQ,List.map_cons,List.map_nil,iq,Rat.intCast_zero,Rat.intCast_one]
theorem whole_eq:c_WHOLE=.tup (SQ.map pq):=by
 unfold c_WHOLE
 rw[fq0,fq1]
 rfl
theorem whole_sq:c_WHOLE=.tup (Whp.map fun p=>pq (iq p)):=by
 rw[whole_eq,sq_iq,List.map_map]
 rfl
theorem comp_map{α:Type}{f g:α->T}{W:WE}{E:List Slot}:∀(l:List α)(acc:List T)(x:Slot)(Q:List T->Prop),(∀a∈l,∀Q:T->Prop,Q (g a)->W (.val (f a)::E) Q)->Q (acc++l.map g)->compT (gN 0) tTrue W (l.map f) acc (x::E) Q
 | [],acc,x,Q,_,h=>by
  simp only[List.map_nil,List.append_nil]at h
  simp only[List.map,compT]
  exact h
 | a::l,acc,x,Q,hW,h=>by
  have i1:=comp_map (f:=f) (g:=g) (W:=W) (E:=E) l (acc++[g a]) (.val (f a)) Q (fun b hb=>hW b (mcm _ hb)) (by simpa using h)
  simp only[List.map,compT]
  refine⟨fun _=>?_,fun z=>(by cases z)⟩
  exact hW a mcs _ i1
theorem fq_one(n:Int):fr n 1=fq (n:Rat):=fq_of (by decide) (by rw[Rat.intCast_one];grind)
theorem wh01{p:P2}(h:p∈Whp):B01 p.1/\B01 p.2:=by
 simp only[List.mem_cons,List.not_mem_nil,or_false]at h
 rcases h with rfl|rfl|rfl|rfl
 ·exact⟨.inl rfl,.inl rfl⟩
 ·exact⟨.inr rfl,.inl rfl⟩
 ·exact⟨.inr rfl,.inr rfl⟩
 ·exact⟨.inl rfl,.inr rfl⟩
theorem point_cal{c s o:Tr}{p:P2}{Q:T->Prop}(lc:BdT 600 c)(ls:BdT 120 s)(lo:BdT 120 o)(hp:p∈Whp)(q:Q (pt (wpt c s o p.1 p.2) 1)):Z1a [ptl c s o,pq (iq p)] Q:=by
 obtain⟨h1,h2⟩:=wh01 hp
 have l1:Lim 1 (1:Int):=Lim.of (by decide) (by decide)
 have bl:∀{B:Nat}{t:Tr},BdT B t->(hB:B < 10 ^ 100:=by decide)->Lim3 100 t.1 t.2.1 t.2.2:=fun h hB=>⟨h.1.lim hB,h.2.1.lim hB,h.2.2.lim hB⟩
 have z:∀{u:Int},B01 u->Lim 100 u:=fun {u} h=>(Lim.of (n:=1) (by omega) (by omega)).mono (by decide)
 refine⟨_,_,_,_,_,_,_,_,_,p.1,1,p.2,1,?_,⟨by decide,by decide,z h1,l1.mono (by decide),z h2,l1.mono (by decide)⟩,⟨bl lc,bl ls,bl lo⟩,?_⟩
 ·show [ptl c s o,T.tup [fq (p.1:Rat),fq (p.2:Rat)]]=[ptl c s o,T.tup [fr p.1 1,fr p.2 1]]
  rw[fq_one,fq_one]
 ·have e:∀a d e:Int,spot a d e p.1 1 p.2 1=a + (p.1 * d + p.2 * e):=fun a d e=>by simp only[spot,Int.mul_one]
  rw[e,e,e,Int.mul_one]
  exact q
def Z0a:SpT:=fun ts Q=>∃(c s o c' s' o' d:Tr),ts=[ptl c s o,ptl c' s' o',trT d]/\Szs c s o c' s' o' d/\∀F,Shd (gg c s o c' s' o' d) F->Lined 8 F->F.length<=9->Q (pqL F)
theorem Z4F:∀ts Q,Z0a ts Q->ts.length=3:=by rintro ts Q ⟨_,_,_,_,_,_,_,e,_⟩;subst e;rfl
def Z1K:WE :=
 (wCall Z0G (aCons (wCall Z0M (aCons (wVar 0) (aCons (w2 rIxTT (wVar 1) (wC (.int 0))) aNil))) (aCons (wCall Z0E (aCons (wVar 1) aNil)) aNil)))
def Z3o:WS :=
 (sRet (wCall Z0c (aCons (wVar 5) (aCons (wCB rListT (aCons (wC c_WHOLE) aNil)) aNil))))
def Z3b:WS :=
 (sSeq (sSet 3 (wComp (iSeq (wC c_WHOLE)) (gN 0) tTrue (wCall Z1a (aCons (wVar 1) (aCons (wVar 0) aNil))) 1 [1]))
  (sSeq (sSet 4 (wComp (iSeq (wVar 3)) (gN 0) tTrue Z1K 1 [0]))
  (sSeq (sIf (tVal (wCB rAllT (aCons (wComp (iSeq (wVar 4)) (gN 0) tTrue (wCmp cLeT (w2 rIxTT (wVar 0) (wC (.int 0))) (wC (.int 0))) 1 []) aNil))) (sRet (wLst aNil)) sNext)
  (sSeq (sSet 5 (wCall Z07 (aCons (wComp (iSeq (wVar 3)) (gN 0) tTrue (wCall Z12 (aCons (wVar 1) (aCons (wVar 0) (aCons (wVar 2) aNil)))) 1 [0,2]) (aCons (wVar 4) aNil))))
  (sSeq (sIf (tCmpT cLtT (w2 rIxTT (wCall Z08 (aCons (wVar 5) aNil)) (wC (.int 0))) (wC (.int 0))) (sSet 5 (wLRev (wVar 5))) sNext)
  Z3o)))))
theorem hgt_c0{c s o t:Tr}{Q:T->Prop}(lc:LimT 3 c)(ls:LimT 3 s)(lo:LimT 3 o)(lt:LimT 60 t)(q:Q (fr (dotI (tless t c 1) (crs s o)) 1)):Z1K [.val (pt t 1),.val (ptl c s o)] Q:=by
 have l1:Lim 1 (1:Int):=Lim.of (by decide) (by decide)
 unfold Z1K
 walk_at "go"
 refine⟨t,c,1,rfl,lt.mono (by decide),lc.mono (by decide),by decide,l1.mono (by decide),?_⟩
 walk_at "go"
 refine⟨_,s,o,rfl,ls.mono (by decide),lo.mono (by decide),?_⟩
 walk_at "go"
 exact⟨_,_,1,rfl,(lim_tless lt (lc.mono (by decide)) l1 (n:=62) (by decide)).mono (by decide),(lim_crs ls lo (k:=7) (by decide)).mono (by decide),by decide,l1.mono (by decide),q⟩
theorem lim_wpt{c s o:Tr}{p:P2}(lc:LimT 3 c)(ls:LimT 3 s)(lo:LimT 3 o)(hp:p∈Whp):LimT 60 (wpt c s o p.1 p.2):=by
 obtain⟨h1,h2⟩:=wh01 hp
 have l:∀{u:Int},B01 u->Lim 1 u:=fun {u} h=>Lim.of (by omega) (by omega)
 have z:∀{a b d:Int},Lim 3 a->Lim 3 b->Lim 3 d->Lim 60 (a + (p.1 * b + p.2 * d)):=fun k1 k2 k3=>(k1.add (((l h1).mul k2).add ((l h2).mul k3))).mono (by decide)
 exact⟨z lc.1 ls.1 lo.1,z lc.2.1 ls.2.1 lo.2.1,z lc.2.2 ls.2.2 lo.2.2⟩
theorem bools_map{α:Type}(b:α->Bool):∀l:List α,boolsOf (l.map fun p=>T.bl (b p))=some (l.map b)
 | []=>rfl
 | a::l=>by simp only[List.map_cons,boolsOf,bools_map b l];rfl
theorem wh_mem{u v:Int}(hu:B01 u)(hv:B01 v):(u,v)∈Whp:=by
 rcases hu with rfl|rfl<;>rcases hv with rfl|rfl<;>simp
theorem le_c0{x:Rat}{R:T->Prop}(h:R (.bl (decide (x.num<=0)))):wCmp cLeT (w2 rIxTT (wVar 0) (wC (.int 0))) (wC (.int 0)) [.val (fq x)] R:=h
theorem thrown_len{c s o c' s' o' d:Tr}(hD:(gg c s o c' s' o' d).D≠0):(chW (gg c s o c' s' o' d).zs).length<=5:=by
 rw[(gg c s o c' s' o' d).zs_cs hD,chW_cuW]
 generalize gg c s o c' s' o' d=g at *
 have l4:g.cs.length=4:=rfl
 by_cases hn:∃z,g.f z≠0
 ·by_cases h:0 < g.D
  ·have R:=g.rnd_pos h
   have:=(Sln.cut (.inl ⟨R.sc,R.len⟩) g.af_f hn).2
   omega
  ·have h:g.D < 0:=by grind
   have R:=g.rnd_neg h
   have:=(Sln.cut (.inl ⟨R.sc,R.len⟩) g.af_f hn).2
   have r:=(cuW_rev g.f g.cs).len
   rw[List.length_reverse]at r this
   omega
 ·have:∀p∈g.cs,0<=g.f p:=fun p _=>by
   have:g.f p=0:=Classical.byContradiction fun z=>hn ⟨p,z⟩
   rw[this]
   exact Rat.le_refl
  rw[cuW_nn g.f this]
  omega
theorem half_neg{a:Rat}:(a * (1 / 2)).num < 0 ↔ a < 0:=by
 rw[num_lt]
 constructor<;>intro h<;>grind
theorem Z58:∀ts Q,Z0a ts Q->Z3b {nx:=fun _=>Q .non,rt:=Q} (startT 6 ts):=by
 rintro _ Q ⟨c,s,o,c',s',o',d,rfl,h,q⟩
 have b3:∀{B:Nat}{t:Tr},BdT B t->(hB:B < 10 ^ 3:=by decide)->LimT 3 t:=fun h hB=>⟨h.1.lim hB,h.2.1.lim hB,h.2.2.lim hB⟩
 have lw:∀p∈Whp,LimT 60 (wpt c' s' o' p.1 p.2):=fun p hp=>lim_wpt (b3 h.lc') (b3 h.ls') (b3 h.lo') hp
 have hw:∀p∈Whp,B01 p.1/\B01 p.2:=fun p hp=>wh01 hp
 obtain⟨SP,hSP⟩:∃S,S=Z1a:=⟨_,rfl⟩
 obtain⟨SC,hSC⟩:∃S,S=Z07:=⟨_,rfl⟩
 obtain⟨SM,hSM⟩:∃S,S=Z12:=⟨_,rfl⟩
 obtain⟨SH,hSH⟩:∃S,S=Z08:=⟨_,rfl⟩
 obtain⟨SB,hSB⟩:∃S,S=Z0c:=⟨_,rfl⟩
 unfold Z3b Z3o
 rw[whole_sq]
 obtain⟨W0,hW0⟩:∃W,W=Z1K:=⟨_,rfl⟩
 obtain⟨L,hL⟩:∃L,L=Whp:=⟨_,rfl⟩
 rw[← hL]at lw hw
 rw[← hW0,← hL,← hSP,← hSC,← hSM,← hSH,← hSB]
 have hl:(L.map fun p=>pq (iq p)).length<=1000:=by subst hL;decide
 walk_at "tw"
 refine⟨hl,?_⟩
 refine comp_map (g:=fun p=>pt (wpt c' s' o' p.1 p.2) 1) L [] _ _ (fun p hp R hR=>?_) ?_
 ·rw[hSP]
  rw[hL]at hp
  exact point_cal h.lc' h.ls' h.lo' hp hR
 rw[List.nil_append]
 rw[List.length_map]at hl
 refine⟨by rw[List.length_map];exact hl,?_⟩
 rw[hW0]
 obtain⟨hR,ehR⟩:∃hR:P2->Rat,∀p,hR p=(hI c s o c' s' o' p.1 p.2:Rat):=⟨_,fun _=>rfl⟩
 obtain⟨cR,ecR⟩:∃cR:P2->Pq,∀p,cR p=cI c s o c' s' o' d p.1 p.2:=⟨_,fun _=>rfl⟩
 refine comp_map (g:=fun p=>fq (hR p)) L [] _ _ (fun p hp R hQ=>hgt_c0 (b3 h.lc) (b3 h.ls) (b3 h.lo) (lw p hp) (by
  have e:fq ((dotI (tless (wpt c' s' o' p.1 p.2) c 1) (crs s o):Int):Rat)=fq (hR p):=by rw[ehR]
  rw[fq_one,e]
  exact hQ)) ?_
 rw[List.nil_append]
 refine⟨by rw[List.length_map];exact hl,?_⟩
 refine comp_map (g:=fun p=>T.bl (decide ((hR p).num<=0))) L [] _ _ (fun p hp R hQ=>le_c0 hQ) ?_
 rw[List.nil_append,bools_map]
 refine⟨fun z=>?_,fun z=>⟨by rw[List.length_map];exact hl,?_⟩⟩
 ·have hall:=List.all_eq_true.mp z
  refine q [] (below_I fun z mz=>?_) ⟨by simp,by simp[edW]⟩ (by simp)
  obtain⟨u,v,hu,hv,rfl⟩:=mem_zs h mz
  have:=hall _ (List.mem_map.mpr ⟨(u,v),by rw[hL];exact wh_mem hu hv,rfl⟩)
  have this:(hR (u,v)).num<=0:=of_decide_eq_true this
  rw[ehR]at this
  have this:(hI c s o c' s' o' u v:Rat).num<=0:=this
  show (hI c s o c' s' o' u v:Rat)<=0
  exact Rat.not_lt.mp fun y=>by have:=num_gt.mpr y;omega
 ·have hex:∃z∈(gg c s o c' s' o' d).zs,0 < z.2:=by
   refine Classical.byContradiction fun y=>?_
   have:(L.map fun p=>decide ((hR p).num<=0)).all id=true:=by
    refine List.all_eq_true.mpr fun b hb=>?_
    obtain⟨p,hp,rfl⟩:=List.mem_map.mp hb
    refine decide_eq_true (Int.not_lt.mp fun pos=>?_)
    rw[ehR]at pos
    refine y ⟨(cI c s o c' s' o' d p.1 p.2,(hI c s o c' s' o' p.1 p.2:Rat)),?_,num_gt.mp pos⟩
    rw[zs_I h]
    rw[hL]at hp
    simp only[List.mem_cons,List.not_mem_nil,or_false]at hp ⊢
    rcases hp with rfl|rfl|rfl|rfl<;>simp
   rw[this]at z
   cases z
  obtain⟨LT,l8,cases3⟩:=thrown_I h hex
  have l5:=fun z=>thrown_len (c:=c) (s:=s) (o:=o) (c':=c') (s':=s') (o':=o') (d:=d) z
  refine comp_map (g:=fun p=>pq (cR p)) L [] _ _ (fun p hp R hQ=>?_) ?_
  ·have hW:dotI (crs s o) d≠0:=by have:=h.W;omega
   show SM [ptl c s o,pt (wpt c' s' o' p.1 p.2) 1,trT d] R
   rw[hSM]
   refine⟨c,s,o,wpt c' s' o' p.1 p.2,d,1,rfl,⟨(b3 h.lc).mono (by decide),(b3 h.ls).mono (by decide),(b3 h.lo).mono (by decide),(b3 h.ld).mono (by decide)⟩,(lw p hp).mono (by decide),by decide,Lim.of (by decide) (by decide),fun z=>absurd z hW,fun _=>?_⟩
   have e1:∀x:Int,fr x (1 * dotI (crs s o) d)=fq (rq x (dotI (crs s o) d)):=fun x=>by
    rw[Int.one_mul]
    exact fq_of hW rfl
   have e2:hpl (meet c s o (wpt c' s' o' p.1 p.2) d 1)=pq (cR p):=by
    rw[ecR]
    show T.tup [fr (xI s o d (qI c c' s' o' p.1 p.2)) (1 * dotI (crs s o) d),fr (yI s o d (qI c c' s' o' p.1 p.2)) (1 * dotI (crs s o) d)]=_
    rw[e1,e1]
    rfl
   rw[e2]
   exact hQ
  rw[List.nil_append]
  have ezs:(gg c s o c' s' o' d).zs=L.map fun p=>(cR p,hR p):=by
   rw[zs_I h,hL]
   simp only[List.map_cons,List.map_nil,ecR,ehR]
  have ez1:(L.map fun p=>pq (cR p))=((gg c s o c' s' o' d).zs.map (·.1)).map pq:=by
   rw[ezs,List.map_map,List.map_map]
   rfl
  have ez2:(L.map fun p=>fq (hR p))=((gg c s o c' s' o' d).zs.map (·.2)).map fq:=by
   rw[ezs,List.map_map,List.map_map]
   rfl
  have eS:(L.map fun p=>pq (iq p))=SQ.map pq:=by rw[hL,sq_iq,List.map_map];rfl
  rw[ez1,ez2,eS,hSC]
  refine⟨(gg c s o c' s' o' d).zs,rfl,(show 4<=100 by decide),fun z mz=>?_,?_⟩
  ·obtain⟨u,v,hu,hv,rfl⟩:=mem_zs h mz
   exact⟨(sz_cI h hu hv).bp.mono (by decide),(bq_int ((lim_x h hu hv).2.2.lim (n:=8)) (by decide)).mono (by decide)⟩
  generalize hT:chW (gg c s o c' s' o' d).zs=A at *
  have n9:17 * (A.length + 1)<=820:=by omega
  rw[hSH]
  refine⟨17,A,rfl,by omega,by decide,n9,fun p hp=>LT.sz p hp,fun _=>?_⟩
  have lS:A.length + SQ.length<=90:=by have:SQ.length=4:=rfl;omega
  have l4:SQ.length=4:=rfl
  show (decide ((arW A * (1 / 2)).num < 0)=true->SB [T.lst (A.map pq).reverse,T.lst (SQ.map pq)] Q)/\(decide ((arW A * (1 / 2)).num < 0)=false->SB [pqL A,T.lst (SQ.map pq)] Q)
  rw[hSB,← List.map_reverse]
  refine⟨fun z=>?_,fun z=>?_⟩
  ·have neg:arW A < 0:=half_neg.mp (of_decide_eq_true z)
   rcases cases3 with ⟨_,F⟩|⟨_,_,R,_⟩|⟨hD,hf,R,k⟩
   ·rw[F.area]at neg
    exact(Rat.lt_irrefl neg).elim
   ·have:=R.area_pos
    grind
   ·refine⟨8,A.reverse,SQ,by decide,rfl,LT.rev,lin_SQ,by rw[List.length_reverse];exact lS,.inr (.inr (.inr ⟨R,rnd_SQ,fun F hF LF lF=>?_⟩))⟩
    rw[List.length_reverse]at lF
    exact q F (Shd.of hD hf k hF) LF (by have:=l5 hD;omega)
  ·have nn:¬ arW A < 0:=fun y=>by
    have:=decide_eq_true (half_neg.mpr y)
    rw[this]at z
    cases z
   refine⟨8,A,SQ,by decide,rfl,LT,lin_SQ,lS,?_⟩
   rcases cases3 with ⟨hD,F⟩|⟨hD,hf,R,k⟩|⟨hD,hf,R,k⟩
   ·refine .inr (.inr (.inl ⟨F,l8,by rw[l4];decide,rnd_SQ,q [] (.inl ⟨rfl,fun p _ z=>z.1 hD⟩) ⟨by simp,by simp[edW]⟩ (by simp)⟩))
   ·exact .inr (.inr (.inr ⟨R,rnd_SQ,fun F hF LF lF=>q F (Shd.of hD hf k hF) LF (by have:=l5 hD;omega)⟩))
   ·have:=R.area_pos
    rw[arW_rev]at this
    exfalso
    grind
def Wn(m l:List Pq):Prop:=Flt m∨(Rnd m/\Rnd l/\∀q,Inq m q->Inq l q)
def RoF(l:List Pq):Prop:=Rnd l∨Flt l
theorem RoF.area{l:List Pq}(h:RoF l):0<=arW l:=by
 rcases h with h|h
 ·exact h.sc.area
 ·rw[h.area];exact Rat.le_refl
theorem Wn.area{m l:List Pq}(h:Wn m l)(hl:RoF l):arW m<=arW l:=by
 rcases h with h|⟨R,R',k⟩
 ·rw[h.area];exact hl.area
 ·exact R'.area_mono R k
theorem RoF.cut{l:List Pq}{f:Pq->Rat}(h:RoF l)(hf:Af f)(hn:∃z,f z≠0)(hz:∃z,f z=0):RoF (cuW f l):=(cuW_area hf hn hz h).1
theorem Wn.cut{m l:List Pq}{f:Pq->Rat}(h:Wn m l)(hf:Af f)(hn:∃z,f z≠0)(hz:∃z,f z=0):Wn (cuW f m) (cuW f l):=by
 rcases h with h|⟨R,R',k⟩
 ·exact .inl h.cut
 ·by_cases hp:∃p∈m,0 < f p
  ·obtain⟨p,mp,fp⟩:=hp
   have ip:=k p (R.sc.inq (by have:=R.len;omega) mp)
   have hp':∃p∈l,0 < f p:=by
    refine Classical.byContradiction fun z=>?_
    have:∀p∈l,0 <= - f p:=fun p hp=>by
     have:¬ 0 < f p:=fun y=>z ⟨p,hp,y⟩
     grind
    have:=hull_nn R'.sc R'.len hf.neg this ip
    grind
   have c1:=R.sc.cut R.len hf ⟨p,mp,fp⟩
   have c2:=R'.sc.cut R'.len hf hp'
   have i1:=R.sc.cut_in R.len hf hz ⟨p,mp,fp⟩
   have i2:=R'.sc.cut_in R'.len hf hz hp'
   exact .inr ⟨⟨c1.1,c1.2⟩,⟨c2.1,c2.2⟩,fun q hq=>(i2 q).mpr ⟨k q ((i1 q).mp hq).1,((i1 q).mp hq).2⟩⟩
  ·exact .inl (cut_flt hf hn fun p mp=>Rat.not_lt.mp fun c=>hp ⟨p,mp,c⟩)
theorem cut_off:∀(es:List (Pq×Pq)){m l:List Pq},(∀e∈es,e.1≠e.2)->RoF l->RoF m->Wn m l->arW m - arW (cuA es m)<=arW l - arW (cuA es l)
 | [],m,l,_,_,_,_=>by simp only[cuA];grind
 | e::es,m,l,he,hl,hm,hw=>by
  have hf:=af_tq e.1 e.2
  have hn:=tq_ndg (he e mcs)
  have hz:∃z,tq e.1 e.2 z=0:=⟨e.1,tq_aba _ _⟩
  have hn':∃z,- tq e.1 e.2 z≠0:=by
   obtain⟨z,h⟩:=hn
   exact⟨z,by grind⟩
  have hz':∃z,- tq e.1 e.2 z=0:=⟨e.1,by rw[tq_aba];grind⟩
  have a1:=arW_cut hf hn hz m
  have a2:=arW_cut hf hn hz l
  have a3:=(hw.cut hf.neg hn' hz').area (hl.cut hf.neg hn' hz')
  have ih:=cut_off es (fun e' m'=>he e' (mcm _ m')) (hl.cut hf hn hz) (hm.cut hf hn hz) (hw.cut hf hn hz)
  rw[cuA,cuA]
  grind
theorem Bth.area{A B F:List Pq}(hA:Rnd A)(hB:Rnd B)(h:Bth A B F):arW F=arW (cuA (edW B) A):=by
 rcases hA.cuts hB with ⟨R,k⟩|⟨Z,k⟩
 ·rcases h with ⟨rfl,h⟩|⟨R',lo,h⟩
  ·exact(R.none hB (fun q hq=>(k q).mp hq) h).elim
  ·exact R'.area_same R fun q=>by rw[h,k]
 ·rw[Z.area]
  rcases h with ⟨rfl,h⟩|⟨R',lo,h⟩
  ·rfl
  ·exact(R'.none hB (fun q hq=>(h q).mp hq) k).elim
theorem two_in{C X Y F:List Pq}(hC:Rnd C)(hX:Rnd X)(hY:Rnd Y)(x:∀q,Inq X q->Inq C q)(y:∀q,Inq Y q->Inq C q)(h:Bth Y X F):arW X + arW Y - arW F<=arW C:=by
 have e:=cut_off (edW X) (fun e he=>hX.sc.ed_ne hX.len he) (.inl hC) (.inl hY) (.inr ⟨hY,hC,y⟩)
 rw[h.area hY hX]
 have c:arW (cuA (edW X) C)=arW X:=by
  rcases hC.cuts hX with ⟨R,k⟩|⟨_,k⟩
  ·exact R.area_same hX fun q=>by rw[k];exact⟨fun z=>z.2,fun z=>⟨x q z,z⟩⟩
  ·exact(hX.none hX (fun q hq=>⟨x q hq,hq⟩) k).elim
 rw[c]at e
 grind
structure Prt(n:Nat)(A:List Pq):Prop where
 lin:Lined 8 A
 len:A.length<=n
 rnd:A=[]∨(Rnd A/\Lowest A)
theorem prt_nil(n:Nat):Prt n []:=⟨⟨by simp,by simp[edW]⟩,by simp,.inl rfl⟩
theorem Bth.uniq{A B F F':List Pq}(hA:Rnd A)(hB:Rnd B)(h:Bth A B F)(h':Bth A B F'):F'=F:=by
 rcases h with ⟨rfl,h⟩|⟨r,lo,h⟩<;>rcases h' with ⟨rfl,h'⟩|⟨r',lo',h'⟩
 ·rfl
 ·exact(r'.none hB (fun q hq=>(h' q).mp hq) h).elim
 ·exact(r.none hB (fun q hq=>(h q).mp hq) h').elim
 ·exact r'.sc.same r'.len lo' r.sc r.len lo fun q=>by rw[h,h']
theorem bth_ex{n m:Nat}{A B:List Pq}(hA:Rnd A)(hB:Rnd B)(a:Prt n A)(b:Prt m B):∃F,Bth A B F/\Prt (n + m) F:=by
 have nB:∀e∈edW B,e.1≠e.2:=fun e he=>hB.sc.ed_ne hB.len he
 have LC:=a.lin.cuts (es:=edW B) fun e he=>⟨b.lin.ed e he,nB e he⟩
 have lc:=Sln.cuts (.inl ⟨hA.sc,hA.len⟩) nB
 rw[edW_len]at lc
 have la:=a.len
 have lb:=b.len
 rcases hA.cuts hB with ⟨R,k⟩|⟨_,k⟩
 ·obtain⟨C,D,e,R',lo⟩:=R.low
  refine⟨D++C,.inr ⟨R',lo,fun q=>by rw[← inq_rot,← e];exact k q⟩,⟨?_,?_,.inr ⟨R',lo⟩⟩⟩
  ·rw[e]at LC
   exact LC.rot
  ·rw[e]at lc
   simp at lc ⊢
   omega
 ·exact⟨[],.inl ⟨rfl,k⟩,prt_nil _⟩
open Classical in
noncomputable def bt(A B:List Pq):List Pq:=if h:∃F,Rnd A/\Rnd B/\Bth A B F then Classical.choose h else []
theorem bt_nl(B:List Pq):bt [] B=[]:=by
 unfold bt
 rw[dif_neg]
 rintro ⟨F,R,_⟩
 have:=R.len
 simp at this
theorem bt_nr(A:List Pq):bt A []=[]:=by
 unfold bt
 rw[dif_neg]
 rintro ⟨F,_,R,_⟩
 have:=R.len
 simp at this
theorem bt_of{A B F:List Pq}(hA:Rnd A)(hB:Rnd B)(h:Bth A B F):bt A B=F:=by
 unfold bt
 have ex:∃F,Rnd A/\Rnd B/\Bth A B F:=⟨F,hA,hB,h⟩
 rw[dif_pos ex]
 exact h.uniq hA hB (Classical.choose_spec ex).2.2
theorem Prt.bt{n m:Nat}{A B:List Pq}(a:Prt n A)(b:Prt m B):Prt (n + m) (bt A B):=by
 rcases a.rnd with rfl|⟨RA,_⟩
 ·rw[bt_nl];exact prt_nil _
 ·rcases b.rnd with rfl|⟨RB,_⟩
  ·rw[bt_nr];exact prt_nil _
  ·obtain⟨F,h,p⟩:=bth_ex RA RB a b
   rw[bt_of RA RB h]
   exact p
theorem bt_bth{n m:Nat}{A B:List Pq}(a:Prt n A)(b:Prt m B)(hA:Rnd A)(hB:Rnd B):Bth A B (bt A B):=by
 obtain⟨F,h,_⟩:=bth_ex hA hB a b
 rw[bt_of hA hB h]
 exact h
theorem bt_comm{n m:Nat}{A B:List Pq}(a:Prt n A)(b:Prt m B):bt A B=bt B A:=by
 rcases a.rnd with rfl|⟨RA,_⟩
 ·rw[bt_nl,bt_nr]
 ·rcases b.rnd with rfl|⟨RB,_⟩
  ·rw[bt_nl,bt_nr]
  ·exact((bt_bth a b RA RB).sym RA RB (bt_bth b a RB RA)).symm
def Rs(A:List Pq)(q:Pq):Prop:=A≠[]/\∀e∈edW A,0 < tq e.1 e.2 q
theorem Rnd.ne{A:List Pq}(h:Rnd A):A≠[]:=fun e=>by
 have:=h.len
 rw[e]at this
 simp at this
theorem Rnd.strict_in{A B:List Pq}(hA:Rnd A)(hB:Rnd B)(h:∀q,Inq A q->Inq B q){q:Pq}(hq:∀e∈edW A,0 < tq e.1 e.2 q):∀e∈edW B,0 < tq e.1 e.2 q:=fun e he =>
 hA.strict (af_tq e.1 e.2) (tq_ndg (hB.sc.ed_ne hB.len he)) (fun p hp=>h p (hA.sc.inq (by have:=hA.len;omega) hp) e he) hq
theorem Rnd.some_in{A:List Pq}(hA:Rnd A):∃q,∀e∈edW A,0 < tq e.1 e.2 q:=by
 obtain⟨q,_,ha⟩:=hA.sc.amid hA.len
 exact⟨q,fun e he=>ha _ (af_tq e.1 e.2) (tq_ndg (hA.sc.ed_ne hA.len he)) fun p hp=>hA.sc.inq (by have:=hA.len;omega) hp e he⟩
theorem bt_rs{n m:Nat}{A B:List Pq}(a:Prt n A)(b:Prt m B)(q:Pq):Rs (bt A B) q ↔ Rs A q/\Rs B q:=by
 rcases a.rnd with rfl|⟨RA,_⟩
 ·rw[bt_nl];exact⟨fun z=>absurd rfl z.1,fun z=>absurd rfl z.1.1⟩
 ·rcases b.rnd with rfl|⟨RB,_⟩
  ·rw[bt_nr];exact⟨fun z=>absurd rfl z.1,fun z=>absurd rfl z.2.1⟩
  ·have h:=bt_bth a b RA RB
   rcases h with ⟨e,h⟩|⟨R,lo,h⟩
   ·rw[e]
    exact⟨fun z=>absurd rfl z.1,fun ⟨z1,z2⟩=>(h q (fun e he=>Rat.le_of_lt (z1.2 e he)) z2.2).elim⟩
   ·constructor
    ·intro z
     exact⟨⟨RA.ne,R.strict_in RA (fun p hp=>((h p).mp hp).1) z.2⟩,⟨RB.ne,R.strict_in RB (fun p hp=>((h p).mp hp).2) z.2⟩⟩
    ·intro ⟨z1,z2⟩
     refine⟨R.ne,fun e he=>?_⟩
     have iq:Inq (bt A B) q:=(h q).mpr ⟨fun e he=>Rat.le_of_lt (z1.2 e he),fun e he=>Rat.le_of_lt (z2.2 e he)⟩
     refine Classical.byContradiction fun nz=>?_
     have e0:tq e.1 e.2 q=0:=by have:=iq e he;grind
     obtain⟨v,hv⟩:=R.some_in
     have vp:=hv e he
     obtain⟨t1,t10,h1⟩:=eps_of (p:=q) (v:=v) (edW A) z1.2
     obtain⟨t2,t20,h2⟩:=eps_of (p:=q) (v:=v) (edW B) z2.2
     have ht:∃t:Rat,0 < t/\t<=t1/\t<=t2:=by
      rcases Rat.le_total (a:=t1) (b:=t2) with z|z
      ·exact⟨t1,t10,Rat.le_refl,z⟩
      ·exact⟨t2,t20,z,Rat.le_refl⟩
     obtain⟨t,t0,tl1,tl2⟩:=ht
     have im:Inq (bt A B) (mid (-t) q v):=(h _).mpr ⟨fun e he=>by
      rw[tq_m3]
      have:=h1 e he t (Rat.le_of_lt t0) tl1
      grind,fun e he=>by
      rw[tq_m3]
      have:=h2 e he t (Rat.le_of_lt t0) tl2
      grind⟩
     have:=im e he
     rw[tq_m3,e0]at this
     have:=q_pp t0 vp
     grind
theorem strict_mid{l:List Pq}(h:Rnd l){q v:Pq}(hq:Inq l q)(hv:∀e∈edW l,0 < tq e.1 e.2 v){t:Rat}(t0:0 < t)(t1:t < 1):∀e∈edW l,0 < tq e.1 e.2 (mid t q v):=fun e he=>by
 rw[tq_m3]
 exact q_mix t0 t1 (hq e he) (hv e he)
theorem closed_of{A B:List Pq}(hA:Rnd A)(h:∀q,(∀e∈edW A,0 < tq e.1 e.2 q)->∀e∈edW B,0 < tq e.1 e.2 q){q:Pq}(hq:Inq A q):Inq B q:=fun e he=>by
 obtain⟨v,hv⟩:=hA.some_in
 refine Classical.byContradiction fun z=>?_
 have z:tq e.1 e.2 q < 0:=Rat.not_le.mp z
 have vp:=h v hv e he
 generalize hx:tq e.1 e.2 q=x at *
 generalize hy:tq e.1 e.2 v=y at *
 have d:0 < y - x:=by grind
 have t0:0 < -x / (y - x):=q_lt d (by rw[show (y - x) * (-x / (y - x))=-x by grind];grind)
 have t1:-x / (y - x) < 1:=by
  have:0 < 1 - -x / (y - x):=q_lt d (by rw[show (y - x) * (1 - -x / (y - x))=y by grind];exact vp)
  grind
 have:=h _ (strict_mid hA hq hv t0 t1) e he
 rw[tq_m3,hx,hy]at this
 have e0:(1 - -x / (y - x)) * x + -x / (y - x) * y=0:=by grind
 rw[e0]at this
 exact Rat.lt_irrefl this
theorem Prt.ext{n m:Nat}{A B:List Pq}(a:Prt n A)(b:Prt m B)(h:∀q,Rs A q ↔ Rs B q):A=B:=by
 rcases a.rnd with rfl|⟨RA,la⟩<;>rcases b.rnd with rfl|⟨RB,lb⟩
 ·rfl
 ·obtain⟨v,hv⟩:=RB.some_in
  exact absurd rfl ((h v).mpr ⟨RB.ne,hv⟩).1
 ·obtain⟨v,hv⟩:=RA.some_in
  exact absurd rfl ((h v).mp ⟨RA.ne,hv⟩).1
 ·refine RA.sc.same RA.len la RB.sc RB.len lb fun q=>⟨fun z=>closed_of RA (fun p hp=>((h p).mp ⟨RA.ne,hp⟩).2) z,fun z=>closed_of RB (fun p hp=>((h p).mpr ⟨RB.ne,hp⟩).2) z⟩
theorem bt_three{n m k:Nat}{A B C:List Pq}(a:Prt n A)(b:Prt m B)(c:Prt k C):bt (bt C B) (bt C A)=bt (bt A B) C :=
 ((c.bt b).bt (c.bt a)).ext ((a.bt b).bt c) fun q=>by
  rw[bt_rs (c.bt b) (c.bt a),bt_rs c b,bt_rs c a,bt_rs (a.bt b) c,bt_rs a b]
  constructor
  ·rintro ⟨⟨h1,h2⟩,_,h4⟩;exact⟨⟨h4,h2⟩,h1⟩
  ·rintro ⟨⟨h1,h2⟩,h3⟩;exact⟨⟨h3,h2⟩,h3,h1⟩
theorem bt_rot{n m k:Nat}{A B C:List Pq}(a:Prt n A)(b:Prt m B)(c:Prt k C):bt (bt A C) B=bt (bt A B) C :=
 ((a.bt c).bt b).ext ((a.bt b).bt c) fun q=>by
  rw[bt_rs (a.bt c) b,bt_rs a c,bt_rs (a.bt b) c,bt_rs a b]
  constructor
  ·rintro ⟨⟨h1,h2⟩,h3⟩;exact⟨⟨h1,h3⟩,h2⟩
  ·rintro ⟨⟨h1,h2⟩,h3⟩;exact⟨⟨h1,h3⟩,h2⟩
def sh(A:List Pq):Rat:=arW A * (1 / 2)
theorem sh_nil:sh []=0:=by unfold sh;simp only[arW];grind
theorem Prt.nn{n:Nat}{A:List Pq}(a:Prt n A):0<=sh A:=by
 unfold sh
 rcases a.rnd with rfl|⟨R,_⟩
 ·simp only[arW];grind
 ·have:=R.sc.area
  grind
theorem bt_le{n m:Nat}{A B:List Pq}(a:Prt n A)(b:Prt m B):sh (bt A B)<=sh A:=by
 rcases a.rnd with rfl|⟨RA,_⟩
 ·rw[bt_nl];exact Rat.le_refl
 ·rcases b.rnd with rfl|⟨RB,_⟩
  ·rw[bt_nr,sh_nil];exact a.nn
  ·have h:=bt_bth a b RA RB
   rcases h with ⟨e,_⟩|⟨R,lo,h⟩
   ·rw[e,sh_nil];exact a.nn
   ·have:=RA.area_mono R fun q hq=>((h q).mp hq).1
    unfold sh
    grind
theorem prt_two_in{n m k:Nat}{A B C:List Pq}(a:Prt n A)(b:Prt m B)(c:Prt k C):sh (bt C A) + sh (bt C B) - sh (bt (bt C B) (bt C A))<=sh C:=by
 have ca:=c.bt a
 have cb:=c.bt b
 rcases ca.rnd with e|⟨RX,_⟩
 ·rw[e,bt_nr,sh_nil]
  have:=bt_le c b
  grind
 ·rcases cb.rnd with e|⟨RY,_⟩
  ·rw[e,bt_nl,sh_nil]
   have:=bt_le c a
   grind
  ·have nC:C≠[]:=fun e=>RX.ne (by rw[e,bt_nl])
   have RC:Rnd C:=by rcases c.rnd with e|z;exact absurd e nC;exact z.1
   have nA:A≠[]:=fun e=>RX.ne (by rw[e,bt_nr])
   have nB:B≠[]:=fun e=>RY.ne (by rw[e,bt_nr])
   have RA:Rnd A:=by rcases a.rnd with e|z;exact absurd e nA;exact z.1
   have RB:Rnd B:=by rcases b.rnd with e|z;exact absurd e nB;exact z.1
   have sub:∀{k m:Nat}{D:List Pq},Prt m D->Rnd D->Rnd (TL.bt C D)->∀q,Inq (TL.bt C D) q->Inq C q:=fun {k m D} dd RD RT q hq=>by
    rcases bt_bth c dd RC RD with ⟨e,_⟩|⟨_,_,h⟩
    ·exact absurd e RT.ne
    ·exact((h q).mp hq).1
   have:=TL.two_in RC RX RY (sub (k:=0) a RA RX) (sub (k:=0) b RB RY) (bt_bth cb ca RY RX)
   unfold sh
   grind
theorem both_cal{n m:Nat}{A B:List Pq}{Q:T->Prop}(a:Prt n A)(b:Prt m B)(hnm:n + m<=90)(q:Q (pqL (bt A B))):Z0c [pqL A,pqL B] Q:=by
 have la:=a.len
 have lb:=b.len
 refine⟨8,A,B,by decide,rfl,a.lin,b.lin,by omega,?_⟩
 rcases a.rnd with rfl|⟨RA,_⟩
 ·rw[bt_nl]at q
  refine .inl ⟨rfl,?_,q⟩
  rcases b.rnd with e|⟨RB,_⟩
  ·exact .inl e
  ·exact .inr RB
 ·rcases b.rnd with rfl|⟨RB,_⟩
  ·rw[bt_nr]at q
   exact .inr (.inl ⟨rfl,q⟩)
  ·exact .inr (.inr (.inr ⟨RA,RB,fun F h _ _=>by rw[bt_of RA RB h]at q;exact q⟩))
theorem share_cal{n:Nat}{A:List Pq}{Q:T->Prop}(a:Prt n A)(hn:n<=36)(q:Bq (17 * (n + 1) + 3) (sh A)->Q (fq (sh A))):Z08 [pqL A] Q:=by
 have la:=a.len
 refine⟨17,A,rfl,by omega,by decide,by omega,fun p hp=>a.lin.sz p hp,fun h=>q (h.mono (by omega))⟩
theorem share_bq{n:Nat}{A:List Pq}(a:Prt n A)(hn:n<=36):Bq (17 * (n + 1) + 3) (sh A):=by
 have la:=a.len
 have sz:∀p∈A,Szb (10 ^ 17) p:=fun p hp=>Sz.szb (a.lin.sz p hp)
 have key:∀(r:List Pq)(i:Nat)(x:Pq)(S:Rat),(∀p∈r,Szb (10 ^ 17) p)->PSum (10 ^ 17) i x S->∃y,PSum (10 ^ 17) (i + r.length) y (S + arL x r):=by
  intro r
  induction r with
  | nil=>intro i x S _ h;exact⟨x,by simp only[arL,List.length_nil,Nat.add_zero];rw[show S + 0=S by grind];exact h⟩
  | cons b r ih =>
   intro i x S hr h
   obtain⟨y,hy⟩:=ih (i + 1) b (S + crp x b) (fun p hp=>hr p (mcm _ hp)) (h.step (hr b mcs))
   refine⟨y,?_⟩
   rw[List.length_cons,show i + (r.length + 1)=i + 1 + r.length by omega,show S + arL x (b::r)=S + crp x b + arL b r by simp only[arL];grind]
   exact hy
 have bA:Bq (17 * (n + 1) + 2) (arW A):=by
  cases A with
  | nil=>exact(bq_int (k:=1) (n:=0) (Lim.of (by decide) (by decide)) (by decide)).mono (by omega)
  | cons b r =>
   obtain⟨y,hy⟩:=key (b::r) 0 (r.getLastD b) 0 sz (psum0 (sz _ (last_mem b r)))
   rw[show 0 + arL (r.getLastD b) (b::r)=arW (b::r) by show 0 + arL _ _=arL _ _;grind,Nat.zero_add]at hy
   have:=hy.bq (by omega)
   exact this.mono (by omega)
 unfold sh
 exact(bA.mul bq12).mono (by omega)
noncomputable def jnS:List (List Pq)->Rat
 | [A]=>sh A
 | [A,B]=>sh A + (sh B - sh (bt B A))
 | [A,B,C]=>sh A + (sh B - sh (bt B A)) + (sh C - (sh (bt C A) + (sh (bt C B) - sh (bt (bt C B) (bt C A)))))
 | _=>0
def Z0e:Nat->SpT
 | 0=>fun _ _=>False
 | d + 1=>fun ts Q=>(ts=[.lst []]/\Q (fq 0))∨(1<=d/\∃(n:Nat) (A:List Pq),ts=[.lst [pqL A]]/\Prt n A/\n<=36/\Q (fq (jnS [A]))) ∨
  (2<=d/\∃(n m:Nat) (A B:List Pq),ts=[.lst [pqL A,pqL B]]/\Prt n A/\Prt n B/\Prt m (bt B A)/\n<=18/\m<=27/\Q (fq (jnS [A,B]))) ∨
  (3<=d/\∃(A B C:List Pq),ts=[.lst [pqL A,pqL B,pqL C]]/\Prt 9 A/\Prt 9 B/\Prt 9 C/\Q (fq (jnS [A,B,C])))
abbrev Z1e:SpT:=Z0e 8
theorem len0_P_joint_share:∀ts Q,Z0e 0 ts Q->ts.length=1:=fun ts Q h=>h.elim
theorem no_P_joint_share:∀ts Q,Z0e 0 ts Q->False:=fun ts Q h=>h
theorem Z42:∀n ts Q,Z0e n ts Q->ts.length=1
 | 0,ts,Q,h=>h.elim
 | d + 1,ts,Q,h=>by
  rcases h with ⟨rfl,_⟩|⟨_,_,_,rfl,_⟩|⟨_,_,_,_,_,rfl,_⟩|⟨_,_,_,_,rfl,_⟩<;>rfl
def Z1l(S:SpT):WS :=
 (sSeq (sSet 4 (wComp (iSeq (wSl (wVar 0) wo0 (wo (wVar 2)))) (gN 0) tTrue (wCall Z0c (aCons (wVar 1) (aCons (wVar 0) aNil))) 1 [3]))
  (sSet 1 (wCall Z03 (aCons (wVar 1) (aCons (wCall Z00 (aCons (wCall Z08 (aCons (wVar 3) aNil)) (aCons (wCall S (aCons (wVar 4) aNil)) aNil))) aNil)))))
def Z2B(S:SpT):WS :=
 (sSeq (sSet 1 (wTup (aCons (wC (.int 0)) (aCons (wC (.int 1)) aNil))))
  (sSeq (sFor (iEnum (aCons (wVar 0) aNil)) (gT 2 (gsC (gN 2) (gsC (gN 3) gs0))) (Z1l S))
  (sRet (wVar 1))))
theorem joint_b0{S:SpT}{D:DT}{us:List T}{J x:Rat}{i:Int}{n j l:Nat}{C:List Pq}{ps:List (List Pq)}{s4:Slot}(hc:cutT us none (some i)=ps.map pqL)(hp:∀p∈ps,Prt n p)(c:Prt n C)(hn:n<=36)(hl:ps.length<=10)
  (hS:∀{Q:T->Prop},Q (fq x)->S [.lst (ps.map fun p=>pqL (bt C p))] Q) (bJ:Bq j J) (bx:Bq l x) (h1:17 * (n + 1) + 3 + l<=2000) (h2:j + (17 * (n + 1) + 3 + l + 1)<=2000)
  (h:∀s4,Bq (j + (17 * (n + 1) + 3 + l + 1) + 1) (J + (sh C - x))->D.nx [.val (.lst us),.val (fq (J + (sh C - x))),.val (.int i),.val (pqL C),s4]):Z1l S D [.val (.lst us),.val (fq J),.val (.int i),.val (pqL C),s4]:=by
 obtain⟨SB,hSB⟩:∃S,S=Z0c:=⟨_,rfl⟩
 obtain⟨SH,hSH⟩:∃S,S=Z08:=⟨_,rfl⟩
 obtain⟨SA,hSA⟩:∃S,S=Z03:=⟨_,rfl⟩
 obtain⟨SL,hSL⟩:∃S,S=Z00:=⟨_,rfl⟩
 have cb:∀{B:List Pq}{Q:T->Prop},Prt n B->Q (pqL (bt C B))->SB [pqL C,pqL B] Q:=fun b q=>by rw[hSB];exact both_cal c b (by omega) q
 have ch:∀{Q:T->Prop},(Bq (17 * (n + 1) + 3) (sh C)->Q (fq (sh C)))->SH [pqL C] Q:=fun q=>by rw[hSH];exact share_cal c hn q
 have ca:∀{j k:Nat}{a b:Rat}{Q:T->Prop},Bq j a->Bq k b->j + k<=2000->Q (fq (a + b))->SA [fq a,fq b] Q:=fun h1 h2 h3 q=>by rw[hSA];exact sum_wd (h1.bw (by omega)) (h2.bw (by omega)) h3 q
 have cl:∀{j k:Nat}{a b:Rat}{Q:T->Prop},Bq j a->Bq k b->j + k<=2000->Q (fq (a - b))->SL [fq a,fq b] Q:=fun h1 h2 h3 q=>by rw[hSL];exact less_wd (h1.bw (by omega)) (h2.bw (by omega)) h3 q
 unfold Z1l
 rw[← hSB,← hSH,← hSA,← hSL]
 generalize hX:pqL C=X at *
 walk_at "tw"
 rw[hc]
 refine⟨by rw[List.length_map];omega,?_⟩
 refine comp_map (g:=fun p=>pqL (bt C p)) ps [] _ _ (fun p hp' R hR=>?_) ?_
 ·show SB [X,pqL p] R
  exact cb (hp p hp') hR
 rw[List.nil_append]
 refine ch fun bC=>?_
 refine hS ?_
 refine cl bC bx h1 ?_
 have bd:=bC.sub bx
 exact ca bJ bd h2 (h _ (bJ.add bd))
theorem Z4r:∀n ts Q,Z0e (n + 1) ts Q->Z2B (Z0e n) {nx:=fun _=>Q .non,rt:=Q} (startT 5 ts):=by
 intro d ts Q h
 obtain⟨S,hS⟩:∃S,S=Z0e d:=⟨_,rfl⟩
 have b0:Bq 1 (0:Rat):=bq_int (n:=0) (Lim.of (by decide) (by decide)) (by decide)
 have c0:∀{Q:T->Prop},1<=d->Q (fq 0)->S [.lst []] Q:=fun {Q} hd q=>by
  rw[hS]
  obtain⟨e,rfl⟩:∃e,d=e + 1:=⟨d - 1,by omega⟩
  exact .inl ⟨rfl,q⟩
 have c1:∀{n:Nat}{A:List Pq}{Q:T->Prop},2<=d->Prt n A->n<=36->Q (fq (sh A))->S [.lst [pqL A]] Q:=fun {n A Q} hd a hn q=>by
  rw[hS]
  obtain⟨e,rfl⟩:∃e,d=e + 1:=⟨d - 1,by omega⟩
  exact .inr (.inl ⟨by omega,n,A,rfl,a,hn,q⟩)
 have c2:∀{n m:Nat}{A B:List Pq}{Q:T->Prop},3<=d->Prt n A->Prt n B->Prt m (bt B A)->n<=18->m<=27->Q (fq (jnS [A,B]))->S [.lst [pqL A,pqL B]] Q:=fun {n m A B Q} hd a b ab hn hm q=>by
  rw[hS]
  obtain⟨e,rfl⟩:∃e,d=e + 1:=⟨d - 1,by omega⟩
  exact .inr (.inr (.inl ⟨by omega,n,m,A,B,rfl,a,b,ab,hn,hm,q⟩))
 rw[← hS]
 unfold Z2B
 obtain⟨W0,hW0⟩:∃W,W=Z1l S:=⟨_,rfl⟩
 have jb:=@joint_b0 S
 rw[← hW0]at jb ⊢
 have z1:∀x:Rat,0 + (x - 0)=x:=fun x=>by grind
 rcases h with ⟨rfl,q⟩|⟨hd,n,A,rfl,a,hn,q⟩|⟨hd,n,m,A,B,rfl,a,b,ab,hn,hm,q⟩|⟨hd,A,B,C,rfl,a,b,c,q⟩
 ·walk_at "go"
  rw[fq0]
  exact q
 ·walk_at "go"
  rw[fq0]
  refine jb (ps:=[]) (n:=n) (j:=1) (l:=1) (x:=0) rfl (by simp) a hn (by simp) (fun q=>c0 (by omega) q) b0 b0 (by omega) (by omega) fun s4 _=>?_
  rw[z1]
  walk_at "go"
  exact q
 ·walk_at "go"
  rw[fq0]
  refine jb (ps:=[]) (n:=n) (j:=1) (l:=1) (x:=0) rfl (by simp) a (by omega) (by simp) (fun q=>c0 (by omega) q) b0 b0 (by omega) (by omega) fun s4 g1=>?_
  rw[z1]at g1 ⊢
  walk_at "go"
  have bab:Bq (17 * (m + 1) + 3) (sh (bt B A)):=share_bq ab (by omega)
  refine jb (ps:=[A]) (n:=n) (x:=sh (bt B A)) rfl (by simp;exact a) b (by omega) (by simp) (fun q=>c1 hd ab (by omega) q) g1 bab (by omega) (by omega) fun s4 g2=>?_
  walk_at "go"
  exact q
 ·walk_at "go"
  rw[fq0]
  refine jb (ps:=[]) (n:=9) (j:=1) (l:=1) (x:=0) rfl (by simp) a (by omega) (by simp) (fun q=>c0 (by omega) q) b0 b0 (by omega) (by omega) fun s4 g1=>?_
  rw[z1]at g1 ⊢
  walk_at "go"
  have ab:=b.bt a
  have bab:Bq (17 * (18 + 1) + 3) (sh (bt B A)):=share_bq ab (by omega)
  refine jb (ps:=[A]) (n:=9) (x:=sh (bt B A)) rfl (by simp;exact a) b (by omega) (by simp) (fun q=>c1 (by omega) ab (by omega) q) g1 bab (by omega) (by omega) fun s4 g2=>?_
  walk_at "go"
  have ca:=c.bt a
  have cb:=c.bt b
  have cc:Prt 27 (bt (bt C B) (bt C A)):=by
   rw[bt_three a b c]
   exact(a.bt b).bt c
  have bca:Bq (17 * (18 + 1) + 3) (sh (bt C A)):=share_bq ca (by omega)
  have bcb:Bq (17 * (18 + 1) + 3) (sh (bt C B)):=share_bq cb (by omega)
  have bcc:Bq (17 * (27 + 1) + 3) (sh (bt (bt C B) (bt C A))):=share_bq cc (by omega)
  have bx:Bq 1136 (jnS [bt C A,bt C B]):=(bca.add (bcb.sub bcc)).mono (by decide)
  refine jb (ps:=[A,B]) (n:=9) (x:=jnS [bt C A,bt C B]) rfl (fun p hp=>?_) c (by omega) (by simp) (fun q=>c2 hd ca cb cc (by omega) (by omega) q) (g2.mono (k':=680) (by decide)) bx (by decide) (by decide) fun s4 _=>?_
  ·simp only[List.mem_cons,List.not_mem_nil,or_false]at hp
   rcases hp with rfl|rfl<;>assumption
  ·walk_at "go"
   exact q
def Z0g:SpT:=fun ts Q=>∃(t:T) (s o d:Tr),ts=[.tup [t,trT s,trT o],trT d]/\(LimT 50 s/\LimT 50 o/\LimT 100 d)/\Q (.bl (decide (0 < dotI (crs s o) d)))
theorem Z3q:∀ts Q,Z0g ts Q->ts.length=2:=by rintro ts Q ⟨_,_,_,_,e,_⟩;subst e;rfl
def Z1F:WS :=
 (sRet (wCmp cGtT (wCall Z1O (aCons (wCall Z0E (aCons (wVar 0) aNil)) (aCons (wVar 1) aNil))) (wC (.int 0))))
theorem Z3B:∀ts Q,Z0g ts Q->Z1F {nx:=fun _=>Q .non,rt:=Q} (startT 2 ts):=by
 rintro _ Q ⟨t,s,o,d,rfl,⟨ls,lo,ld⟩,h⟩
 have lF:=lim_crs ls lo (k:=101) (by decide)
 unfold Z1F
 walk_at "go"
 refine⟨_,s,o,rfl,ls.mono (by decide),lo.mono (by decide),?_⟩
 walk_at "go"
 refine⟨crs s o,d,rfl,lF.mono (by decide),ld.mono (by decide),?_⟩
 walk_at "go"
 exact h
abbrev Pl:=Tr×Tr×Tr
abbrev plT(p:Pl):T:=ptl p.1 p.2.1 p.2.2
abbrev PlLim(k:Nat)(p:Pl):Prop:=LimT k p.1/\LimT k p.2.1/\LimT k p.2.2
theorem PlLim.mono{k k':Nat}{p:Pl}(h:PlLim k p)(hk:k<=k'):PlLim k' p:=⟨h.1.mono hk,h.2.1.mono hk,h.2.2.mono hk⟩
abbrev Th:=Str×Pl×Option Tr
def thT:Th->T
 | (n,p,none)=>.tup [.str n,plT p]
 | (n,p,some t)=>.tup [.str n,plT p,trT t]
abbrev sT(e:Int×Tr):T:=.tup [.int e.1,trT e.2]
abbrev SOk(a:Str):Prop:=PyData.strOk a=true
theorem eqOk_str{a b:Str}(ha:SOk a)(hb:SOk b):EqOk (.str a) (.str b):=by
 refine⟨by simpa [plain,pd,PyData.canLay0] using ha,by simpa [plain,pd,PyData.canLay0] using hb,by simp[dep,pd,PyData.depth]⟩
theorem eqT_str(a b:Str):eqT (.str a) (.str b)=decide (a=b):=by
 rw[eqTf]
 by_cases h:a=b
 ·subst h;simp
 ·rw[decide_eq_false h];exact beq_eq_false_iff_ne.mpr h
abbrev sunAt(sun:List (Int×Tr))(h:Int):Option (Int×Tr):=sun.find? fun e=>decide (e.1=h)
def Z0h:SpT:=fun ts Q=>∃(sun:List (Int×Tr)) (h:Int),ts=[.lst (sun.map sT),.int h]/\h.natAbs.log2 < 1920/\(match sunAt sun h with|some e=>Q (trT e.2)|none=>False)
theorem Z43:∀ts Q,Z0h ts Q->ts.length=2:=by rintro ts Q ⟨_,_,e,_⟩;subst e;rfl
def Z0O:WS :=
 (sIf (tCmpT cEqT (w2 rIxTT (wVar 2) (wC (.int 0))) (wVar 1)) (sRet (w2 rIxTT (wVar 2) (wC (.int 1)))) sNext)
def Z1P:WS :=
 sNever
def Z2k:WS :=
 (sSeq (sIf (tVal (wCall Z0U (aCons (wVar 1) aNil))) (sFor (iSeq (wVar 0)) (gN 2) Z0O) sNext)
  Z1P)
theorem dat_loop{Q:T->Prop}{x:Slot}{g:Int}:∀(rs:List (Int×Tr))(s2:Slot)(N:List Slot->Prop),(match sunAt rs g with|some r=>Q (trT r.2)|none=>∀s2,N [x,.val (.int g),s2]) →
  forT (gN 2) (Z0O) (rs.map sT) {nx:=N,rt:=Q} [x,.val (.int g),s2]
 | [],s2,N,h=>by
  simp only[List.map,forT]
  exact h s2
 | r::rs,s2,N,h=>by
  have ih:=fun s2=>dat_loop (Q:=Q) (x:=x) (g:=g) rs s2 N
  simp only[List.map,forT]
  generalize forT (gN 2) (Z0O) (rs.map sT) {nx:=N,rt:=Q}=F at ih ⊢
  unfold Z0O
  walk_at "go"
  refine⟨fun c=>?_,fun c=>?_⟩
  ·have e:sunAt (r::rs) g=some r:=List.find?_cons_of_pos c
   rw[e]at h
   walk_at "go"
   exact h
  ·have e:sunAt (r::rs) g=sunAt rs g:=List.find?_cons_of_neg (by rw[c];exact Bool.false_ne_true)
   rw[e]at h
   exact ih _ h
theorem Z4c:∀ts Q,Z0h ts Q->Z2k {nx:=fun _=>Q .non,rt:=Q} (startT 3 ts):=by
 rintro _ Q ⟨rs,g,rfl,lg,h⟩
 unfold Z2k
 obtain⟨W0,hW0⟩:∃W,W=Z0O:=⟨_,rfl⟩
 obtain⟨W1,hW1⟩:∃W,W=Z1P:=⟨_,rfl⟩
 rw[← hW0,← hW1]
 walk_at "go"
 refine⟨_,rfl,trivial,?_⟩
 walk_at "tw"
 rw[hW0]
 refine⟨fun _=>dat_loop rs _ _ ?_,fun z=>by cases z⟩
 cases q:sunAt rs g with
 | some r=>rw[q]at h;exact h
 | none =>
  rw[q]at h
  intro s2
  rw[hW1]
  unfold Z1P
  walk_at "go"
  exact h
def Z2p:SpT:=fun ts Q=>∃(sun:List (Int×Tr)) (h:Int),ts=[.lst (sun.map sT),.int h]/\h.natAbs.log2 < 1920/\(match sunAt sun h with|some e=>Q (.bl (decide (e.2.2.2 > 0)))|none=>False)
theorem Z60:∀ts Q,Z2p ts Q->ts.length=2:=by rintro ts Q ⟨_,_,e,_⟩;subst e;rfl
def Z4G:WS :=
 (sRet (wCmp cGtT (w2 rIxTT (wCall Z0h (aCons (wVar 0) (aCons (wVar 1) aNil))) (wC (.int 2))) (wC (.int 0))))
theorem Z6m:∀ts Q,Z2p ts Q->Z4G {nx:=fun _=>Q .non,rt:=Q} (startT 2 ts):=by
 rintro _ Q ⟨rs,g,rfl,lg,h⟩
 unfold Z4G
 walk_at "go"
 refine⟨rs,g,rfl,lg,?_⟩
 cases q:sunAt rs g with
 | some r =>
  rw[q]at h
  walk_at "go"
  exact h
 | none=>rw[q]at h;exact h
abbrev dialAt(ds:List Th)(n:Str):Option Th:=ds.find? fun t=>decide (t.1=n)
def Z1T:SpT:=fun ts Q=>∃(s0 s1:T) (ds:List Th) (n:Str),ts=[.tup [s0,s1,.lst (ds.map thT)],.str n]/\SOk n/\(∀t∈ds,SOk t.1)/\(match dialAt ds n with|some d=>Q (thT d)|none=>False)
theorem Z5r:∀ts Q,Z1T ts Q->ts.length=2:=by rintro ts Q ⟨_,_,_,_,e,_⟩;subst e;rfl
def Z1I:WS :=
 (sIf (tCmpT cEqT (w2 rIxTT (wVar 2) (wC (.int 0))) (wVar 1)) (sRet (wVar 2)) sNext)
def Z2U:WS :=
 sNever
def Z3U:WS :=
 (sSeq (sIf (tVal (wIsi .str (wVar 1))) (sFor (iSeq (w2 rIxTT (wVar 0) (wC (.int 2)))) (gN 2) Z1I) sNext)
  Z2U)
theorem dof_loop{Q:T->Prop}{x:Slot}{n:Str}(hn:SOk n):∀(ds:List Th)(s2:Slot)(N:List Slot->Prop),(∀t∈ds,SOk t.1)->(match dialAt ds n with|some r=>Q (thT r)|none=>∀s2,N [x,.val (.str n),s2]) →
  forT (gN 2) (Z1I) (ds.map thT) {nx:=N,rt:=Q} [x,.val (.str n),s2]
 | [],s2,N,_,h=>by
  simp only[List.map,forT]
  exact h s2
 | r::rs,s2,N,hs,h=>by
  have hx:=hs r mcs
  have ih:=fun s2=>dof_loop (Q:=Q) (x:=x) hn rs s2 N fun t ht=>hs t (mcm _ ht)
  simp only[List.map,forT]
  generalize forT (gN 2) (Z1I) (rs.map thT) {nx:=N,rt:=Q}=F at ih ⊢
  unfold Z1I
  have key:(decide (r.1=n)=true->Q (thT r))/\(decide (r.1=n)=false->∀s2,F [x,.val (.str n),s2]):=by
   refine⟨fun c=>?_,fun c s2=>?_⟩
   ·have e:dialAt (r::rs) n=some r:=List.find?_cons_of_pos c
    rw[e]at h
    exact h
   ·have e:dialAt (r::rs) n=dialAt rs n:=List.find?_cons_of_neg (by rw[c];exact Bool.false_ne_true)
    rw[e]at h
    exact ih _ h
  obtain⟨xn,xp,xt⟩:=r
  cases xt <;>
  ·simp only[thT]at key ⊢
   walk_at "go"
   refine⟨eqOk_str hx hn,?_⟩
   rw[eqT_str]
   refine⟨fun c=>?_,fun c=>?_⟩
   ·have z:=key.1 c
    walk_at "go"
    exact z
   ·exact key.2 c _
theorem Z5Q:∀ts Q,Z1T ts Q->Z3U {nx:=fun _=>Q .non,rt:=Q} (startT 3 ts):=by
 rintro _ Q ⟨s0,s1,ds,n,rfl,hn,hs,h⟩
 unfold Z3U
 obtain⟨W0,hW0⟩:∃W,W=Z1I:=⟨_,rfl⟩
 obtain⟨W1,hW1⟩:∃W,W=Z2U:=⟨_,rfl⟩
 rw[← hW0,← hW1]
 walk_at "tw"
 rw[hW0]
 refine⟨fun _=>dof_loop hn ds _ _ hs ?_,fun z=>by cases z⟩
 cases q:dialAt ds n with
 | some r=>rw[q]at h;exact h
 | none =>
  rw[q]at h
  intro s2
  rw[hW1]
  unfold Z2U
  walk_at "go"
  exact h
theorem bth_ex5{A:List Pq}(hA:Rnd A)(L:Lined 8 A)(l5:A.length<=5):∃F,Bth A SQ F/\Prt 9 F:=by
 have nB:∀e∈edW SQ,e.1≠e.2:=fun e he=>sq_ne he
 have LC:=L.cuts (es:=edW SQ) fun e he=>⟨lin_SQ.ed e he,nB e he⟩
 have lc:=Sln.cuts (.inl ⟨hA.sc,hA.len⟩) nB
 rw[edW_len]at lc
 have l4:SQ.length=4:=rfl
 rcases hA.cuts rnd_SQ with ⟨R,k⟩|⟨_,k⟩
 ·obtain⟨C,D,e,R',lo⟩:=R.low
  refine⟨D++C,.inr ⟨R',lo,fun q=>by rw[← inq_rot,← e];exact k q⟩,⟨?_,?_,.inr ⟨R',lo⟩⟩⟩
  ·rw[e]at LC
   exact LC.rot
  ·rw[e]at lc
   simp at lc ⊢
   omega
 ·exact⟨[],.inl ⟨rfl,k⟩,prt_nil _⟩
theorem shd_ex{c s o c' s' o' d:Tr}(h:Szs c s o c' s' o' d):∃F,Shd (gg c s o c' s' o' d) F/\Prt 9 F:=by
 by_cases hp:∃z∈(gg c s o c' s' o' d).zs,0 < z.2
 ·obtain⟨L,_,c3⟩:=thrown_I h hp
  rcases c3 with ⟨hD,_⟩|⟨hD,hf,R,k⟩|⟨hD,hf,R,k⟩
  ·exact⟨[],.inl ⟨rfl,fun q _ z=>z.1 hD⟩,prt_nil _⟩
  ·obtain⟨F,b,p⟩:=bth_ex5 R L (thrown_len hD)
   exact⟨F,Shd.of hD hf k b,p⟩
  ·obtain⟨F,b,p⟩:=bth_ex5 R L.rev (by rw[List.length_reverse];exact thrown_len hD)
   exact⟨F,Shd.of hD hf k b,p⟩
 ·refine⟨[],below_I fun z mz=>?_,prt_nil _⟩
  exact Rat.not_lt.mp fun y=>hp ⟨z,mz,y⟩
open Classical in
noncomputable def shT(c s o c' s' o' d:Tr):List Pq:=if h:∃F,Shd (gg c s o c' s' o' d) F/\Prt 9 F then Classical.choose h else []
theorem shT_ok{c s o c' s' o' d:Tr}(h:Szs c s o c' s' o' d):Shd (gg c s o c' s' o' d) (shT c s o c' s' o' d)/\Prt 9 (shT c s o c' s' o' d):=by
 have ex:=shd_ex h
 unfold shT
 rw[dif_pos ex]
 exact Classical.choose_spec ex
theorem shaded_cal{c s o c' s' o' d:Tr}{Q:T->Prop}(h:Szs c s o c' s' o' d)(q:Q (pqL (shT c s o c' s' o' d))):Z0a [ptl c s o,ptl c' s' o',trT d] Q :=
 ⟨c,s,o,c',s',o',d,rfl,h,fun F hF _ _=>by rw[(shT_ok h).1.uniq hF];exact q⟩
abbrev SzP(f p:Pl)(d:Tr):Prop:=Szs f.1 f.2.1 f.2.2 p.1 p.2.1 p.2.2 d
noncomputable abbrev shP(f:Pl)(d:Tr)(p:Pl):List Pq:=shT f.1 f.2.1 f.2.2 p.1 p.2.1 p.2.2 d
abbrev nonN(A:List Pq):Bool:=!A.isEmpty
abbrev others(n:Str)(L:List Th):List Th:=L.filter fun t=>!decide (t.1=n)
theorem th_at1(t:Th):∃r,thT t=.tup (.str t.1::plT t.2.1::r):=by
 obtain⟨n,p,t⟩:=t
 cases t with
 | none=>exact⟨_,rfl⟩
 | some t=>exact⟨_,rfl⟩
def Z0I:SpT:=fun ts Q=>∃(s0:T) (f:Pl) (d:Tr) (n:Str) (tp:Option Tr) (ws ds:List Th),ts=[.tup [s0,.lst (ws.map thT),.lst (ds.map thT)],thT (n,f,tp),trT d]/\ws.length + ds.length<=20/\SOk n/\(∀t∈ws++ds,SOk t.1)/\(∀t∈others n (ws++ds),SzP f t.2.1 d)/\Q (.lst ((((others n (ws++ds)).map fun t=>shP f d t.2.1).filter nonN).map pqL))
theorem Z44:∀ts Q,Z0I ts Q->ts.length=3:=by rintro ts Q ⟨_,_,_,_,_,_,_,e,_⟩;subst e;rfl
def Z1Q:WE :=
 (wCall Z0a (aCons (w2 rIxTT (wVar 2) (wC (.int 1))) (aCons (w2 rIxTT (wVar 0) (wC (.int 1))) (aCons (wVar 1) aNil))))
def Z2l:WS :=
 (sSeq (sSet 3 (wComp (iSeq (w2 rCatLT (w2 rIxTT (wVar 0) (wC (.int 1))) (w2 rIxTT (wVar 0) (wC (.int 2))))) (gN 0) (tCmpT cNeT (w2 rIxTT (wVar 0) (wC (.int 0))) (w2 rIxTT (wVar 1) (wC (.int 0)))) (wVar 0) 1 [1]))
  (sSeq (sSet 4 (wComp (iSeq (wVar 3)) (gN 0) tTrue Z1Q 1 [2,1]))
  (sRet (wComp (iSeq (wVar 4)) (gN 0) (tTruT (wVar 0)) (wVar 0) 1 []))))
theorem comp_filt{α:Type}{f g:α->T}{W:WE}{V:WT}{E:List Slot}{p:α->Bool}:∀(l:List α)(acc:List T)(x:Slot)(Q:List T->Prop),(∀a∈l,∀Q:Bool->Prop,Q (p a)->V (.val (f a)::E) Q)->(∀a∈l,p a=true->∀Q:T->Prop,Q (g a)->W (.val (f a)::E) Q)->Q (acc++(l.filter p).map g)->compT (gN 0) V W (l.map f) acc (x::E) Q
 | [],acc,x,Q,_,_,h=>by
  simp only[List.filter_nil,List.map_nil,List.append_nil]at h
  simp only[List.map,compT]
  exact h
 | a::l,acc,x,Q,hV,hW,h=>by
  have i1:=fun acc=>comp_filt (f:=f) (g:=g) (W:=W) (V:=V) (E:=E) (p:=p) l acc (.val (f a)) Q (fun b hb=>hV b (mcm _ hb)) (fun b hb=>hW b (mcm _ hb))
  simp only[List.map,compT]
  show V (.val (f a)::E) _
  refine hV a mcs _ ?_
  cases e:p a with
  | true =>
   refine⟨fun _=>hW a mcs e _ (i1 _ ?_),fun z=>by cases z⟩
   simpa [List.filter_cons,e] using h
  | false =>
   refine⟨(fun z=>by cases z),fun _=>i1 _ ?_⟩
   simpa [List.filter_cons,e] using h
theorem Z4d:∀ts Q,Z0I ts Q->Z2l {nx:=fun _=>Q .non,rt:=Q} (startT 5 ts):=by
 rintro _ Q ⟨s0,f,d,n,tp,ws,ds,rfl,hlen,sn,sk,sz,q⟩
 obtain⟨r0,e0⟩:=th_at1 (n,f,tp)
 simp only at e0
 rw[e0]
 obtain⟨G,eG⟩:∃G:Th->List Pq,∀t,G t=shP f d t.2.1:=⟨_,fun _=>rfl⟩
 have cs:∀t∈others n (ws++ds),∀{R:T->Prop},R (pqL (G t))->Z0a [plT f,plT t.2.1,trT d] R:=fun t ht R hR=>by
  rw[eG]at hR
  exact shaded_cal (sz t ht) hR
 have q:Q (.lst ((((others n (ws++ds)).map G).filter nonN).map pqL)):=by
  have:((others n (ws++ds)).map fun t=>shP f d t.2.1)=(others n (ws++ds)).map G:=List.map_congr_left fun t _=>(eG t).symm
  rw[← this]
  exact q
 clear sz eG
 unfold others at cs q
 have f1:((ws++ds).filter fun t=>!decide (t.1=n)).length<=100:=by
  have:=List.length_filter_le (fun t:Th=>!decide (t.1=n)) (ws++ds)
  rw[List.length_append]at this
  omega
 unfold Z2l
 obtain⟨W0,hW0⟩:∃W,W=Z1Q:=⟨_,rfl⟩
 rw[← hW0]
 walk_at "tw"
 refine⟨by rw[List.length_map,List.length_map];omega,by rw[List.length_append,List.length_map,List.length_map];omega,?_⟩
 rw[← List.map_append]
 refine comp_filt (p:=fun t:Th=>!decide (t.1=n)) (g:=thT) (ws++ds) [] _ _ (fun t ht R hR=>?_) (fun t ht _ R hR=>hR) ?_
 ·obtain⟨r,e⟩:=th_at1 t
  rw[e]
  have ok:=eqOk_str (sk t ht) sn
  have:=eqT_str t.1 n
  walk_at "tw"
  refine⟨ok,?_⟩
  rw[this]
  exact hR
 rw[List.nil_append]
 refine⟨by rw[List.length_map];omega,?_⟩
 rw[hW0]
 generalize hO:((ws++ds).filter fun t=>!decide (t.1=n))=O at *
 refine comp_map (g:=fun t=>pqL (G t)) O [] _ _ (fun t ht R hR=>?_) ?_
 ·obtain⟨r,e1⟩:=th_at1 t
  have c1:=cs t ht hR
  obtain⟨SS,hSS⟩:∃S,S=Z0a:=⟨_,rfl⟩
  rw[e1]
  unfold Z1Q
  rw[← hSS]at c1 ⊢
  walk_at "tw"
  exact c1
 rw[List.nil_append]
 refine⟨by rw[List.length_map];omega,?_⟩
 have em:(O.map fun t=>pqL (G t))=(O.map G).map pqL:=by rw[List.map_map];rfl
 rw[em]
 refine comp_filt (p:=nonN) (g:=pqL) (O.map G) [] _ _ (fun b hb R hR=>?_) (fun b hb _ R hR=>hR) ?_
 ·have:nonN b=!(b.map pq).isEmpty:=by cases b<;>rfl
  rw[this]at hR
  exact hR
 rw[List.nil_append]
 exact q
theorem joint_cal{ps:List (List Pq)}{Q:T->Prop}(hl:ps.length<=3)(hp:∀p∈ps,Prt 9 p)(q:Bq 1982 (jnS ps)->Q (fq (jnS ps))):Z1e [.lst (ps.map pqL)] Q:=by
 match ps,hl,hp,q with
 | [],_,_,q=>exact .inl ⟨rfl,q ((bq_int (k:=1) (n:=0) (Lim.of (by decide) (by decide)) (by decide)).mono (by decide))⟩
 | [A],_,hp,q =>
  have a:=hp A (by simp)
  exact .inr (.inl ⟨by decide,9,A,rfl,a,by decide,q ((share_bq a (by decide)).mono (by decide))⟩)
 | [A,B],_,hp,q =>
  have a:=hp A (by simp)
  have b:=hp B (by simp)
  exact .inr (.inr (.inl ⟨by decide,9,18,A,B,rfl,a,b,b.bt a,by decide,by decide,q (((share_bq a (by decide)).add ((share_bq b (by decide)).sub (share_bq (b.bt a) (by decide)))).mono (by decide))⟩))
 | [A,B,C],_,hp,q =>
  have a:=hp A (by simp)
  have b:=hp B (by simp)
  have c:=hp C (by simp)
  have cc:Prt 27 (bt (bt C B) (bt C A)):=by
   rw[bt_three a b c]
   exact(a.bt b).bt c
  have g1:=(share_bq a (by decide)).add ((share_bq b (by decide)).sub (share_bq (b.bt a) (by decide)))
  have g2:=(share_bq (c.bt a) (by decide)).add ((share_bq (c.bt b) (by decide)).sub (share_bq cc (by decide)))
  exact .inr (.inr (.inr ⟨by decide,A,B,C,rfl,a,b,c,q ((g1.add ((share_bq c (by decide)).sub g2)).mono (by decide))⟩))
 | _::_::_::_::_,hl,_,_=>simp at hl
abbrev c_MOST_SHADING:T:=.int 6
abbrev yardT(sun:List (Int×Tr))(ws ds:List Th):T:=.tup [.lst (sun.map sT),.lst (ws.map thT),.lst (ds.map thT)]
noncomputable abbrev prts(f:Pl)(d:Tr)(n:Str)(L:List Th):List (List Pq):=((others n L).map fun t=>shP f d t.2.1).filter nonN
def Z06:SpT:=fun ts Q=>∃(sun:List (Int×Tr)) (ws ds:List Th) (h:Int) (n:Str) (e:Int×Tr) (f:Pl) (tp:Option Tr),ts=[yardT sun ws ds,.int h,.str n]/\SOk n/\(∀t∈ws++ds,SOk t.1)/\h.natAbs.log2 < 1920/\sunAt sun h=some e/\dialAt ds n=some (n,f,tp)/\LimT 50 e.2/\LimT 50 f.2.1/\LimT 50 f.2.2/\ws.length + ds.length<=20 ∧
 ((0 < e.2.2.2/\0 < dotI (crs f.2.1 f.2.2) e.2)->(∀t∈others n (ws++ds),SzP f t.2.1 e.2)/\(others n (ws++ds)).length<=3/\(Bq 1985 (1 - jnS (prts f e.2 n (ws++ds)))->Q (fq (1 - jnS (prts f e.2 n (ws++ds)))))) ∧
 (¬ (0 < e.2.2.2/\0 < dotI (crs f.2.1 f.2.2) e.2)->Q (fq 0))
theorem Z4H:∀ts Q,Z06 ts Q->ts.length=3:=by rintro ts Q ⟨_,_,_,_,_,_,_,_,e,_⟩;subst e;rfl
def Z3c:WS :=
 (sSeq (sSet 3 (wCall Z0h (aCons (w2 rIxTT (wVar 0) (wC (.int 0))) (aCons (wVar 1) aNil))))
  (sSeq (sSet 4 (wCall Z1T (aCons (wVar 0) (aCons (wVar 2) aNil))))
  (sSeq (sIf (tOrT (tNotT (tVal (wCall Z2p (aCons (w2 rIxTT (wVar 0) (wC (.int 0))) (aCons (wVar 1) aNil))))) (tNotT (tVal (wCall Z0g (aCons (w2 rIxTT (wVar 4) (wC (.int 1))) (aCons (wVar 3) aNil)))))) (sRet (wTup (aCons (wC (.int 0)) (aCons (wC (.int 1)) aNil)))) sNext)
  (sSeq (sSet 5 (wCall Z0I (aCons (wVar 0) (aCons (wVar 4) (aCons (wVar 3) aNil)))))
  (sSeq (sIf (tCmpT cGtT (wCB rLenT (aCons (wVar 5) aNil)) (wC c_MOST_SHADING)) sNever sNext)
  (sRet (wCall Z00 (aCons (wTup (aCons (wC (.int 1)) (aCons (wC (.int 1)) aNil))) (aCons (wCall Z1e (aCons (wVar 5) aNil)) aNil)))))))))
theorem Z59:∀ts Q,Z06 ts Q->Z3c {nx:=fun _=>Q .non,rt:=Q} (startT 6 ts):=by
 rintro _ Q ⟨sun,ws,ds,h,n,e,p,tp,rfl,sn,sk,lh,es,ed,le,lp1,lp2,hlen,h1,h2⟩
 unfold Z3c
 obtain⟨SJ,hSJ⟩:∃S,S=Z1e:=⟨_,rfl⟩
 obtain⟨SL,hSL⟩:∃S,S=Z00:=⟨_,rfl⟩
 obtain⟨SP,hSP⟩:∃S,S=Z0I:=⟨_,rfl⟩
 obtain⟨SA,hSA⟩:∃S,S=Z0g:=⟨_,rfl⟩
 obtain⟨SU,hSU⟩:∃S,S=Z2p:=⟨_,rfl⟩
 obtain⟨SD,hSD⟩:∃S,S=Z0h:=⟨_,rfl⟩
 obtain⟨SO,hSO⟩:∃S,S=Z1T:=⟨_,rfl⟩
 rw[← hSJ,← hSL,← hSP,← hSA,← hSU,← hSD,← hSO]
 obtain⟨r,et⟩:∃r,thT (n,p,tp)=.tup r:=by cases tp<;>exact⟨_,rfl⟩
 have e1:atI r 1=some (plT p):=by cases tp<;>(simp only[thT,T.tup.injEq]at et;subst et;rfl)
 have cD:∀{Q:T->Prop},Q (trT e.2)->SD [.lst (sun.map sT),.int h] Q:=fun q=>by rw[hSD];exact⟨sun,h,rfl,lh,by rw[es];exact q⟩
 have up:∀{Q:T->Prop},Q (.bl (decide (e.2.2.2 > 0)))->SU [.lst (sun.map sT),.int h] Q:=fun q=>by rw[hSU];exact⟨sun,h,rfl,lh,by rw[es];exact q⟩
 have cO:∀{Q:T->Prop},Q (.tup r)->SO [yardT sun ws ds,.str n] Q:=fun q=>by rw[hSO];exact⟨_,_,ds,n,rfl,sn,fun t ht=>sk t (List.mem_append_right _ ht),by rw[ed,← et] at *;exact q⟩
 have ca:∀{Q:T->Prop},Q (.bl (decide (0 < dotI (crs p.2.1 p.2.2) e.2)))->SA [plT p,trT e.2] Q:=fun q=>by
  rw[hSA]
  exact⟨_,_,_,_,rfl,⟨lp1,lp2,le.mono (by decide)⟩,q⟩
 walk_at "go"
 refine cD ?_
 walk_at "go"
 refine cO ?_
 walk_at "go"
 refine up ?_
 by_cases z:0 < e.2.2.2
 ·rw[show decide (e.2.2.2 > 0)=true from decide_eq_true z]
  walk_at "go"
  rw[e1]
  refine ca ?_
  by_cases z2:0 < dotI (crs p.2.1 p.2.2) e.2
  ·rw[decide_eq_true z2]
   obtain⟨sz,l3,q⟩:=h1 ⟨z,z2⟩
   have hp:∀A∈prts p e.2 n (ws++ds),Prt 9 A:=fun A hA=>by
    obtain⟨t,ht,rfl⟩:=List.mem_map.mp (List.mem_filter.mp hA).1
    exact(shT_ok (sz t ht)).2
   have lp:(prts p e.2 n (ws++ds)).length<=3:=by
    have:=List.length_filter_le nonN ((others n (ws++ds)).map fun t=>shP p e.2 t.2.1)
    rw[List.length_map]at this
    show (List.filter nonN _).length<=3
    omega
   have cP:∀{Q:T->Prop},Q (.lst ((prts p e.2 n (ws++ds)).map pqL))->SP [yardT sun ws ds,.tup r,trT e.2] Q:=fun q=>by
    rw[hSP,← et]
    exact⟨_,p,e.2,n,tp,ws,ds,rfl,hlen,sn,sk,sz,q⟩
   generalize prts p e.2 n (ws++ds)=ps at *
   have cJ:∀{Q:T->Prop},(Bq 1982 (jnS ps)->Q (fq (jnS ps)))->SJ [.lst (ps.map pqL)] Q:=fun q=>by rw[hSJ];exact joint_cal lp hp q
   have b1:Bq 1 (1:Rat):=bq_int (n:=1) (Lim.of (by decide) (by decide)) (by decide)
   walk_at "go"
   refine cP ?_
   have lm:(ps.map pqL).length<=3:=by rw[List.length_map];exact lp
   generalize ps.map pqL=us at *
   walk_at "go"
   refine⟨fun c=>?_,fun c=>?_⟩
   ·have:(us.length:Int) > 6:=of_decide_eq_true c
    omega
   walk_at "go"
   refine cJ fun bj=>?_
   rw[fq1,hSL]
   exact less_wd b1.bw bj.bw (by decide) (q ((b1.sub bj).mono (by decide)))
  ·rw[decide_eq_false z2]
   have q:=h2 fun y=>z2 y.2
   walk_at "go"
   rw[fq0]
   exact q
 ·rw[show decide (e.2.2.2 > 0)=false from decide_eq_false z]
  have q:=h2 fun y=>z y.1
  walk_at "go"
  rw[fq0]
  exact q
def Z09:SpT:=fun ts Q=>∃(c k many:Int),ts=[.int c,.int k,.int many]/\0<=k/\k<=1000/\1<=many/\many<=10 ^ 12/\∀r:Int,0<=r->r < many->Q (.int r)
theorem Z6n:∀ts Q,Z09 ts Q->ts.length=3:=by rintro ts Q ⟨_,_,_,e,_⟩;subst e;rfl
def Z2C:WS :=
 (sSet 4 (w2 rDivT (wVar 4) (w2 rPowT (wC (.int 10)) (wC (.int 10)))))
def Z2D:WS :=
 (sSeq (sSet 3 (w2 rModT (w2 rMulT (w2 rAddT (w2 rAddT (w2 rAddT (w2 rModT (wVar 0) (wC (.int 2147483647))) (w2 rMulT (w2 rMulT (wC (.int 7919)) (wVar 1)) (wVar 1))) (w2 rMulT (wC (.int 31)) (wVar 1))) (wC (.int 1))) (wC (.int 48271))) (wC (.int 2147483647))))
  (sSeq (sSet 3 (w2 rModT (w2 rAddT (w2 rAddT (w2 rMulT (wVar 3) (wVar 3)) (w2 rMulT (wC (.int 69621)) (wVar 1))) (wC (.int 7))) (wC (.int 2147483629))))
  (sRet (w2 rModT (w2 rModT (w2 rMulT (wVar 3) (wVar 3)) (wC (.int 2147483587))) (wVar 2)))))
def Z5s:WS :=
 (sSeq (sIf (tCmpT cGeT (wVar 0) (w2 rPowT (wC (.int 10)) (wC (.int 18)))) (sSeq (sSet 4 (wVar 0))
  (sSeq (sFor (iRange1 (aCons (wVar 1) aNil)) (gN 5) Z2C)
  (sIf (tCmpT cGtT (wVar 4) (wC (.int 0))) (sRet (w2 rModT (w2 rModT (wVar 4) (w2 rPowT (wC (.int 10)) (wC (.int 10)))) (wVar 2))) sNext))) sNext)
  Z2D)
theorem draw_loop{D:DT}{c k many:Int}{s3:Slot}:∀(n:Nat)(lo v:Int)(s5:Slot),(∀v s5,D.nx [.val (.int c),.val (.int k),.val (.int many),s3,.val (.int v),s5]) →
  forT (gN 5) Z2C (rangeT lo n) D [.val (.int c),.val (.int k),.val (.int many),s3,.val (.int v),s5]
 | 0,lo,v,s5,h=>by
  simp only[rangeT,forT]
  exact h _ _
 | n + 1,lo,v,s5,h=>by
  have ih:=fun v s5=>draw_loop (D:=D) (c:=c) (k:=k) (many:=many) (s3:=s3) n (lo + 1) v s5 h
  have cp:=cpow10 10 (by decide)
  have dv:DivOk (10 ^ Int.toNat 10):=divOk (by decide) (Lim.of (n:=11) (by decide) (by decide))
  simp only[rangeT,forT]
  generalize forT (gN 5) Z2C (rangeT (lo + 1) n) D=F at ih ⊢
  unfold Z2C
  walk_at "go"
  exact ih _ _
theorem draw_k0{Q:T->Prop}{c k many:Int}{s3 s4 s5:Slot}(h0:0<=k)(h1:k<=1000)(m0:1<=many)(h:∀r:Int,0<=r->r < many->Q (.int r)):Z2D {nx:=fun _=>Q .non,rt:=Q} [.val (.int c),.val (.int k),.val (.int many),s3,s4,s5]:=by
 have lk:Lim 4 k:=Lim.of (by omega) (by omega)
 have l7:Lim 4 (7919:Int):=Lim.of (by decide) (by decide)
 have l31:Lim 2 (31:Int):=Lim.of (by decide) (by decide)
 have l48:Lim 5 (48271:Int):=Lim.of (by decide) (by decide)
 have l69:Lim 5 (69621:Int):=Lim.of (by decide) (by decide)
 have f1:=fmod_pos c (b:=2147483647) (by decide)
 have a1:=(l7.mul lk).mul lk
 have a2:=l31.mul lk
 have a3:Lim 14 (c.fmod 2147483647 + 7919 * k * k + 31 * k + 1):=by
  have:=a1.bd
  have:=a2.bd
  exact Lim.of (by omega) (by omega)
 unfold Z2D
 walk_at "go"
 refine⟨mulOk (l7.mul lk) lk,mulOk l31 lk,mulOk a3 l48,by decide,?_⟩
 generalize ((c.fmod 2147483647 + 7919 * k * k + 31 * k + 1) * 48271)=u
 have f2:=fmod_pos u (b:=2147483647) (by decide)
 have a4:Lim 10 (u.fmod 2147483647):=Lim.of (by omega) (by omega)
 walk_at "go"
 generalize (u.fmod 2147483647 * u.fmod 2147483647 + 69621 * k + 7)=v
 have f3:=fmod_pos v (b:=2147483629) (by decide)
 have a5:Lim 10 (v.fmod 2147483629):=Lim.of (by omega) (by omega)
 walk_at "go"
 refine⟨by omega,?_⟩
 generalize ((v.fmod 2147483629 * v.fmod 2147483629).fmod 2147483587)=x
 have f4:=fmod_pos x (b:=many) (by omega)
 exact h _ f4.1 f4.2
theorem Z6E:∀ts Q,Z09 ts Q->Z5s {nx:=fun _=>Q .non,rt:=Q} (startT 6 ts):=by
 rintro _ Q ⟨c,k,many,rfl,h0,h1,m0,m1,h⟩
 have cp:=cpow10 10 (by decide)
 have cp18:=cpow10 18 (by decide)
 have fin:∀s3 s4 s5:Slot,Z2D {nx:=fun _=>Q .non,rt:=Q} [.val (.int c),.val (.int k),.val (.int many),s3,s4,s5]:=fun s3 s4 s5=>draw_k0 h0 h1 m0 h
 unfold Z5s
 obtain⟨W0,hW0⟩:∃W,W=Z2C:=⟨_,rfl⟩
 obtain⟨W1,hW1⟩:∃W,W=Z2D:=⟨_,rfl⟩
 rw[← hW0,← hW1]
 rw[← hW1]at fin
 walk_at "go"
 refine⟨fun _=>?_,fun _=>fin _ _ _⟩
 walk_at "go"
 refine⟨by omega,?_⟩
 rw[hW0]
 refine draw_loop _ _ _ _ fun v s5=>?_
 walk_at "go"
 refine⟨fun _=>?_,fun _=>fin _ _ _⟩
 walk_at "go"
 refine⟨by omega,?_⟩
 have f4:=fmod_pos (v.fmod (10 ^ Int.toNat 10)) (b:=many) (by omega)
 exact h _ f4.1 f4.2
def Z45:SpT:=fun ts Q=>∃a b:Int,ts=[.int a,.int b]/\0 < b/\Lim 2000 b/\Q (fr a b)
theorem Z6F:∀ts Q,Z45 ts Q->ts.length=2:=by rintro ts Q ⟨_,_,e,_⟩;subst e;rfl
def Z5g:WS :=
 (sPar 2 3 (aCons (wVar 3) (aCons (w2 rModT (wVar 2) (wVar 3)) aNil)))
def Z61:WS :=
 (sSeq (sSet 2 (wCB rAbsT (aCons (wVar 0) aNil)))
  (sSeq (sSet 3 (wVar 1))
  (sSeq (sWhile (tCmpT cNeT (wVar 3) (wC (.int 0))) Z5g)
  (sRet (wTup (aCons (w2 rDivT (wVar 0) (wVar 2)) (aCons (w2 rDivT (wVar 1) (wVar 2)) aNil)))))))
theorem abs_ite3(a:Int):(if a < 0 then -a else a)=(a.natAbs:Int):=by split<;>omega
theorem Z6S:∀ts Q,Z45 ts Q->Z61 {nx:=fun _=>Q .non,rt:=Q} (startT 4 ts):=by
 rintro _ Q ⟨a,b,rfl,hb,lb,h⟩
 have g0:0 < Int.gcd a b:=Int.gcd_pos_iff.mpr (Or.inr (by omega))
 have gl:(Int.gcd a b:Int).natAbs<=b.natAbs:=by
  have d:=Int.gcd_dvd_right a b
  have:=Int.natAbs_dvd_natAbs.mpr d
  exact Nat.le_of_dvd (by omega) this
 have dv:DivOk (Int.gcd a b:Int):=divOk (by omega) (lb.le gl)
 unfold Z61
 walk_at "tw"
 refine⟨fun m τ=>∃x y:Int,τ=[.val (.int a),.val (.int b),.val (.int x),.val (.int y)]/\0<=x/\0<=y/\Int.gcd x y=Int.gcd a b/\m=y.natAbs,⟨_,_,_,rfl,?_,?_,?_,rfl⟩,?_⟩
 ·rw[abs_ite3];omega
 ·omega
 ·rw[abs_ite3];simp[Int.gcd]
 rintro m τ ⟨x,y,rfl,hx,hy,hg,rfl⟩
 unfold Z5g
 walk_at "tw"
 refine⟨fun c=>?_,fun c=>?_⟩
 ·have c':y≠0:=by simpa using c
  have f:=fmod_pos x (b:=y) (by omega)
  exact⟨c',_,fmod_abs_lt x c',_,_,rfl,by omega,f.1,by rw[gcd_step];exact hg,rfl⟩
 ·have e:y=0:=by simpa using c
  subst e
  rw[Int.gcd_zero_right]at hg
  have hx':x=(Int.gcd a b:Int):=by omega
  subst hx'
  unfold fr frN frD frG at h
  rw[if_neg (by omega)]at h
  exact⟨dv,dv,h⟩
def Z3d:SpT:=fun ts Q=>∃a b c d:Int,ts=[fr a b,fr c d]/\Twd a b c d/\Q (fr (a * d + c * b) (b * d))
theorem Z6G:∀ts Q,Z3d ts Q->ts.length=2:=by rintro ts Q ⟨_,_,_,_,e,_⟩;subst e;rfl
def Z62:WS :=
 (sRet (wCall Z45 (aCons (w2 rAddT (w2 rMulT (w2 rIxTT (wVar 0) (wC (.int 0))) (w2 rIxTT (wVar 1) (wC (.int 1)))) (w2 rMulT (w2 rIxTT (wVar 1) (wC (.int 0))) (w2 rIxTT (wVar 0) (wC (.int 1))))) (aCons (w2 rMulT (w2 rIxTT (wVar 0) (wC (.int 1))) (w2 rIxTT (wVar 1) (wC (.int 1)))) aNil))))
theorem Z6T:∀ts Q,Z3d ts Q->Z62 {nx:=fun _=>Q .non,rt:=Q} (startT 2 ts):=by
 rintro _ Q ⟨a,b,c,d,rfl,⟨hb,hd,la,j,k,lb,lc,ld,hjk⟩,h⟩
 rw[← fr_sum hb hd]at h
 have q:=Int.mul_pos (frD_pos (n:=a) hb) (frD_pos (n:=c) hd)
 have la:=frN_lim hb la
 have lb:=frD_lim (n:=a) hb lb
 have lc:=frN_lim hd lc
 have ld:=frD_lim (n:=c) hd ld
 unfold Z62 fr
 walk_at "tw"
 exact⟨mulOk la ld (by decide) (by omega),mulOk lc lb (by decide) (by omega),mulOk lb ld (by omega) (by omega),_,_,rfl,q,(lb.mul ld).mono hjk,h⟩
theorem add_wd{j k:Nat}{a b:Rat}{Q:T->Prop}(ha:Bw j a)(hb:Bw k b)(hjk:j + k<=2000)(q:Q (fq (a + b))):Z3d [fq a,fq b] Q :=
 ⟨_,_,_,_,by rw[fq_fr a,fq_fr b],bw_two ha hb hjk,by rw[fq_add];exact q⟩
theorem num_le{a b:Rat}:a.num * (b.den:Int) < b.num * (a.den:Int) ↔ a < b:=by
 rw[Rat.lt_iff]
def Z2q:SpT:=fun ts Q=>∃a b:Rat,ts=[fq a,fq b]/\Bq 5000 a/\Bq 5000 b/\Q (.bl (decide (a < b)))
theorem Z63:∀ts Q,Z2q ts Q->ts.length=2:=by rintro ts Q ⟨_,_,e,_⟩;subst e;rfl
def Z4I:WS :=
 (sRet (wCmp cLtT (w2 rMulT (w2 rIxTT (wVar 0) (wC (.int 0))) (w2 rIxTT (wVar 1) (wC (.int 1)))) (w2 rMulT (w2 rIxTT (wVar 1) (wC (.int 0))) (w2 rIxTT (wVar 0) (wC (.int 1))))))
theorem Z6o:∀ts Q,Z2q ts Q->Z4I {nx:=fun _=>Q .non,rt:=Q} (startT 2 ts):=by
 rintro _ Q ⟨a,b,rfl,ha,hb,q⟩
 unfold Z4I fq
 walk_at "tw"
 refine⟨mulOk ha.1 hb.2,mulOk hb.1 ha.2,?_⟩
 rw[show decide (a.num * (b.den:Int) < b.num * (a.den:Int))=decide (a < b) from decide_eq_decide.mpr num_le]
 exact q
abbrev Wi(b i:Int):Prop:=-b<=i/\i<=b
abbrev WiT(b:Int)(t:Tr):Prop:=Wi b t.1/\Wi b t.2.1/\Wi b t.2.2
abbrev E9:Int:=60
theorem wi_lim{b i:Int}(h:Wi b i)(hb:b<=1000000000000):Lim 13 i:=Lim.of (by have:=h.1;show -10000000000000 < i;omega) (by have:=h.2;show i < 10000000000000;omega)
theorem wiT_lim{b:Int}{t:Tr}(h:WiT b t)(hb:b<=1000000000000):LimT 13 t:=⟨wi_lim h.1 hb,wi_lim h.2.1 hb,wi_lim h.2.2 hb⟩
theorem wi_up{b c:Int}{t:Tr}(h:WiT b t)(hb:b<=c):WiT c t:=by
 obtain⟨⟨a1,a2⟩,⟨b1,b2⟩,c1,c2⟩:=h
 exact⟨⟨by omega,by omega⟩,⟨by omega,by omega⟩,by omega,by omega⟩
def Z1R:SpT:=fun ts Q=>∃c k:Int,ts=[.int c,.int k]/\0<=k/\k<=400/\∀r:Int,Wi E9 r->Q (.int r)
theorem Z5R:∀ts Q,Z1R ts Q->ts.length=2:=by rintro ts Q ⟨_,_,e,_⟩;subst e;rfl
def Z4e:WS :=
 (sSeq (sSet 2 (wCall Z09 (aCons (wVar 0) (aCons (w2 rMulT (wC (.int 2)) (wVar 1)) (aCons (wC (.int 8)) aNil)))))
  (sSeq (sIf (tCmpT cLtT (wVar 2) (wC (.int 5))) (sRet (w2 rSubT (wCall Z09 (aCons (wVar 0) (aCons (w2 rAddT (w2 rMulT (wC (.int 2)) (wVar 1)) (wC (.int 1))) (aCons (wC (.int 9)) aNil)))) (wC (.int 4)))) sNext)
  (sSeq (sIf (tCmpT cLtT (wVar 2) (wC (.int 7))) (sRet (w2 rSubT (wCall Z09 (aCons (wVar 0) (aCons (w2 rAddT (w2 rMulT (wC (.int 2)) (wVar 1)) (wC (.int 1))) (aCons (wC (.int 61)) aNil)))) (wC (.int 30)))) sNext)
  (sRet (w2 rMulT (w2 rIxTT (wLst (aCons (wC (.int 1)) (aCons (wNeg (wC (.int 1))) aNil))) (wCall Z09 (aCons (wVar 0) (aCons (w2 rAddT (w2 rMulT (wC (.int 2)) (wVar 1)) (wC (.int 1))) (aCons (wC (.int 2)) aNil))))) (w2 rSubT (wC (.int 60)) (w2 rDivT (wCall Z09 (aCons (wVar 0) (aCons (w2 rMulT (wC (.int 2)) (wVar 1)) (aCons (wC (.int 64)) aNil)))) (wC (.int 8)))))))))
theorem Z64:∀ts Q,Z1R ts Q->Z4e {nx:=fun _=>Q .non,rt:=Q} (startT 3 ts):=by
 rintro _ Q ⟨c,k,rfl,h0,h1,h⟩
 have l2:Lim 1 (2:Int):=Lim.of (by decide) (by decide)
 have lk:Lim 3 k:=Lim.of (by omega) (by omega)
 have d8:DivOk (8:Int):=divOk (by decide) (Lim.of (n:=1) (by decide) (by decide))
 unfold Z4e
 walk_at "go"
 refine⟨c,2 * k,8,rfl,by omega,by omega,by decide,by decide,fun r r0 r1=>?_⟩
 walk_at "go"
 refine⟨fun z=>?_,fun z=>?_⟩
 ·walk_at "go"
  refine⟨c,2 * k + 1,9,rfl,by omega,by omega,by decide,by decide,fun x x0 x1=>?_⟩
  exact h _ ⟨by show -60<=x - 4;omega,by show x - 4<=60;omega⟩
 ·walk_at "go"
  refine⟨fun z=>?_,fun z=>?_⟩
  ·walk_at "go"
   refine⟨c,2 * k + 1,61,rfl,by omega,by omega,by decide,by decide,fun x x0 x1=>?_⟩
   exact h _ ⟨by show -60<=x - 30;omega,by show x - 30<=60;omega⟩
  ·walk_at "go"
   refine⟨c,2 * k + 1,2,rfl,by omega,by omega,by decide,by decide,fun x x0 x1=>?_⟩
   have hx:x=0∨x=1:=by omega
   have fin:∀u:Int,Lim 1 u->(u=1∨u=-1)->(∃a b d:Int,[T.int c,T.int (2 * k),T.int 64]=[.int a,.int b,.int d]/\0<=b/\b<=1000/\1<=d/\d<=10 ^ 12/\∀r:Int,0<=r->r < d->DivOk (8:Int)/\MulOk u (60 - r.fdiv 8)/\Q (.int (u * (60 - r.fdiv 8)))):=fun u lu hu=>by
    refine⟨c,2 * k,64,rfl,by omega,by omega,by decide,by decide,fun y y0 y1=>?_⟩
    have e:y.fdiv 8=y / 8:=Int.fdiv_eq_ediv_of_nonneg _ (by decide)
    have p9:(60:Int)=60:=rfl
    refine⟨d8,mulOkL (lu.mono (by decide)),h _ ?_⟩
    rw[e]
    rcases hu with rfl|rfl
    ·exact⟨by show -60<=_;omega,by show _<=(60:Int);omega⟩
    ·exact⟨by show -60<=_;omega,by show _<=(60:Int);omega⟩
   rcases hx with rfl|rfl
   ·walk_at "go"
    exact fin 1 (Lim.of (by decide) (by decide)) (.inl rfl)
   ·walk_at "go"
    exact fin (-1) (Lim.of (by decide) (by decide)) (.inr rfl)
def Z0P:SpT:=fun ts Q=>∃c k:Int,ts=[.int c,.int k]/\0<=k/\k<=300/\∀t:Tr,WiT E9 t->Q (trT t)
theorem Z5S:∀ts Q,Z0P ts Q->ts.length=2:=by rintro ts Q ⟨_,_,e,_⟩;subst e;rfl
def Z4f:WS :=
 (sRet (wTup (aCons (wCall Z1R (aCons (wVar 0) (aCons (wVar 1) aNil))) (aCons (wCall Z1R (aCons (wVar 0) (aCons (w2 rAddT (wVar 1) (wC (.int 1))) aNil))) (aCons (wCall Z1R (aCons (wVar 0) (aCons (w2 rAddT (wVar 1) (wC (.int 2))) aNil))) aNil)))))
theorem Z65:∀ts Q,Z0P ts Q->Z4f {nx:=fun _=>Q .non,rt:=Q} (startT 2 ts):=by
 rintro _ Q ⟨c,k,rfl,h0,h1,h⟩
 unfold Z4f
 walk_at "go"
 refine⟨c,k,rfl,h0,by omega,fun x hx=>?_⟩
 walk_at "go"
 refine⟨c,k + 1,rfl,by omega,by omega,fun y hy=>?_⟩
 walk_at "go"
 refine⟨c,k + 2,rfl,by omega,by omega,fun z hz=>?_⟩
 walk_at "go"
 exact h (x,y,z) ⟨hx,hy,hz⟩
def Z0d:SpT:=fun ts Q=>∃a b:Tr,ts=[trT a,trT b]/\LimT 100 a/\LimT 100 b/\Q (trT (crs a b))
theorem Z66:∀ts Q,Z0d ts Q->ts.length=2:=by rintro ts Q ⟨_,_,e,_⟩;subst e;rfl
def Z4J:WS :=
 (sSeq (sAsg (gT 3 (gsC (gN 2) (gsC (gN 3) (gsC (gN 4) gs0)))) (wVar 0))
  (sSeq (sAsg (gT 3 (gsC (gN 5) (gsC (gN 6) (gsC (gN 7) gs0)))) (wVar 1))
  (sRet (wTup (aCons (w2 rSubT (w2 rMulT (wVar 3) (wVar 7)) (w2 rMulT (wVar 4) (wVar 6))) (aCons (w2 rSubT (w2 rMulT (wVar 4) (wVar 5)) (w2 rMulT (wVar 2) (wVar 7))) (aCons (w2 rSubT (w2 rMulT (wVar 2) (wVar 6)) (w2 rMulT (wVar 3) (wVar 5))) aNil)))))))
theorem Z6p:∀ts Q,Z0d ts Q->Z4J {nx:=fun _=>Q .non,rt:=Q} (startT 8 ts):=by
 rintro _ Q ⟨a,b,rfl,⟨a1,a2,a3⟩,⟨b1,b2,b3⟩,h⟩
 unfold Z4J
 walk_at "go"
 exact h
def Z2f:SpT:=fun ts Q=>∃a b:Tr,ts=[trT a,trT b]/\LimT 100 a/\LimT 100 b/\Q (.int (dotI a b))
theorem Z6H:∀ts Q,Z2f ts Q->ts.length=2:=by rintro ts Q ⟨_,_,e,_⟩;subst e;rfl
def Z67:WS :=
 (sRet (w2 rAddT (w2 rAddT (w2 rMulT (w2 rIxTT (wVar 0) (wC (.int 0))) (w2 rIxTT (wVar 1) (wC (.int 0)))) (w2 rMulT (w2 rIxTT (wVar 0) (wC (.int 1))) (w2 rIxTT (wVar 1) (wC (.int 1))))) (w2 rMulT (w2 rIxTT (wVar 0) (wC (.int 2))) (w2 rIxTT (wVar 1) (wC (.int 2))))))
theorem Z6U:∀ts Q,Z2f ts Q->Z67 {nx:=fun _=>Q .non,rt:=Q} (startT 2 ts):=by
 rintro _ Q ⟨a,b,rfl,⟨a1,a2,a3⟩,⟨b1,b2,b3⟩,h⟩
 unfold Z67
 walk_at "go"
 exact h
def Z1t:SpT:=fun ts Q=>∃c k:Int,ts=[.int c,.int k]/\0<=k/\k<=200/\∀x y z:Tr,WiT E9 x->WiT E9 y->WiT E9 z->crs y z≠(0,0,0)->Q (ptl x y z)
theorem Z68:∀ts Q,Z1t ts Q->ts.length=2:=by rintro ts Q ⟨_,_,e,_⟩;subst e;rfl
def Z2H:WS :=
 (sIf (tCmpT cEqT (wCall Z0d (aCons (wVar 2) (aCons (wVar 3) aNil))) (wTup (aCons (wC (.int 0)) (aCons (wC (.int 0)) (aCons (wC (.int 0)) aNil))))) (sSet 3 (wVar 4)) sNext)
def Z2I:WS :=
 (sSeq (sSet 3 (wCall Z0P (aCons (wVar 0) (aCons (w2 rAddT (wVar 1) (wC (.int 6))) aNil))))
  (sSeq (sFor (iSeq (wLst (aCons (wTup (aCons (wC (.int 0)) (aCons (wC (.int 1)) (aCons (wC (.int 0)) aNil)))) (aCons (wTup (aCons (wC (.int 0)) (aCons (wC (.int 0)) (aCons (wC (.int 1)) aNil)))) (aCons (wTup (aCons (wC (.int 1)) (aCons (wC (.int 0)) (aCons (wC (.int 0)) aNil)))) aNil))))) (gN 4) Z2H)
  (sRet (wTup (aCons (wCall Z0P (aCons (wVar 0) (aCons (wVar 1) aNil))) (aCons (wVar 2) (aCons (wVar 3) aNil)))))))
def Z4K:WS :=
 (sSeq (sSet 2 (wCall Z0P (aCons (wVar 0) (aCons (w2 rAddT (wVar 1) (wC (.int 3))) aNil))))
  (sSeq (sIf (tCmpT cEqT (wVar 2) (wTup (aCons (wC (.int 0)) (aCons (wC (.int 0)) (aCons (wC (.int 0)) aNil))))) (sSet 2 (wTup (aCons (wC (.int 1)) (aCons (wC (.int 0)) (aCons (wC (.int 0)) aNil))))) sNext)
  Z2I))
theorem plate_b0{D:DT}{s o u:Tr}{s0 s1:Slot}(ls:WiT E9 s)(lo:WiT E9 o)(lu:WiT E9 u)(h:∀o',WiT E9 o'->(crs s o=(0,0,0)->o'=u)->(crs s o≠(0,0,0)->o'=o)->D.nx [s0,s1,.val (trT s),.val (trT o'),.val (trT u)]) :
  Z2H D [s0,s1,.val (trT s),.val (trT o),.val (trT u)]:=by
 unfold Z2H
 walk_at "go"
 refine⟨s,o,rfl,(wiT_lim ls (by decide)).mono (by decide),(wiT_lim lo (by decide)).mono (by decide),?_⟩
 walk_at "go"
 refine⟨eqOk_tri _ _ _ _ _ _,?_⟩
 rw[show eqT (trT (crs s o)) (tri 0 0 0)=decide (crs s o=(0,0,0)) from eqT_tr (crs s o) (0,0,0)]
 refine⟨fun z=>?_,fun z=>?_⟩
 ·have:=of_decide_eq_true z
  walk_at "go"
  exact h u lu (fun _=>rfl) (fun k=>absurd this k)
 ·have:=of_decide_eq_false z
  walk_at "go"
  exact h o lo (fun k=>absurd k this) (fun _=>rfl)
theorem w100{a b c:Int}(h:(a=0∨a=1)/\(b=0∨b=1)/\(c=0∨c=1)):WiT E9 (a,b,c):=by
 have w:∀i:Int,(i=0∨i=1)->Wi E9 i:=fun i hi=>by rcases hi with rfl|rfl<;>exact⟨by decide,by decide⟩
 exact⟨w _ h.1,w _ h.2.1,w _ h.2.2⟩
theorem units{s:Tr}(hs:s≠(0,0,0))(h1:crs s (0,1,0)=(0,0,0))(h2:crs s (0,0,1)=(0,0,0)):False:=by
 obtain⟨a,b,c⟩:=s
 simp only[crs,Prod.mk.injEq]at h1 h2
 exact hs (by simp only[Prod.mk.injEq];omega)
theorem plate_k0{Q:T->Prop}{c k:Int}{s:Tr}{s3 s4:Slot}(h0:0<=k)(h1:k<=200)(ls:WiT E9 s)(hs:s≠(0,0,0))(h:∀x y z:Tr,WiT E9 x->WiT E9 y->WiT E9 z->crs y z≠(0,0,0)->Q (ptl x y z)) :
  Z2I {nx:=fun _=>Q .non,rt:=Q} [.val (.int c),.val (.int k),.val (trT s),s3,s4]:=by
 unfold Z2I
 obtain⟨W0,hW0⟩:∃W,W=Z2H:=⟨_,rfl⟩
 rw[← hW0]
 walk_at "go"
 refine⟨c,k + 6,rfl,by omega,by omega,fun o lo=>?_⟩
 walk_at "go"
 refine Eq.mpr (congrFun (congrFun hW0 _) _) ?_
 refine plate_b0 (u:=(0,1,0)) ls lo (w100 (by decide)) fun o1 l1 e1 f1=>?_
 walk_at "go"
 refine Eq.mpr (congrFun (congrFun hW0 _) _) ?_
 refine plate_b0 (u:=(0,0,1)) ls l1 (w100 (by decide)) fun o2 l2 e2 f2=>?_
 walk_at "go"
 refine Eq.mpr (congrFun (congrFun hW0 _) _) ?_
 refine plate_b0 (u:=(1,0,0)) ls l2 (w100 (by decide)) fun o3 l3 e3 f3=>?_
 walk_at "go"
 refine⟨c,k,rfl,h0,by omega,fun x lx=>?_⟩
 walk_at "go"
 refine h x s o3 lx ls l3 ?_
 have n2:crs s o2≠(0,0,0):=fun z2=>by
  by_cases z1:crs s o1=(0,0,0)
  ·by_cases z0:crs s o=(0,0,0)
   ·have a:=e1 z0
    have b:=e2 z1
    subst a
    subst b
    exact units hs z1 z2
   ·have a:=f1 z0
    subst a
    exact z0 z1
  ·have a:=f2 z1
   subst a
   exact z1 z2
 rw[f3 n2]
 exact n2
theorem Z6q:∀ts Q,Z1t ts Q->Z4K {nx:=fun _=>Q .non,rt:=Q} (startT 5 ts):=by
 rintro _ Q ⟨c,k,rfl,h0,h1,h⟩
 have fin:=fun {s:Tr} (ls:WiT E9 s) (hs:s≠(0,0,0))=>plate_k0 (Q:=Q) (c:=c) (k:=k) (s3:=.no) (s4:=.no) h0 h1 ls hs h
 unfold Z4K
 obtain⟨W1,hW1⟩:∃W,W=Z2I:=⟨_,rfl⟩
 rw[← hW1]at fin ⊢
 walk_at "go"
 refine⟨c,k + 3,rfl,by omega,by omega,fun s ls=>?_⟩
 walk_at "go"
 refine⟨eqOk_tri _ _ _ _ _ _,?_⟩
 rw[show eqT (trT s) (tri 0 0 0)=decide (s=(0,0,0)) from eqT_tr s (0,0,0)]
 refine⟨fun z=>?_,fun z=>?_⟩
 ·walk_at "go"
  exact fin (s:=(1,0,0)) (w100 (by decide)) (by decide)
 ·have:=of_decide_eq_false z
  walk_at "go"
  exact fin ls this
def Z1g:SpT:=fun ts Q=>∃f t:Tr,ts=[trT f,trT t]/\LimT 50 f/\f≠(0,0,0)/\WiT E9 t/\∀r:Tr,WiT (E9 + 10) r->0 < dotI f r->Q (trT r)
theorem Z69:∀ts Q,Z1g ts Q->ts.length=2:=by rintro ts Q ⟨_,_,e,_⟩;subst e;rfl
def Z2J:WS :=
 (sIf (tCmpT cEqT (wCall Z2f (aCons (wVar 0) (aCons (wVar 1) aNil))) (wC (.int 0))) (sSeq (sSet 3 (w2 rIxTT (wLst (aCons (wC (.int 1)) (aCons (wNeg (wC (.int 1))) aNil))) (wCB rIntT (aCons (wCmp cLtT (wCall Z2f (aCons (wVar 0) (aCons (wVar 2) aNil))) (wC (.int 0))) aNil))))
  (sSet 1 (wCB rTupleT (aCons (wComp (iZip (aCons (wVar 1) (aCons (wVar 2) aNil))) (gT 2 (gsC (gN 0) (gsC (gN 1) gs0))) tTrue (w2 rAddT (wVar 0) (w2 rMulT (wVar 2) (wVar 1))) 2 [3]) aNil)))) sNext)
def Z2K:WS :=
 (sSeq (sFor (iSeq (wLst (aCons (wTup (aCons (wC (.int 0)) (aCons (wC (.int 0)) (aCons (wC (.int 1)) aNil)))) (aCons (wTup (aCons (wC (.int 0)) (aCons (wC (.int 1)) (aCons (wC (.int 0)) aNil)))) (aCons (wTup (aCons (wC (.int 1)) (aCons (wC (.int 0)) (aCons (wC (.int 0)) aNil)))) aNil))))) (gN 2) Z2J)
  (sRet (wVar 1)))
def Z4L:WS :=
 (sSeq (sIf (tCmpT cLtT (wCall Z2f (aCons (wVar 0) (aCons (wVar 1) aNil))) (wC (.int 0))) (sSet 1 (wTup (aCons (w2 rSubT (wC (.int 0)) (w2 rIxTT (wVar 1) (wC (.int 0)))) (aCons (w2 rSubT (wC (.int 0)) (w2 rIxTT (wVar 1) (wC (.int 1)))) (aCons (w2 rSubT (wC (.int 0)) (w2 rIxTT (wVar 1) (wC (.int 2)))) aNil))))) sNext)
  Z2K)
theorem ahead_b0{D:DT}{f t u:Tr}{b:Int}{s3:Slot}(lf:LimT 50 f)(lt:WiT b t)(hb:b<=E9 + 9)(hu:(u.1=0∨u.1=1)/\(u.2.1=0∨u.2.1=1)/\(u.2.2=0∨u.2.2=1))(pos:0<=dotI f t)(h:∀t' s3,WiT (b + 1) t'->0<=dotI f t'->(dotI f t'=0->dotI f u=0/\dotI f t=0)->D.nx [.val (trT f),.val (trT t'),.val (trT u),s3]) :
  Z2J D [.val (trT f),.val (trT t),.val (trT u),s3]:=by
 have lu:LimT 13 u:=(wiT_lim (w100 hu) (by decide))
 unfold Z2J
 walk_at "go"
 refine⟨f,t,rfl,lf.mono (by decide),(wiT_lim lt (by simp only[E9]at hb;omega)).mono (by decide),?_⟩
 walk_at "go"
 refine⟨fun z=>?_,fun z=>?_⟩
 ·have z0:=of_decide_eq_true z
  walk_at "go"
  refine⟨f,u,rfl,lf.mono (by decide),lu.mono (by decide),?_⟩
  have fin:∀g:Int,(g=1∨g=-1)->WiT (b + 1) (t.1 + g * u.1,t.2.1 + g * u.2.1,t.2.2 + g * u.2.2):=fun g hg=>by
   obtain⟨⟨a1,a2⟩,⟨b1,b2⟩,c1,c2⟩:=lt
   obtain⟨u1,u2,u3⟩:=hu
   have one:∀x y:Int,-b<=x->x<=b->(y=0∨y=1)->Wi (b + 1) (x + g * y):=fun x y h1 h2 hy=>by
    rcases hg with rfl|rfl<;>rcases hy with rfl|rfl<;>exact⟨by omega,by omega⟩
   exact⟨one _ _ a1 a2 u1,one _ _ b1 b2 u2,one _ _ c1 c2 u3⟩
  have mo:∀g x:Int,(g=1∨g=-1)->MulOk g x:=fun g x hg=>mulOkL (by rcases hg with rfl|rfl<;>exact Lim.of (by decide) (by decide))
  have dt:∀g:Int,dotI f (t.1 + g * u.1,t.2.1 + g * u.2.1,t.2.2 + g * u.2.2)=dotI f t + g * dotI f u:=fun g=>by
   simp only[dotI]
   grind
  generalize hq:dotI f u=q at *
  by_cases zn:q < 0
  ·walk_at "go"
   rw[decide_eq_true zn]
   walk_at "go"
   refine⟨mo (-1) _ (.inr rfl),?_⟩
   walk_at "go"
   refine⟨mo (-1) _ (.inr rfl),?_⟩
   walk_at "go"
   refine⟨mo (-1) _ (.inr rfl),?_⟩
   walk_at "go"
   exact h _ _ (fin (-1) (.inr rfl)) (by rw[dt,z0];omega) (by rw[dt,z0];omega)
  ·walk_at "go"
   rw[decide_eq_false zn]
   walk_at "go"
   refine⟨mo 1 _ (.inl rfl),?_⟩
   walk_at "go"
   refine⟨mo 1 _ (.inl rfl),?_⟩
   walk_at "go"
   refine⟨mo 1 _ (.inl rfl),?_⟩
   walk_at "go"
   exact h _ _ (fin 1 (.inl rfl)) (by rw[dt,z0];omega) (by rw[dt,z0];omega)
 ·have z0:=of_decide_eq_false z
  walk_at "go"
  exact h _ _ (wi_up lt (by omega)) pos (fun k=>absurd k z0)
theorem ahead_k0{Q:T->Prop}{f t:Tr}{s2 s3:Slot}(lf:LimT 50 f)(nf:f≠(0,0,0))(lt:WiT E9 t)(pos:0<=dotI f t)(h:∀r:Tr,WiT (E9 + 10) r->0 < dotI f r->Q (trT r)):Z2K {nx:=fun _=>Q .non,rt:=Q} [.val (trT f),.val (trT t),s2,s3]:=by
 unfold Z2K
 obtain⟨W0,hW0⟩:∃W,W=Z2J:=⟨_,rfl⟩
 rw[← hW0]
 walk_at "go"
 refine Eq.mpr (congrFun (congrFun hW0 _) _) ?_
 refine ahead_b0 (u:=(0,0,1)) lf lt (by decide) (by decide) pos fun t1 s3 l1 p1 z1=>?_
 walk_at "go"
 refine Eq.mpr (congrFun (congrFun hW0 _) _) ?_
 refine ahead_b0 (u:=(0,1,0)) lf l1 (by decide) (by decide) p1 fun t2 s3 l2 p2 z2=>?_
 walk_at "go"
 refine Eq.mpr (congrFun (congrFun hW0 _) _) ?_
 refine ahead_b0 (u:=(1,0,0)) lf l2 (by decide) (by decide) p2 fun t3 s3 l3 p3 z3=>?_
 walk_at "go"
 refine h t3 (wi_up l3 (by decide)) ?_
 have:dotI f t3≠0:=fun z=>by
  obtain⟨a3,b3⟩:=z3 z
  obtain⟨a2,b2⟩:=z2 b3
  obtain⟨a1,b1⟩:=z1 b2
  obtain⟨x,y,w⟩:=f
  simp only[dotI]at a1 a2 a3
  exact nf (by simp only[Prod.mk.injEq];omega)
 omega
theorem Z6r:∀ts Q,Z1g ts Q->Z4L {nx:=fun _=>Q .non,rt:=Q} (startT 4 ts):=by
 rintro _ Q ⟨f,t,rfl,lf,nf,lt,h⟩
 have fin:=fun {t:Tr} (lt:WiT E9 t) (pos:0<=dotI f t)=>ahead_k0 (Q:=Q) (s2:=.no) (s3:=.no) lf nf lt pos h
 unfold Z4L
 obtain⟨W1,hW1⟩:∃W,W=Z2K:=⟨_,rfl⟩
 rw[← hW1]at fin ⊢
 walk_at "go"
 refine⟨f,t,rfl,lf.mono (by decide),(wiT_lim lt (by decide)).mono (by decide),?_⟩
 walk_at "go"
 refine⟨fun z=>?_,fun z=>?_⟩
 ·have z0:=of_decide_eq_true z
  walk_at "go"
  refine fin (t:=(0 - t.1,0 - t.2.1,0 - t.2.2)) ?_ ?_
  ·obtain⟨⟨a1,a2⟩,⟨b1,b2⟩,c1,c2⟩:=lt
   exact⟨⟨by show -E9<=0 - t.1;omega,by show 0 - t.1<=E9;omega⟩,⟨by show -E9<=0 - t.2.1;omega,by show 0 - t.2.1<=E9;omega⟩,by show -E9<=0 - t.2.2;omega,by show 0 - t.2.2<=E9;omega⟩
  ·have:dotI f (0 - t.1,0 - t.2.1,0 - t.2.2)=- dotI f t:=by simp only[dotI];grind
   omega
 ·have z0:=of_decide_eq_false z
  walk_at "go"
  exact fin lt (by omega)
abbrev mulT(m:Int)(d:Tr):Tr:=(m * d.1,m * d.2.1,m * d.2.2)
abbrev addT(a b:Tr):Tr:=(a.1 + b.1,a.2.1 + b.2.1,a.2.2 + b.2.2)
def Z1u:SpT:=fun ts Q=>∃(a b:Tr) (m:Int),ts=[trT a,trT b,.int m]/\LimT 13 b/\Lim 1 m/\Q (trT (addT a (mulT m b)))
theorem Z6I:∀ts Q,Z1u ts Q->ts.length=3:=by rintro ts Q ⟨_,_,_,e,_⟩;subst e;rfl
def Z6a:WS :=
 (sRet (wCB rTupleT (aCons (wComp (iZip (aCons (wVar 0) (aCons (wVar 1) aNil))) (gT 2 (gsC (gN 0) (gsC (gN 1) gs0))) tTrue (w2 rAddT (wVar 0) (w2 rMulT (wVar 2) (wVar 1))) 2 [2]) aNil)))
theorem Z6V:∀ts Q,Z1u ts Q->Z6a {nx:=fun _=>Q .non,rt:=Q} (startT 3 ts):=by
 rintro _ Q ⟨a,b,m,rfl,⟨l0,l1,l2⟩,lm,h⟩
 unfold Z6a
 walk_at "go"
 exact h
theorem wi_sum{a t:Tr}{b e m M:Int}(ha:WiT b a)(ht:WiT e t)(h0:-M<=m)(h1:m<=M)(he:0<=e)(hM:M=1∨M=2∨M=3):WiT (b + M * e) (addT a (mulT m t)):=by
 have z:∀{x y:Int},Wi b x->Wi e y->Wi (b + M * e) (x + m * y):=fun {x y} hx hy=>by
  have hm:m=-3∨m=-2∨m=-1∨m=0∨m=1∨m=2∨m=3:=by omega
  rcases hM with rfl|rfl|rfl<;>rcases hm with rfl|rfl|rfl|rfl|rfl|rfl|rfl<;>constructor<;>omega
 exact⟨z ha.1 ht.1,z ha.2.1 ht.2.1,z ha.2.2 ht.2.2⟩
theorem wi_bd{b:Int}{B:Nat}{t:Tr}(h:WiT b t)(hb:b<=B):BdT B t:=by
 have z:∀{x:Int},Wi b x->Bd B x:=fun {x} hx=>by unfold Bd;omega
 exact⟨z h.1,z h.2.1,z h.2.2⟩
theorem pick3{P:Tr->Prop}{a b c:Tr}{r:Int}(h0:0<=r)(h1:r < 3)(ha:P a)(hb:P b)(hc:P c):∃t,P t/\atI [trT a,trT b,trT c] r=some (trT t):=by
 have:r=0∨r=1∨r=2:=by omega
 rcases this with rfl|rfl|rfl
 ·exact⟨a,ha,rfl⟩
 ·exact⟨b,hb,rfl⟩
 ·exact⟨c,hc,rfl⟩
def Z1L:SpT:=fun ts Q=>∃l:List Tr,ts=[.lst (l.map trT)]/\l.length<=10/\(∀t∈l,WiT 100000 t)/\Q (.bl false)
theorem Z6J:∀ts Q,Z1L ts Q->ts.length=1:=by rintro ts Q ⟨_,e,_⟩;subst e;rfl
def Z6b:WS :=
 (sRet (wCmp cNeT (wComp (iSeq (wVar 0)) (gN 0) (tCmpT cGtT (wCB rMaxT (aCons (wCB rMaxTT (aCons (wVar 0) aNil)) (aCons (w2 rSubT (wC (.int 0)) (wCB rMinTT (aCons (wVar 0) aNil))) aNil))) (w2 rPowT (wC (.int 10)) (wC (.int 9)))) (wVar 0) 1 []) (wLst aNil)))
abbrev farT:WT:=(tCmpT cGtT (wCB rMaxT (aCons (wCB rMaxTT (aCons (wVar 0) aNil)) (aCons (w2 rSubT (wC (.int 0)) (wCB rMinTT (aCons (wVar 0) aNil))) aNil))) (w2 rPowT (wC (.int 10)) (wC (.int 9))))
theorem far_t{t:Tr}{Q:Bool->Prop}(h:WiT 100000 t)(q:Q false):farT [.val (trT t)] Q:=by
 have cp:=cpow10 9 (by decide)
 have p9:(10 ^ Int.toNat 9:Int)=1000000000:=by decide
 obtain⟨a,b,c⟩:=t
 obtain⟨ha,hb,hc⟩:=h
 unfold farT
 walk_at "go"
 refine⟨by simp,fun m hm _=>?_⟩
 walk_at "go"
 refine⟨by simp,fun n hn _=>?_⟩
 have m1:m<=100000:=by
  simp only[List.mem_cons,List.not_mem_nil,or_false]at hm
  simp only at ha hb hc
  rcases hm with rfl|rfl|rfl<;>omega
 have n1:-100000<=n:=by
  simp only[List.mem_cons,List.not_mem_nil,or_false]at hn
  simp only at ha hb hc
  rcases hn with rfl|rfl|rfl<;>omega
 have e:decide ((if 0 - n > m then 0 - n else m) > 10 ^ Int.toNat 9)=false:=decide_eq_false (by rw[p9];split<;>omega)
 walk_at "go"
 rw[e]
 exact q
theorem Z6W:∀ts Q,Z1L ts Q->Z6b {nx:=fun _=>Q .non,rt:=Q} (startT 1 ts):=by
 rintro _ Q ⟨l,rfl,hl,hw,q⟩
 have eo:=eqOk_pqL [] []
 unfold Z6b
 obtain⟨V,hV⟩:∃V:WT,V=farT:=⟨_,rfl⟩
 unfold farT at hV
 rw[← hV]
 walk_at "tw"
 refine⟨by rw[List.length_map];omega,?_⟩
 refine comp_filt (p:=fun _=>false) (g:=trT) l [] _ _ (fun t ht R hR=>?_) (fun t _ z=>by cases z) ?_
 ·rw[hV]
  exact far_t (hw t ht) hR
 rw[List.nil_append]
 have:(l.filter fun _=>false)=[]:=by simp
 rw[this]
 exact⟨eo,q⟩
def Z2r:SpT:=fun ts Q=>∃(c s o d:Tr) (k:Int),ts=[ptl c s o,trT d,.int k]/\WiT E9 c/\WiT E9 s/\WiT E9 o/\WiT (E9 + 10) d/\∀c' s' o':Tr,WiT 600 c'->WiT 120 s'->WiT 120 o'->crs s' o'≠(0,0,0)->Q (ptl c' s' o')
theorem Z6c:∀ts Q,Z2r ts Q->ts.length=3:=by rintro ts Q ⟨_,_,_,_,_,e,_⟩;subst e;rfl
def Z4M:WS :=
 (sSeq (sSet 3 (wCall Z1u (aCons (w2 rIxTT (wVar 0) (wC (.int 0))) (aCons (w2 rIxTT (wVar 0) (wC (.int 1))) (aCons (w2 rSubT (wCall Z09 (aCons (wVar 2) (aCons (wC (.int 41)) (aCons (wC (.int 4)) aNil)))) (wC (.int 2))) aNil)))))
  (sSeq (sSet 3 (wCall Z1u (aCons (wVar 3) (aCons (w2 rIxTT (wVar 0) (wC (.int 2))) (aCons (w2 rSubT (wCall Z09 (aCons (wVar 2) (aCons (wC (.int 42)) (aCons (wC (.int 4)) aNil)))) (wC (.int 2))) aNil)))))
  (sSeq (sSet 3 (wCall Z1u (aCons (wVar 3) (aCons (wVar 1) (aCons (w2 rAddT (wC (.int 1)) (wCall Z09 (aCons (wVar 2) (aCons (wC (.int 43)) (aCons (wC (.int 3)) aNil))))) aNil)))))
  (sSeq (sSet 4 (wCall Z1t (aCons (wVar 2) (aCons (wC (.int 20)) aNil))))
  (sSeq (sSet 5 (w2 rIxTT (wLst (aCons (w2 rIxTT (wVar 4) (wC (.int 1))) (aCons (w2 rIxTT (wVar 0) (wC (.int 1))) (aCons (wCall Z1u (aCons (w2 rIxTT (wVar 0) (wC (.int 1))) (aCons (w2 rIxTT (wVar 4) (wC (.int 1))) (aCons (wC (.int 1)) aNil)))) aNil)))) (wCall Z09 (aCons (wVar 2) (aCons (wC (.int 45)) (aCons (wC (.int 3)) aNil))))))
  (sSeq (sSet 6 (w2 rIxTT (wLst (aCons (w2 rIxTT (wVar 4) (wC (.int 2))) (aCons (w2 rIxTT (wVar 0) (wC (.int 2))) (aCons (wCall Z1u (aCons (w2 rIxTT (wVar 0) (wC (.int 2))) (aCons (w2 rIxTT (wVar 4) (wC (.int 2))) (aCons (wC (.int 1)) aNil)))) aNil)))) (wCall Z09 (aCons (wVar 2) (aCons (wC (.int 46)) (aCons (wC (.int 3)) aNil))))))
  (sSeq (sIf (tOrT (tCmpT cEqT (wCall Z0d (aCons (wVar 5) (aCons (wVar 6) aNil))) (wTup (aCons (wC (.int 0)) (aCons (wC (.int 0)) (aCons (wC (.int 0)) aNil))))) (tVal (wCall Z1L (aCons (wLst (aCons (wVar 3) (aCons (wVar 5) (aCons (wVar 6) aNil)))) aNil)))) (sRet (wVar 4)) sNext)
  (sRet (wTup (aCons (wVar 3) (aCons (wVar 5) (aCons (wVar 6) aNil))))))))))))
theorem Z6s:∀ts Q,Z2r ts Q->Z4M {nx:=fun _=>Q .non,rt:=Q} (startT 7 ts):=by
 rintro _ Q ⟨c,s,o,d,k,rfl,wc,ws,wo,wd,h⟩
 obtain⟨SD,hSD⟩:∃S,S=Z09:=⟨_,rfl⟩
 have cd:∀{j many:Int}{Q:T->Prop},0<=j->j<=1000->1<=many->many<=10 ^ 12->(∀r:Int,0<=r->r < many->Q (.int r))->SD [.int k,.int j,.int many] Q:=fun h1 h2 h3 h4 q=>by rw[hSD];exact⟨_,_,_,rfl,h1,h2,h3,h4,q⟩
 obtain⟨SP,hSP⟩:∃S,S=Z1t:=⟨_,rfl⟩
 have cp:∀{Q:T->Prop},(∀x y z:Tr,WiT E9 x->WiT E9 y->WiT E9 z->crs y z≠(0,0,0)->Q (ptl x y z))->SP [.int k,.int 20] Q:=fun q=>by rw[hSP];exact⟨_,_,rfl,by decide,by decide,q⟩
 obtain⟨SS,hSS⟩:∃S,S=Z1u:=⟨_,rfl⟩
 have cs:∀{a b:Tr}{m:Int}{Q:T->Prop},WiT (E9 + 10) b -> -3<=m->m<=3->Q (trT (addT a (mulT m b)))->SS [trT a,trT b,.int m] Q:=fun h1 h2 h3 q=>by rw[hSS];exact⟨_,_,_,rfl,wiT_lim h1 (by decide),Lim.of (by omega) (by omega),q⟩
 obtain⟨SX,hSX⟩:∃S,S=Z0d:=⟨_,rfl⟩
 have cX:∀{a b:Tr}{Q:T->Prop},WiT 120 a->WiT 120 b->Q (trT (crs a b))->SX [trT a,trT b] Q:=fun ha hb z=>by rw[hSX];exact⟨_,_,rfl,(wiT_lim ha (by decide)).mono (by decide),(wiT_lim hb (by decide)).mono (by decide),z⟩
 obtain⟨SF,hSF⟩:∃S,S=Z1L:=⟨_,rfl⟩
 have cF:∀{a b e:Tr}{Q:T->Prop},WiT 100000 a->WiT 100000 b->WiT 100000 e->Q (.bl false)->SF [.lst [trT a,trT b,trT e]] Q:=fun {a b e Q} h1 h2 h3 q=>by
  rw[hSF]
  refine⟨[a,b,e],rfl,by simp,fun t ht=>?_,q⟩
  simp only[List.mem_cons,List.not_mem_nil,or_false]at ht
  rcases ht with rfl|rfl|rfl<;>assumption
 have up:∀{t:Tr},WiT E9 t->WiT (E9 + 10) t:=fun h=>wi_up h (by decide)
 have u120:∀{t:Tr},WiT E9 t->WiT 120 t:=fun h=>wi_up h (by decide)
 unfold Z4M
 rw[← hSD,← hSP,← hSS,← hSX,← hSF]
 walk_at "go"
 refine cd (by decide) (by decide) (by decide) (by decide) fun i i0 i1=>?_
 walk_at "go"
 refine cs (up ws) (by omega) (by omega) ?_
 have w1:=wi_sum (m:=i - 2) (M:=2) wc ws (by omega) (by omega) (by decide) (by decide)
 generalize addT c (mulT (i - 2) s)=t1 at *
 walk_at "go"
 refine cd (by decide) (by decide) (by decide) (by decide) fun j j0 j1=>?_
 walk_at "go"
 refine cs (up wo) (by omega) (by omega) ?_
 have w2':=wi_sum (m:=j - 2) (M:=2) w1 wo (by omega) (by omega) (by decide) (by decide)
 generalize addT t1 (mulT (j - 2) o)=t2 at *
 walk_at "go"
 refine cd (by decide) (by decide) (by decide) (by decide) fun l l0 l1=>?_
 walk_at "go"
 refine cs wd (by omega) (by omega) ?_
 have w3:WiT 600 (addT t2 (mulT (1 + l) d)):=wi_up (wi_sum (m:=1 + l) (M:=3) w2' wd (by omega) (by omega) (by decide) (by decide)) (by decide)
 generalize addT t2 (mulT (1 + l) d)=t3 at *
 walk_at "go"
 refine cp fun x y z hx hy hz n=>?_
 walk_at "go"
 refine cs (up hy) (by decide) (by decide) ?_
 have w5:WiT 120 (addT s (mulT 1 y)):=wi_sum (m:=1) (M:=1) ws hy (by decide) (by decide) (by decide) (by decide)
 generalize addT s (mulT 1 y)=t5 at *
 walk_at "go"
 refine cd (by decide) (by decide) (by decide) (by decide) fun p p0 p1=>?_
 obtain⟨a,wa,ea⟩:=pick3 (P:=WiT 120) p0 p1 (u120 hy) (u120 ws) w5
 walk_at "go"
 rw[ea]
 walk_at "go"
 refine cs (up hz) (by decide) (by decide) ?_
 have w6:WiT 120 (addT o (mulT 1 z)):=wi_sum (m:=1) (M:=1) wo hz (by decide) (by decide) (by decide) (by decide)
 generalize addT o (mulT 1 z)=t6 at *
 walk_at "go"
 refine cd (by decide) (by decide) (by decide) (by decide) fun q q0 q1=>?_
 obtain⟨b,wb,eb⟩:=pick3 (P:=WiT 120) q0 q1 (u120 hz) (u120 wo) w6
 walk_at "go"
 rw[eb]
 walk_at "go"
 refine cX wa wb ?_
 have ok:=eqOk_tri (crs a b).1 (crs a b).2.1 (crs a b).2.2 0 0 0
 have eq:=eqT_tr (crs a b) (0,0,0)
 have made:=h x y z (wi_up hx (by decide)) (u120 hy) (u120 hz) n
 by_cases hn:crs a b=(0,0,0)
 ·rw[decide_eq_true hn]at eq
  walk_at "go"
  have e':eqT (trT (crs a b)) (.tup [.int 0,.int 0,.int 0])=true:=eq
  rw[e']
  walk_at "go"
  exact made
 ·rw[decide_eq_false hn]at eq
  walk_at "go"
  have e':eqT (trT (crs a b)) (.tup [.int 0,.int 0,.int 0])=false:=eq
  rw[e']
  walk_at "go"
  refine cF (wi_up w3 (by decide)) (wi_up wa (by decide)) (wi_up wb (by decide)) ?_
  walk_at "go"
  exact h _ _ _ w3 wa wb hn
def Z2L:SpT:=fun ts Q=>∃(c s o:Tr) (k:Int),ts=[ptl c s o,.int k]/\WiT 600 c/\WiT 120 s/\WiT 120 o/\crs s o≠(0,0,0)/\∀t:Tr,Q (trT t)
theorem Z6K:∀ts Q,Z2L ts Q->ts.length=2:=by rintro ts Q ⟨_,_,_,_,e,_⟩;subst e;rfl
def Z4g:WE :=
 (w2 rSubT (wCall Z09 (aCons (wVar 1) (aCons (w2 rAddT (wC (.int 60)) (wVar 0)) (aCons (wC (.int 9)) aNil)))) (wC (.int 4)))
def Z6d:WS :=
 (sSeq (sSet 2 (wCall Z0d (aCons (w2 rIxTT (wVar 0) (wC (.int 1))) (aCons (w2 rIxTT (wVar 0) (wC (.int 2))) aNil))))
  (sSeq (sSet 3 (wCall Z1g (aCons (wVar 2) (aCons (wCB rTupleT (aCons (wComp (iRange1 (aCons (wC (.int 3)) aNil)) (gN 0) tTrue Z4g 1 [1]) aNil)) aNil))))
  (sSeq (sSet 4 (wCall Z1u (aCons (w2 rIxTT (wVar 0) (wC (.int 0))) (aCons (wVar 3) (aCons (wC (.int 1)) aNil)))))
  (sSeq (sIf (tVal (wCall Z1L (aCons (wLst (aCons (wVar 4) aNil)) aNil))) (sRet (wC .non)) sNext)
  (sRet (wVar 4))))))
theorem Z6X:∀ts Q,Z2L ts Q->Z6d {nx:=fun _=>Q .non,rt:=Q} (startT 5 ts):=by
 rintro _ Q ⟨c,s,o,k,rfl,wc,ws,wo,hn,h⟩
 obtain⟨SX,hSX⟩:∃S,S=Z0d:=⟨_,rfl⟩
 have cX:∀{a b:Tr}{Q:T->Prop},WiT 120 a->WiT 120 b->Q (trT (crs a b))->SX [trT a,trT b] Q:=fun ha hb z=>by rw[hSX];exact⟨_,_,rfl,(wiT_lim ha (by decide)).mono (by decide),(wiT_lim hb (by decide)).mono (by decide),z⟩
 obtain⟨SA,hSA⟩:∃S,S=Z1g:=⟨_,rfl⟩
 have cA:∀{f t:Tr}{Q:T->Prop},LimT 50 f->f≠(0,0,0)->WiT E9 t->(∀r:Tr,WiT (E9 + 10) r->0 < dotI f r->Q (trT r))->SA [trT f,trT t] Q:=fun h1 h2 h3 q=>by rw[hSA];exact⟨_,_,rfl,h1,h2,h3,q⟩
 obtain⟨SS,hSS⟩:∃S,S=Z1u:=⟨_,rfl⟩
 have cs:∀{a b:Tr}{m:Int}{Q:T->Prop},WiT (E9 + 10) b -> -3<=m->m<=3->Q (trT (addT a (mulT m b)))->SS [trT a,trT b,.int m] Q:=fun h1 h2 h3 q=>by rw[hSS];exact⟨_,_,_,rfl,wiT_lim h1 (by decide),Lim.of (by omega) (by omega),q⟩
 obtain⟨SF,hSF⟩:∃S,S=Z1L:=⟨_,rfl⟩
 have cF:∀{a:Tr}{Q:T->Prop},WiT 100000 a->Q (.bl false)->SF [.lst [trT a]] Q:=fun {a Q} h1 q=>by
  rw[hSF]
  refine⟨[a],rfl,by simp,fun t ht=>?_,q⟩
  rw[List.mem_singleton.mp ht]
  exact h1
 obtain⟨W0,hW0⟩:∃W,W=Z4g:=⟨_,rfl⟩
 have c0:∀{i:Int}{Q:T->Prop},0<=i->i<=5->(∀r:Int,Wi E9 r->Q (.int r))->W0 [.val (.int i),.val (.int k)] Q:=fun {i Q} h1 h2 q=>by
  obtain⟨SD,hSD⟩:∃S,S=Z09:=⟨_,rfl⟩
  have cd:∀{j:Int}{Q:T->Prop},0<=j->j<=1000->(∀r:Int,0<=r->r < 9->Q (.int r))->SD [.int k,.int j,.int 9] Q:=fun h1 h2 q=>by rw[hSD];exact⟨_,_,_,rfl,h1,h2,by decide,by decide,q⟩
  rw[hW0]
  unfold Z4g
  rw[← hSD]
  walk_at "go"
  refine cd (by omega) (by omega) fun r r0 r1=>?_
  exact q _ ⟨by show -60<=r - 4;omega,by show r - 4<=60;omega⟩
 unfold Z6d
 rw[← hW0,← hSX,← hSA,← hSS,← hSF]
 walk_at "go"
 refine cX ws wo ?_
 walk_at "go"
 refine c0 (by decide) (by decide) fun a ha=>?_
 walk_at "go"
 refine c0 (by decide) (by decide) fun b hb=>?_
 walk_at "go"
 refine c0 (by decide) (by decide) fun e he=>?_
 walk_at "go"
 have lf:LimT 50 (crs s o):=(lim_crs (wiT_lim ws (by decide)) (wiT_lim wo (by decide)) (k:=27) (by decide)).mono (by decide)
 refine cA (t:=(a,b,e)) lf hn ⟨ha,hb,he⟩ fun r wr _=>?_
 walk_at "go"
 refine cs wr (by decide) (by decide) ?_
 have wt:=wi_sum (m:=1) (M:=1) wc wr (by decide) (by decide) (by decide) (by decide)
 generalize addT c (mulT 1 r)=t at *
 walk_at "go"
 refine cF (wi_up wt (by decide)) ?_
 walk_at "go"
 exact h t
abbrev nmA:Str:=Str.ofString "a"
abbrev nmB:Str:=Str.ofString "b"
abbrev nmC:Str:=Str.ofString "c"
abbrev nmD:Str:=Str.ofString "d"
def yW:List (Pl×Tr)->List Th
 | _::p::_=>[(nmB,p.1,none)]
 | _=>[]
def yD:List (Pl×Tr)->List Th
 | [p]=>[(nmA,p.1,some p.2)]
 | [p,_]=>[(nmA,p.1,some p.2)]
 | [p,_,r]=>[(nmA,p.1,some p.2),(nmC,r.1,some r.2)]
 | [p,_,r,s]=>[(nmA,p.1,some p.2),(nmC,r.1,some r.2),(nmD,s.1,some s.2)]
 | _=>[]
def Z13:SpT:=fun ts Q=>∃(s0:T) (ps:List (Pl×Tr)),ts=[s0,.lst (ps.map fun p=>plT p.1),.lst (ps.map fun p=>trT p.2)]/\1<=ps.length/\ps.length<=4/\Q (.tup [s0,.lst ((yW ps).map thT),.lst ((yD ps).map thT)])
theorem Z6t:∀ts Q,Z13 ts Q->ts.length=3:=by rintro ts Q ⟨_,_,e,_⟩;subst e;rfl
def Z3e:WS :=
 (sSeq (sSet 6 (w2 rIxST (wC (.str (Str.ofString "abcdefgh"))) (wVar 5)))
  (sIf (tOrT (tCmpT cIsN (w2 rIxTT (wVar 2) (wVar 5)) (wC .non)) (tCmpT cEqT (w2 rModT (wVar 5) (wC (.int 3))) (wC (.int 1)))) (sApp 3 (wTup (aCons (wVar 6) (aCons (w2 rIxTT (wVar 1) (wVar 5)) aNil)))) (sApp 4 (wTup (aCons (wVar 6) (aCons (w2 rIxTT (wVar 1) (wVar 5)) (aCons (w2 rIxTT (wVar 2) (wVar 5)) aNil)))))))
def Z5t:WS :=
 (sSeq (sOwn 3 aNil)
  (sSeq (sOwn 4 aNil)
  (sSeq (sFor (iRange1 (aCons (wCB rLenT (aCons (wVar 1) aNil)) aNil)) (gN 5) Z3e)
  (sFrz 4 (sFrz 3 (sRet (wTup (aCons (wVar 0) (aCons (wVar 3) (aCons (wVar 4) aNil))))))))))
theorem Z6L:∀ts Q,Z13 ts Q->Z5t {nx:=fun _=>Q .non,rt:=Q} (startT 7 ts):=by
 rintro _ Q ⟨s0,ps,rfl,h1,h4,q⟩
 obtain⟨W0,hW0⟩:∃W,W=Z3e:=⟨_,rfl⟩
 have wall:∀{D:DT}{xs ys us vs:List T}{p:Pl}{t:Tr}{s6:Slot},atI xs 1=some (plT p)->atI ys 1=some (trT t)->us.length < 10->D.nx [.val s0,.val (.lst xs),.val (.lst ys),.own (us++[thT (nmB,p,none)]),.own vs,.val (.int 1),.val (.str nmB)]->W0 D [.val s0,.val (.lst xs),.val (.lst ys),.own us,.own vs,.val (.int 1),s6]:=fun {D xs ys us vs p t s6} e1 e2 hl h=>by
  rw[hW0]
  unfold Z3e
  walk_at "go"
  rw[e2]
  walk_at "go"
  rw[e1]
  exact⟨Nat.le_of_ble_eq_true rfl,by omega,h⟩
 have dial:∀{D:DT}{xs ys us vs:List T}{p:Pl}{t:Tr}{s6:Slot}{k:Int}{z:Str},(k=0/\z=nmA)∨(k=2/\z=nmC)∨(k=3/\z=nmD)->atI xs k=some (plT p)->atI ys k=some (trT t)->vs.length < 10->D.nx [.val s0,.val (.lst xs),.val (.lst ys),.own us,.own (vs++[thT (z,p,some t)]),.val (.int k),.val (.str z)]->W0 D [.val s0,.val (.lst xs),.val (.lst ys),.own us,.own vs,.val (.int k),s6]:=fun {D xs ys us vs p t s6 k z} hk e1 e2 hl h=>by
  rw[hW0]
  unfold Z3e
  rcases hk with ⟨rfl,rfl⟩|⟨rfl,rfl⟩|⟨rfl,rfl⟩
  all_goals
   walk_at "go"
   rw[e2]
   walk_at "go"
   rw[e1]
   walk_at "go"
   rw[e2]
   exact⟨Nat.le_of_ble_eq_true rfl,by omega,h⟩
 unfold Z5t
 rw[← hW0]
 match ps,h1,h4,q with
 | [p],_,_,q =>
  walk_at "tw"
  refine⟨by omega,?_⟩
  rw[show rangeT 0 (Int.toNat ((1:Nat):Int))=[T.int 0] from rfl]
  walk_at "go"
  refine dial (p:=p.1) (t:=p.2) (.inl ⟨rfl,rfl⟩) rfl rfl (by decide) ?_
  walk_at "go"
  exact q
 | [p,r],_,_,q =>
  walk_at "tw"
  refine⟨by omega,?_⟩
  rw[show rangeT 0 (Int.toNat ((2:Nat):Int))=[T.int 0,T.int 1] from rfl]
  walk_at "go"
  refine dial (p:=p.1) (t:=p.2) (.inl ⟨rfl,rfl⟩) rfl rfl (by decide) ?_
  walk_at "go"
  refine wall (p:=r.1) (t:=r.2) rfl rfl (by decide) ?_
  walk_at "go"
  exact q
 | [p,r,a],_,_,q =>
  walk_at "tw"
  refine⟨by omega,?_⟩
  rw[show rangeT 0 (Int.toNat ((3:Nat):Int))=[T.int 0,T.int 1,T.int 2] from rfl]
  walk_at "go"
  refine dial (p:=p.1) (t:=p.2) (.inl ⟨rfl,rfl⟩) rfl rfl (by decide) ?_
  walk_at "go"
  refine wall (p:=r.1) (t:=r.2) rfl rfl (by decide) ?_
  walk_at "go"
  refine dial (p:=a.1) (t:=a.2) (.inr (.inl ⟨rfl,rfl⟩)) rfl rfl (by simp) ?_
  walk_at "go"
  exact q
 | [p,r,a,b],_,_,q =>
  walk_at "tw"
  refine⟨by omega,?_⟩
  rw[show rangeT 0 (Int.toNat ((4:Nat):Int))=[T.int 0,T.int 1,T.int 2,T.int 3] from rfl]
  walk_at "go"
  refine dial (p:=p.1) (t:=p.2) (.inl ⟨rfl,rfl⟩) rfl rfl (by decide) ?_
  walk_at "go"
  refine wall (p:=r.1) (t:=r.2) rfl rfl (by decide) ?_
  walk_at "go"
  refine dial (p:=a.1) (t:=a.2) (.inr (.inl ⟨rfl,rfl⟩)) rfl rfl (by simp) ?_
  walk_at "go"
  refine dial (p:=b.1) (t:=b.2) (.inr (.inr ⟨rfl,rfl⟩)) rfl rfl (by simp) ?_
  walk_at "go"
  exact q
 | [],h1,_,_=>simp at h1
 | _::_::_::_::_::_,_,h4,_=>simp at h4
abbrev Sm1:=Nat×List Pq
abbrev smT(x:Sm1):T:=.tup [.int x.1,pqL x.2]
noncomputable def nxS(C:List Pq)(x:Sm1):Sm1:=(x.1 + 1,if 0 < x.1 then bt x.2 C else C)
noncomputable def smS:List Sm1->List (List Pq)->List Sm1
 | L,[]=>L
 | L,C::r=>smS (L++L.map (nxS C)) r
def sgS(n:Nat)(q:Rat):Rat:=if n % 2=1 then -q else q
def lfS:Rat->List Sm1->Rat
 | J,[]=>J
 | J,x::r=>lfS (J + sgS x.1 (sh x.2)) r
def dgS:List Sm1->Nat
 | []=>0
 | x::r=>17 * (9 * x.1 + 1) + 4 + dgS r
def Z2Z:SpT:=fun ts Q=>∃ps:List (List Pq),ts=[.lst (ps.map pqL)]/\ps.length<=3/\(∀p∈ps,Prt 9 p)/\(Bq 2000 (lfS 1 ((smS [(0,[])] ps).drop 1))->Q (fq (lfS 1 ((smS [(0,[])] ps).drop 1))))
theorem Z6u:∀ts Q,Z2Z ts Q->ts.length=1:=by rintro ts Q ⟨_,e,_⟩;subst e;rfl
def Z3f:WS :=
 (sApp 4 (wTup (aCons (w2 rAddT (wVar 5) (wC (.int 1))) (aCons (wVar 8) aNil))))
def Z23:WS :=
 (sSeq (sSet 8 (wVar 3))
  (sSeq (sIf (tCmpT cGtT (wVar 5) (wC (.int 0))) (sSet 8 (wCall Z0c (aCons (wVar 7) (aCons (wVar 3) aNil)))) sNext)
  Z3f))
def Z24:WS :=
 (sSeq (sOwn 4 aNil)
  (sSeq (sFor (iSeq (wVar 2)) (gT 2 (gsC (gN 5) (gsC (gN 7) gs0))) Z23)
  (sFrz 4 (sSet 2 (w2 rCatLT (wVar 2) (wVar 4))))))
def Z25:WS :=
 (sSeq (sSet 6 (wCall Z08 (aCons (wVar 3) aNil)))
  (sSet 1 (wCall Z3d (aCons (wVar 1) (aCons (wTup (aCons (w2 rIxTT (wLst (aCons (w2 rSubT (wC (.int 0)) (w2 rIxTT (wVar 6) (wC (.int 0)))) (aCons (w2 rIxTT (wVar 6) (wC (.int 0))) aNil))) (w2 rModT (w2 rAddT (wVar 5) (wC (.int 1))) (wC (.int 2)))) (aCons (w2 rIxTT (wVar 6) (wC (.int 1))) aNil))) aNil)))))
def Z5u:WS :=
 (sSeq (sSet 1 (wTup (aCons (wC (.int 1)) (aCons (wC (.int 1)) aNil))))
  (sSeq (sSet 2 (wLst (aCons (wTup (aCons (wC (.int 0)) (aCons (wLst aNil) aNil))) aNil)))
  (sSeq (sFor (iSeq (wVar 0)) (gN 3) Z24)
  (sSeq (sFor (iSeq (wSl (wVar 2) (wo (wC (.int 1))) wo0)) (gT 2 (gsC (gN 5) (gsC (gN 3) gs0))) Z25)
  (sRet (wVar 1))))))
theorem left_b0{D:DT}{a0 a1 a2 s6 s8:Slot}{C:List Pq}{x:Sm1}{us:List T}(hx:x.1<=2)(px:Prt (9 * x.1) x.2)(c:Prt 9 C)(hl:us.length < 100)(h:∀s8,D.nx [a0,a1,a2,.val (pqL C),.own (us++[smT (nxS C x)]),.val (.int x.1),s6,.val (pqL x.2),s8]) :
  Z23 D [a0,a1,a2,.val (pqL C),.own us,.val (.int x.1),s6,.val (pqL x.2),s8]:=by
 obtain⟨n,A⟩:=x
 obtain⟨SB,hSB⟩:∃S,S=Z0c:=⟨_,rfl⟩
 have cb:∀{Q:T->Prop},Q (pqL (bt A C))->SB [pqL A,pqL C] Q:=fun q=>by rw[hSB];exact both_cal px c (by simp only at hx ⊢;omega) q
 have k0:∀(B:List Pq),B=(if 0 < n then bt A C else C)->Z3f D [a0,a1,a2,.val (pqL C),.own us,.val (.int n),s6,.val (pqL A),.val (pqL B)]:=fun B eB=>by
  have h:=h (.val (pqL B))
  unfold nxS at h
  simp only at h
  rw[← eB]at h
  have e1:smT (n + 1,B)=.tup [.int ((n:Int) + 1),pqL B]:=by
   show T.tup [.int ((n + 1:Nat):Int),pqL B]=_
   rw[show ((n + 1:Nat):Int)=(n:Int) + 1 by simp]
  rw[e1]at h
  generalize pqL B=Y at *
  unfold Z3f
  walk_at "go"
  exact⟨by omega,h⟩
 obtain⟨K0,hK0⟩:∃W,W=Z3f:=⟨_,rfl⟩
 unfold Z23
 rw[← hK0]at k0 ⊢
 rw[← hSB]
 by_cases hn:0 < n
 ·have e:decide ((n:Int) > 0)=true:=decide_eq_true (by omega)
  have k1:=k0 (bt A C) (by rw[if_pos hn])
  generalize hX:pqL C=X at *
  walk_at "go"
  refine⟨fun _=>?_,fun z=>(by rw[e]at z;cases z)⟩
  walk_at "go"
  refine cb ?_
  exact k1
 ·have e:decide ((n:Int) > 0)=false:=decide_eq_false (by omega)
  have k1:=k0 C (by rw[if_neg hn])
  generalize hX:pqL C=X at *
  walk_at "go"
  exact⟨fun z=>(by rw[e]at z;cases z),fun _=>k1⟩
theorem left_l0{D:DT}{a0 a1 a2:Slot}{C:List Pq}(c:Prt 9 C):∀(L:List Sm1)(us:List T)(s5 s6 s7 s8:Slot),(∀x∈L,x.1<=2/\Prt (9 * x.1) x.2)->us.length + L.length<=90->(∀s5 s7 s8,D.nx [a0,a1,a2,.val (pqL C),.own (us++(L.map (nxS C)).map smT),s5,s6,s7,s8]) →
  forT (gT 2 (gsC (gN 5) (gsC (gN 7) gs0))) Z23 (L.map smT) D [a0,a1,a2,.val (pqL C),.own us,s5,s6,s7,s8]
 | [],us,s5,s6,s7,s8,_,_,h=>by
  simp only[List.map,forT]
  simpa using h s5 s7 s8
 | x::L,us,s5,s6,s7,s8,hL,hl,h=>by
  obtain⟨h1,h2⟩:=hL x mcs
  have ih:=fun s5 s7 s8=>left_l0 (D:=D) (a0:=a0) (a1:=a1) (a2:=a2) c L (us++[smT (nxS C x)]) s5 s6 s7 s8 (fun y hy=>hL y (mcm _ hy)) (by simp at hl ⊢;omega) (by simpa using h)
  simp only[List.map_cons,forT]
  generalize forT (gT 2 (gsC (gN 5) (gsC (gN 7) gs0))) Z23 (L.map smT) D=F at ih ⊢
  simp only[gT,gsC,gs0,gN,sput,List.length_cons,List.length_nil,true_and]
  exact left_b0 (D:={D with nx:=F,ct:=F,bk:=D.nx}) h1 h2 c (by simp at hl;omega) fun s8=>ih _ _ _
theorem nxS_ok{C:List Pq}{x:Sm1}(c:Prt 9 C)(h:x.1<=2/\Prt (9 * x.1) x.2):(nxS C x).1<=x.1 + 1/\Prt (9 * (nxS C x).1) (nxS C x).2:=by
 refine⟨Nat.le_refl _,?_⟩
 unfold nxS
 simp only
 split
 ·have:=h.2.bt c
  rw[show 9 * x.1 + 9=9 * (x.1 + 1) by omega]at this
  exact this
 ·rw[show x.1=0 by omega]
  exact c
theorem left_b1{D:DT}{a0 a1 s4 s5 s6 s7 s8:Slot}{C:List Pq}{L:List Sm1}(c:Prt 9 C)(hL:∀x∈L,x.1<=2/\Prt (9 * x.1) x.2)(hl:L.length<=40)(h:∀s4 s5 s7 s8,D.nx [a0,a1,.val (.lst ((L++L.map (nxS C)).map smT)),.val (pqL C),s4,s5,s6,s7,s8]) :
  Z24 D [a0,a1,.val (.lst (L.map smT)),.val (pqL C),s4,s5,s6,s7,s8]:=by
 obtain⟨W0,hW0⟩:∃W,W=Z23:=⟨_,rfl⟩
 unfold Z24
 rw[← hW0]
 have l1:(L.map smT).length + ((L.map (nxS C)).map smT).length<=1000:=by simp only[List.length_map];omega
 have eL:L.map smT++(L.map (nxS C)).map smT=(L++L.map (nxS C)).map smT:=(List.map_append).symm
 generalize hX:pqL C=X at *
 walk_at "tw"
 rw[hW0,← hX]
 refine left_l0 c L [] _ _ _ _ hL (by simp;omega) fun s5 s7 s8=>?_
 rw[List.nil_append,hX]
 generalize (L.map (nxS C)).map smT=zs at *
 walk_at "tw"
 refine⟨l1,?_⟩
 rw[eL]
 exact h _ _ _ _
theorem left_l1{D:DT}{a0 a1 s6:Slot}:∀(ps:List (List Pq))(L:List Sm1)(s3 s4 s5 s7 s8:Slot),(∀p∈ps,Prt 9 p)->(∀x∈L,x.1 + ps.length<=3/\Prt (9 * x.1) x.2)->L.length * 2 ^ ps.length<=40 →
  (∀s3 s4 s5 s7 s8,D.nx [a0,a1,.val (.lst ((smS L ps).map smT)),s3,s4,s5,s6,s7,s8])->forT (gN 3) Z24 (ps.map pqL) D [a0,a1,.val (.lst (L.map smT)),s3,s4,s5,s6,s7,s8]
 | [],L,s3,s4,s5,s7,s8,_,_,_,h=>by
  simp only[List.map,forT]
  exact h _ _ _ _ _
 | C::ps,L,s3,s4,s5,s7,s8,hp,hL,hl,h=>by
  have c:=hp C mcs
  have hL2:∀x∈L,x.1<=2/\Prt (9 * x.1) x.2:=fun x hx=>⟨by have:=(hL x hx).1;simp at this;omega,(hL x hx).2⟩
  have l40:L.length<=40:=Nat.le_trans (Nat.le_mul_of_pos_right _ (Nat.pow_pos (by decide))) hl
  have ih:=fun s3 s4 s5 s7 s8=>left_l1 (D:=D) (a0:=a0) (a1:=a1) (s6:=s6) ps (L++L.map (nxS C)) s3 s4 s5 s7 s8 (fun p hp'=>hp p (mcm _ hp')) (fun x hx=>by
   rcases List.mem_append.mp hx with z|z
   ·have:=(hL x z).1
    simp at this
    exact⟨by omega,(hL x z).2⟩
   ·obtain⟨y,hy,rfl⟩:=List.mem_map.mp z
    have n1:=nxS_ok c (hL2 y hy)
    have:=(hL y hy).1
    simp at this
    exact⟨by omega,n1.2⟩) (by
   rw[List.length_append,List.length_map,← Nat.two_mul,Nat.mul_comm 2,Nat.mul_assoc]
   rw[List.length_cons,Nat.pow_succ,Nat.mul_comm (2 ^ ps.length)]at hl
   exact hl) h
  simp only[List.map_cons,forT]
  generalize forT (gN 3) Z24 (ps.map pqL) D=F at ih ⊢
  simp only[gN,sput,List.length_cons,List.length_nil,true_and]
  exact left_b1 (D:={D with nx:=F,ct:=F,bk:=D.nx}) c hL2 l40 fun s4 s5 s7 s8=>ih _ _ _ _ _
theorem fq_neg(q:Rat):T.tup [.int (0 - q.num),.int (q.den:Int)]=fq (-q):=by
 unfold fq
 rw[Rat.neg_num,Rat.neg_den,Int.zero_sub]
theorem bq_neg{k:Nat}{q:Rat}(h:Bq k q):Bq k (-q):=by
 unfold Bq Lim at *
 rw[Rat.neg_num,Rat.neg_den,Int.natAbs_neg]
 exact h
theorem left_b2{D:DT}{a0 a2 a4 s6 a7 a8:Slot}{J:Rat}{j:Nat}{x:Sm1}(h1:1<=x.1)(h3:x.1<=3)(px:Prt (9 * x.1) x.2)(bJ:Bq j J)(hj:j + (17 * (9 * x.1 + 1) + 3)<=2000)(h:∀s6,Bq (j + (17 * (9 * x.1 + 1) + 4)) (J + sgS x.1 (sh x.2))->D.nx [a0,.val (fq (J + sgS x.1 (sh x.2))),a2,.val (pqL x.2),a4,.val (.int x.1),s6,a7,a8]) :
  Z25 D [a0,.val (fq J),a2,.val (pqL x.2),a4,.val (.int x.1),s6,a7,a8]:=by
 obtain⟨n,A⟩:=x
 simp only at h1 h3 px hj h
 obtain⟨SH,hSH⟩:∃S,S=Z08:=⟨_,rfl⟩
 have ch:∀{Q:T->Prop},(Bq (17 * (9 * n + 1) + 3) (sh A)->Q (fq (sh A)))->SH [pqL A] Q:=fun q=>by rw[hSH];exact share_cal px (by omega) q
 obtain⟨SA,hSA⟩:∃S,S=Z3d:=⟨_,rfl⟩
 have ca:∀{b:Rat}{Q:T->Prop},Bq (17 * (9 * n + 1) + 3) b->(Bq (j + (17 * (9 * n + 1) + 4)) (J + b)->Q (fq (J + b)))->SA [fq J,fq b] Q:=fun hb q=>by
  rw[hSA]
  exact add_wd (bJ.bw (by omega)) (hb.bw (by omega)) hj (q ((bJ.add hb).mono (by omega)))
 have cn:∀{b:Rat}{Q:T->Prop},Bq (17 * (9 * n + 1) + 3) b->(Bq (j + (17 * (9 * n + 1) + 4)) (J + -b)->Q (fq (J + -b)))->SA [fq J,.tup [.int (0 - b.num),.int (b.den:Int)]] Q:=fun hb q=>by
  rw[fq_neg]
  exact ca (bq_neg hb) q
 have ct:∀{b:Rat}{Q:T->Prop},Bq (17 * (9 * n + 1) + 3) b->(Bq (j + (17 * (9 * n + 1) + 4)) (J + b)->Q (fq (J + b)))->SA [fq J,.tup [.int b.num,.int (b.den:Int)]] Q:=fun hb q=>ca hb q
 unfold Z25
 rw[← hSH,← hSA]
 generalize hX:pqL A=X at *
 walk_at "go"
 refine ch fun bA=>?_
 have hn:n=1∨n=2∨n=3:=by omega
 unfold sgS at h
 generalize sh A=b at *
 rcases hn with rfl|rfl|rfl
 ·rw[if_pos (by decide)]at h
  walk_at "go"
  rw[show ((((1,A):Sm1).1:Int) + 1).fmod 2=0 by show (((1:Nat):Int) + 1).fmod 2=0;decide]
  walk_at "go"
  refine cn bA fun g=>?_
  exact h _ g
 ·rw[if_neg (by decide)]at h
  walk_at "go"
  rw[show ((((2,A):Sm1).1:Int) + 1).fmod 2=1 by show (((2:Nat):Int) + 1).fmod 2=1;decide]
  walk_at "go"
  refine ct bA fun g=>?_
  exact h _ g
 ·rw[if_pos (by decide)]at h
  walk_at "go"
  rw[show ((((3,A):Sm1).1:Int) + 1).fmod 2=0 by show (((3:Nat):Int) + 1).fmod 2=0;decide]
  walk_at "go"
  refine cn bA fun g=>?_
  exact h _ g
theorem left_l2{D:DT}{a0 a2 a4 a7 a8:Slot}:∀(L:List Sm1)(J:Rat)(j:Nat)(s3 s5 s6:Slot),(∀x∈L,1<=x.1/\x.1<=3/\Prt (9 * x.1) x.2)->Bq j J->j + dgS L<=2000->(∀s3 s5 s6,Bq 2000 (lfS J L)->D.nx [a0,.val (fq (lfS J L)),a2,s3,a4,s5,s6,a7,a8]) →
  forT (gT 2 (gsC (gN 5) (gsC (gN 3) gs0))) Z25 (L.map smT) D [a0,.val (fq J),a2,s3,a4,s5,s6,a7,a8]
 | [],J,j,s3,s5,s6,_,bJ,hj,h=>by
  simp only[List.map,forT]
  exact h _ _ _ (bJ.mono (by simp[dgS]at hj;exact hj))
 | x::L,J,j,s3,s5,s6,hL,bJ,hj,h=>by
  obtain⟨h1,h3,px⟩:=hL x mcs
  simp only[dgS]at hj
  have ih:=fun (g:Bq (j + (17 * (9 * x.1 + 1) + 4)) (J + sgS x.1 (sh x.2))) s3 s5 s6=>left_l2 (D:=D) (a0:=a0) (a2:=a2) (a4:=a4) (a7:=a7) (a8:=a8) L (J + sgS x.1 (sh x.2)) _ s3 s5 s6 (fun y hy=>hL y (mcm _ hy)) g (by omega) h
  simp only[List.map_cons,forT]
  generalize forT (gT 2 (gsC (gN 5) (gsC (gN 3) gs0))) Z25 (L.map smT) D=F at ih ⊢
  simp only[gT,gsC,gs0,gN,sput,List.length_cons,List.length_nil,true_and]
  exact left_b2 (D:={D with nx:=F,ct:=F,bk:=D.nx}) h1 h3 px bJ (by omega) fun s6 g=>ih g _ _ _
theorem smS_ok{ps:List (List Pq)}(hl:ps.length<=3)(hp:∀p∈ps,Prt 9 p):(∀x∈(smS [(0,[])] ps).drop 1,1<=x.1/\x.1<=3/\Prt (9 * x.1) x.2)/\1 + dgS ((smS [(0,[])] ps).drop 1)<=2000/\1<=(smS [(0,[])] ps).length:=by
 match ps,hl,hp with
 | [],_,_=>exact⟨by simp[smS],by simp[smS,dgS],by simp[smS]⟩
 | [A],_,hp =>
  have a:=hp A (by simp)
  refine⟨fun x hx=>?_,by simp[smS,nxS,dgS],by simp[smS]⟩
  simp[smS,nxS]at hx
  subst hx
  exact⟨Nat.le_of_ble_eq_true rfl,Nat.le_of_ble_eq_true rfl,a⟩
 | [A,B],_,hp =>
  have a:=hp A (by simp)
  have b:=hp B (by simp)
  refine⟨fun x hx=>?_,by simp[smS,nxS,dgS],by simp[smS]⟩
  simp[smS,nxS]at hx
  rcases hx with rfl|rfl|rfl
  ·exact⟨Nat.le_of_ble_eq_true rfl,Nat.le_of_ble_eq_true rfl,a⟩
  ·exact⟨Nat.le_of_ble_eq_true rfl,Nat.le_of_ble_eq_true rfl,b⟩
  ·exact⟨Nat.le_of_ble_eq_true rfl,Nat.le_of_ble_eq_true rfl,a.bt b⟩
 | [A,B,C],_,hp =>
  have a:=hp A (by simp)
  have b:=hp B (by simp)
  have c:=hp C (by simp)
  refine⟨fun x hx=>?_,by simp[smS,nxS,dgS],by simp[smS]⟩
  simp[smS,nxS]at hx
  rcases hx with rfl|rfl|rfl|rfl|rfl|rfl|rfl
  ·exact⟨Nat.le_of_ble_eq_true rfl,Nat.le_of_ble_eq_true rfl,a⟩
  ·exact⟨Nat.le_of_ble_eq_true rfl,Nat.le_of_ble_eq_true rfl,b⟩
  ·exact⟨Nat.le_of_ble_eq_true rfl,Nat.le_of_ble_eq_true rfl,a.bt b⟩
  ·exact⟨Nat.le_of_ble_eq_true rfl,Nat.le_of_ble_eq_true rfl,c⟩
  ·exact⟨Nat.le_of_ble_eq_true rfl,Nat.le_of_ble_eq_true rfl,a.bt c⟩
  ·exact⟨Nat.le_of_ble_eq_true rfl,Nat.le_of_ble_eq_true rfl,b.bt c⟩
  ·exact⟨Nat.le_of_ble_eq_true rfl,Nat.le_of_ble_eq_true rfl,(a.bt b).bt c⟩
 | _::_::_::_::_,hl,_=>simp at hl
theorem Z6M:∀ts Q,Z2Z ts Q->Z5u {nx:=fun _=>Q .non,rt:=Q} (startT 9 ts):=by
 rintro _ Q ⟨ps,rfl,hl,hp,q⟩
 obtain⟨o1,o2,o3⟩:=smS_ok hl hp
 have b1:Bq 1 (1:Rat):=bq_int (n:=1) (Lim.of (by decide) (by decide)) (by decide)
 obtain⟨W1,hW1⟩:∃W,W=Z24:=⟨_,rfl⟩
 obtain⟨W2,hW2⟩:∃W,W=Z25:=⟨_,rfl⟩
 unfold Z5u
 rw[← hW1,← hW2]
 walk_at "tw"
 rw[fq1,hW1]
 refine left_l1 ps [(0,[])] _ _ _ _ _ hp (fun x hx=>?_) ?_ fun s3 s4 s5 s7 s8=>?_
 ·rw[List.mem_singleton.mp hx]
  exact⟨by simp only;omega,prt_nil _⟩
 ·have:2 ^ ps.length<=2 ^ 3:=Nat.pow_le_pow_right (by decide) hl
  simp only[List.length_cons,List.length_nil]
  omega
 generalize smS [(0,[])] ps=L at *
 have ec:cutT (L.map smT) (some (1:Int)) none=(L.drop 1).map smT:=by
  rw[show (1:Int)=((1:Nat):Int) from rfl,cut_lo (by rw[List.length_map];exact o3),List.map_drop]
 walk_at "tw"
 rw[ec,hW2]
 refine left_l2 (L.drop 1) 1 1 _ _ _ o1 b1 o2 fun s3 s5 s6 g=>?_
 walk_at "tw"
 exact q g
theorem lf_jn{ps:List (List Pq)}(hl:ps.length<=3)(hp:∀p∈ps,Prt 9 p):lfS 1 ((smS [(0,[])] ps).drop 1)=1 - jnS ps:=by
 match ps,hl,hp with
 | [],_,_=>simp only[smS,List.drop_succ_cons,List.drop_nil,lfS,jnS];grind
 | [A],_,hp =>
  simp[smS,nxS,lfS,jnS,sgS]
  grind
 | [A,B],_,hp =>
  have a:=hp A (by simp)
  have b:=hp B (by simp)
  simp[smS,nxS,lfS,jnS,sgS]
  rw[bt_comm a b]
  grind
 | [A,B,C],_,hp =>
  have a:=hp A (by simp)
  have b:=hp B (by simp)
  have c:=hp C (by simp)
  simp[smS,nxS,lfS,jnS,sgS]
  rw[bt_three a b c,bt_comm a b,bt_comm a c,bt_comm b c]
  grind
 | _::_::_::_::_,hl,_=>simp at hl
theorem nonN_ne{A:List Pq}(h:A≠[]):nonN A=true:=by cases A with|nil=>exact absurd rfl h|cons _ _=>rfl
theorem jn_filt{ps:List (List Pq)}(hl:ps.length<=3):jnS (ps.filter nonN)=jnS ps:=by
 match ps,hl with
 | [],_=>rfl
 | [A],_ =>
  by_cases a:A=[]
  ·subst a;simp[jnS,sh_nil]
  ·simp[nonN_ne a]
 | [A,B],_ =>
  by_cases a:A=[]<;>by_cases b:B=[]
  ·subst a b;simp[jnS,sh_nil,bt_nl];grind
  ·subst a;simp[jnS,sh_nil,bt_nr,nonN_ne b];grind
  ·subst b;simp[jnS,sh_nil,bt_nl,nonN_ne a];grind
  ·simp[nonN_ne a,nonN_ne b]
 | [A,B,C],_ =>
  by_cases a:A=[]<;>by_cases b:B=[]<;>by_cases c:C=[]
  ·subst a b c;simp[jnS,sh_nil,bt_nl];grind
  ·subst a b;simp[jnS,sh_nil,bt_nl,bt_nr,nonN_ne c];grind
  ·subst a c;simp[jnS,sh_nil,bt_nl,bt_nr,nonN_ne b];grind
  ·subst a;simp[jnS,sh_nil,bt_nl,bt_nr,nonN_ne b,nonN_ne c];grind
  ·subst b c;simp[jnS,sh_nil,bt_nl,bt_nr,nonN_ne a];grind
  ·subst b;simp[jnS,sh_nil,bt_nl,bt_nr,nonN_ne a,nonN_ne c];grind
  ·subst c;simp[jnS,sh_nil,bt_nl,bt_nr,nonN_ne a,nonN_ne b];grind
  ·simp[nonN_ne a,nonN_ne b,nonN_ne c]
 | _::_::_::_::_,hl=>simp at hl
theorem bt_turn{n m k:Nat}{A B C:List Pq}(a:Prt n A)(b:Prt m B)(c:Prt k C):bt (bt B C) A=bt (bt A B) C :=
 ((b.bt c).bt a).ext ((a.bt b).bt c) fun q=>by
  rw[bt_rs (b.bt c) a,bt_rs b c,bt_rs (a.bt b) c,bt_rs a b]
  constructor
  ·rintro ⟨⟨h1,h2⟩,h3⟩;exact⟨⟨h3,h1⟩,h2⟩
  ·rintro ⟨⟨h1,h2⟩,h3⟩;exact⟨⟨h2,h3⟩,h1⟩
theorem jn_fewer{ps:List (List Pq)}(hl:ps.length<=3)(hp:∀p∈ps,Prt 9 p)(k:Nat):jnS (ps.eraseIdx k)<=jnS ps:=by
 match ps,hl,hp with
 | [],_,_=>simp
 | [A],_,hp =>
  have a:=hp A (by simp)
  match k with
  | 0=>simp[jnS];exact a.nn
  | k + 1=>simp
 | [A,B],_,hp =>
  have a:=hp A (by simp)
  have b:=hp B (by simp)
  have h1:=bt_le b a
  have h2:=bt_le a b
  rw[bt_comm a b]at h2
  match k with
  | 0=>simp[jnS];grind
  | 1=>simp[jnS];grind
  | k + 2=>simp
 | [A,B,C],_,hp =>
  have a:=hp A (by simp)
  have b:=hp B (by simp)
  have c:=hp C (by simp)
  have h1:=prt_two_in a b c
  have h2:=prt_two_in a c b
  have h3:=prt_two_in b c a
  rw[bt_three a b c]at h1
  rw[bt_three a c b,bt_rot a b c,bt_comm b c]at h2
  rw[bt_three b c a,bt_turn a b c,bt_comm a b,bt_comm a c]at h3
  have e3:=bt_three a b c
  match k with
  | 0=>simp[jnS,e3];rw[bt_comm a b];grind
  | 1=>simp[jnS,e3];grind
  | 2=>simp[jnS,e3];grind
  | k + 3=>simp
 | _::_::_::_::_,hl,_=>simp at hl
theorem nm_ok:SOk nmA/\SOk nmB/\SOk nmC/\SOk nmD:=⟨by decide +kernel,by decide +kernel,by decide +kernel,by decide +kernel⟩
theorem nm_ne:decide (nmA=nmA)=true/\decide (nmB=nmA)=false/\decide (nmC=nmA)=false/\decide (nmD=nmA)=false:=⟨by decide,by decide,by decide,by decide⟩
theorem yd_others{p:Pl×Tr}{r:List (Pl×Tr)}(hl:r.length<=3):(others nmA (yW (p::r)++yD (p::r))).map (·.2.1)=r.map (·.1)/\dialAt (yD (p::r)) nmA=some (nmA,p.1,some p.2)/\(∀t∈yW (p::r)++yD (p::r),SOk t.1)/\(yW (p::r)).length + (yD (p::r)).length<=20:=by
 obtain⟨n1,n2,n3,n4⟩:=nm_ne
 obtain⟨o1,o2,o3,o4⟩:=nm_ok
 match r,hl with
 | [],_ =>
  refine⟨?_,?_,fun t ht=>?_,by simp[yW,yD]⟩
  ·simp only[yW,yD,others,List.nil_append,List.filter_cons,List.filter_nil,n1];rfl
  ·simp[yD,dialAt]
  ·simp[yW,yD]at ht;subst ht;exact o1
 | [a],_ =>
  refine⟨?_,?_,fun t ht=>?_,by simp[yW,yD]⟩
  ·simp only[yW,yD,others,List.cons_append,List.nil_append,List.filter_cons,List.filter_nil,n1,n2];rfl
  ·simp[yD,dialAt]
  ·simp[yW,yD]at ht;rcases ht with rfl|rfl<;>assumption
 | [a,b],_ =>
  refine⟨?_,?_,fun t ht=>?_,by simp[yW,yD]⟩
  ·simp only[yW,yD,others,List.cons_append,List.nil_append,List.filter_cons,List.filter_nil,n1,n2,n3];rfl
  ·simp[yD,dialAt]
  ·simp[yW,yD]at ht;rcases ht with rfl|rfl|rfl<;>assumption
 | [a,b,c],_ =>
  refine⟨?_,?_,fun t ht=>?_,by simp[yW,yD]⟩
  ·simp only[yW,yD,others,List.cons_append,List.nil_append,List.filter_cons,List.filter_nil,n1,n2,n3,n4];rfl
  ·simp[yD,dialAt]
  ·simp[yW,yD]at ht;rcases ht with rfl|rfl|rfl|rfl<;>assumption
 | _::_::_::_::_,hl=>simp at hl
theorem cut_to{ts:List T}{k:Nat}:cutT ts none (some (k:Int))=ts.take k:=by
 unfold cutT
 rw[HT.sIx_none,HT.sIx_nat]
 show (ts.drop 0).take (min k ts.length - 0)=_
 rw[List.drop_zero,Nat.sub_zero,List.take_eq_take_iff]
 omega
theorem cut_fro{ts:List T}{k:Nat}(h:k<=ts.length):cutT ts (some (k:Int)) none=ts.drop k:=by
 unfold cutT
 rw[HT.sIx_none,HT.sIx_nat,Nat.min_eq_left h]
 exact List.take_of_length_le (by rw[List.length_drop];omega)
theorem cut_del{ts:List T}{k:Nat}(h:k < ts.length):cutT ts none (some (k:Int))++cutT ts (some ((k:Int) + 1)) none=ts.eraseIdx k:=by
 rw[cut_to,show ((k:Int) + 1)=((k + 1:Nat):Int) by omega,cut_fro (by omega),List.eraseIdx_eq_take_drop_succ]
theorem map_del{α β:Type}{f:α->β}{l:List α}{k:Nat}:(l.map f).eraseIdx k=(l.eraseIdx k).map f:=by
 rw[List.eraseIdx_eq_take_drop_succ,List.eraseIdx_eq_take_drop_succ,List.map_append,List.map_take,List.map_drop]
theorem lit_yd{sun:List (Int×Tr)}{h:Int}{e:Int×Tr}{p:Pl×Tr}{r:List (Pl×Tr)}{G:Pl->List Pq}{Q:T->Prop}(hG:∀x,G x=shP p.1 e.2 x)(hl:r.length<=3)(lh:h.natAbs.log2 < 1920)(es:sunAt sun h=some e)(le:LimT 50 e.2)(l1:LimT 50 p.1.2.1)(l2:LimT 50 p.1.2.2)
  (h1:(0 < e.2.2.2/\0 < dotI (crs p.1.2.1 p.1.2.2) e.2)->(∀q∈r,SzP p.1 q.1 e.2)/\(Bq 1985 (1 - jnS (r.map fun q=>G q.1))->Q (fq (1 - jnS (r.map fun q=>G q.1)))))
  (h2:¬ (0 < e.2.2.2/\0 < dotI (crs p.1.2.1 p.1.2.2) e.2)->Q (fq 0)):Z06 [yardT sun (yW (p::r)) (yD (p::r)),.int h,.str nmA] Q:=by
 obtain⟨o1,o2,o3,o4⟩:=yd_others (p:=p) hl
 have em:prts p.1 e.2 nmA (yW (p::r)++yD (p::r))=(r.map fun q=>G q.1).filter nonN:=by
  have:((others nmA (yW (p::r)++yD (p::r))).map fun t=>shP p.1 e.2 t.2.1)=((others nmA (yW (p::r)++yD (p::r))).map (·.2.1)).map G:=by
   rw[List.map_map]
   exact List.map_congr_left fun t _=>(hG _).symm
  unfold prts
  rw[this,o1,List.map_map]
  rfl
 have ej:jnS (prts p.1 e.2 nmA (yW (p::r)++yD (p::r)))=jnS (r.map fun q=>G q.1):=by rw[em,jn_filt (by rw[List.length_map];exact hl)]
 refine⟨sun,_,_,h,nmA,e,p.1,some p.2,rfl,nm_ok.1,o3,lh,es,o2,le,l1,l2,o4,fun z=>?_,h2⟩
 obtain⟨sz,q⟩:=h1 z
 rw[ej]
 refine⟨fun t ht=>?_,?_,q⟩
 ·have mt:t.2.1∈(others nmA (yW (p::r)++yD (p::r))).map (·.2.1):=List.mem_map_of_mem ht
  rw[o1]at mt
  obtain⟨q,hq,eq⟩:=List.mem_map.mp mt
  have:=sz q hq
  rw[eq]at this
  exact this
 ·have:=congrArg List.length o1
  rw[List.length_map,List.length_map]at this
  omega
structure Yok(p:Pl×Tr)(r:List (Pl×Tr)):Prop where
 len:r.length<=3
 c:WiT E9 p.1.1
 s:WiT E9 p.1.2.1
 o:WiT E9 p.1.2.2
 r:∀q∈r,WiT 600 q.1.1/\WiT 120 q.1.2.1/\WiT 120 q.1.2.2/\crs q.1.2.1 q.1.2.2≠(0,0,0)
theorem Yok.sz{p:Pl×Tr}{r:List (Pl×Tr)}{d:Tr}(h:Yok p r)(hd:WiT 70 d)(W:0 < dotI (crs p.1.2.1 p.1.2.2) d):∀q∈r,SzP p.1 q.1 d:=fun q hq =>
 have y:=h.r q hq
 ⟨wi_bd h.c (by decide),wi_bd h.s (by decide),wi_bd h.o (by decide),wi_bd y.1 (by decide),wi_bd y.2.1 (by decide),wi_bd y.2.2.1 (by decide),wi_bd hd (by decide),W,y.2.2.2⟩
theorem Yok.del{p:Pl×Tr}{r:List (Pl×Tr)}(h:Yok p r)(k:Nat):Yok p (r.eraseIdx k) :=
 ⟨Nat.le_trans (List.length_eraseIdx_le ..) h.len,h.c,h.s,h.o,fun q hq=>h.r q (List.mem_of_mem_eraseIdx hq)⟩
theorem Yok.nil{p:Pl×Tr}{r:List (Pl×Tr)}(h:Yok p r):Yok p []:=⟨by simp,h.c,h.s,h.o,fun q hq=>nomatch hq⟩
abbrev suT(d0 d1:Tr):List (Int×Tr):=[(7,d0),(9,d1)]
def Z2E:SpT:=fun ts Q=>∃(d0 d1:Tr) (p:Pl×Tr) (r:List (Pl×Tr)) (k:Int),ts=[.lst ((suT d0 d1).map sT),.lst ((p::r).map fun p=>plT p.1),.lst ((p::r).map fun p=>trT p.2),.int k]/\(k=0∨k=1)/\1<=r.length/\Yok p r/\WiT 70 d0/\WiT 70 d1/\Q (.bl true)
theorem Z6v:∀ts Q,Z2E ts Q->ts.length=4:=by rintro ts Q ⟨_,_,_,_,_,e,_⟩;subst e;rfl
def Z3g:WS :=
 (sSeq (sSet 10 (wCall Z13 (aCons (wVar 0) (aCons (w2 rCatLT (wSl (wVar 1) wo0 (wo (wVar 7))) (wSl (wVar 1) (wo (w2 rAddT (wVar 7) (wC (.int 1)))) wo0)) (aCons (w2 rCatLT (wSl (wVar 2) wo0 (wo (wVar 7))) (wSl (wVar 2) (wo (w2 rAddT (wVar 7) (wC (.int 1)))) wo0)) aNil)))))
  (sIf (tVal (wCall Z2q (aCons (wCall Z06 (aCons (wVar 10) (aCons (wVar 8) (aCons (wC (.str (Str.ofString "a"))) aNil)))) (aCons (wVar 5) aNil)))) (sRet (wC (.bl false))) sNext))
def Z5v:WS :=
 (sSeq (sAsg (gT 2 (gsC (gN 8) (gsC (gN 9) gs0))) (w2 rIxTT (wVar 0) (wVar 3)))
  (sSeq (sSet 4 (w2 rIxTT (wVar 1) (wC (.int 0))))
  (sSeq (sSet 5 (wCall Z06 (aCons (wCall Z13 (aCons (wVar 0) (aCons (wVar 1) (aCons (wVar 2) aNil)))) (aCons (wVar 8) (aCons (wC (.str (Str.ofString "a"))) aNil)))))
  (sSeq (sIf (tOrT (tCmpT cLeT (w2 rIxTT (wVar 9) (wC (.int 2))) (wC (.int 0))) (tCmpT cLeT (wCall Z2f (aCons (wCall Z0d (aCons (w2 rIxTT (wVar 4) (wC (.int 1))) (aCons (w2 rIxTT (wVar 4) (wC (.int 2))) aNil))) (aCons (wVar 9) aNil))) (wC (.int 0)))) (sRet (wCmp cEqT (wVar 5) (wTup (aCons (wC (.int 0)) (aCons (wC (.int 1)) aNil))))) sNext)
  (sSeq (sSet 6 (wComp (iSeq (wSl (wVar 1) (wo (wC (.int 1))) wo0)) (gN 0) tTrue (wCall Z0a (aCons (wVar 1) (aCons (wVar 0) (aCons (wVar 2) aNil)))) 1 [4,9]))
  (sSeq (sIf (tCmpT cNeT (wVar 5) (wCall Z2Z (aCons (wVar 6) aNil))) (sRet (wC (.bl false))) sNext)
  (sSeq (sFor (iRange2 (aCons (wC (.int 1)) (aCons (wCB rLenT (aCons (wVar 1) aNil)) aNil))) (gN 7) Z3g)
  (sRet (wCmp cEqT (wCall Z06 (aCons (wTup (aCons (wVar 0) (aCons (wLst aNil) (aCons (wLst (aCons (wTup (aCons (wC (.str (Str.ofString "a"))) (aCons (wVar 4) (aCons (w2 rIxTT (wVar 2) (wC (.int 0))) aNil)))) aNil)) aNil)))) (aCons (wVar 8) (aCons (wC (.str (Str.ofString "a"))) aNil)))) (wTup (aCons (wC (.int 1)) (aCons (wC (.int 1)) aNil))))))))))))
theorem hour_b0{D:DT}{us xs ys:List T}{p:Pl×Tr}{r:List (Pl×Tr)}{h:Int}{d:Tr}{F:Rat}{G:Pl->List Pq}{j:Nat}{s3 s6 s10:Slot}(hj:j < r.length)(Y:Yok p r)(hp:∀A∈r.map fun q=>G q.1,Prt 9 A)(ex:xs=(p::r).map fun p=>plT p.1)(ey:ys=(p::r).map fun p=>trT p.2)(eF:F=1 - jnS (r.map fun q=>G q.1))(bF:Bq 1985 F)
  (cL:∀{r':List (Pl×Tr)}{Q:T->Prop},Yok p r'->(Bq 1985 (1 - jnS (r'.map fun q=>G q.1))->Q (fq (1 - jnS (r'.map fun q=>G q.1))))->Z06 [.tup [.lst us,.lst ((yW (p::r')).map thT),.lst ((yD (p::r')).map thT)],.int h,.str nmA] Q)
  (hn:∀s10,D.nx [.val (.lst us),.val (.lst xs),.val (.lst ys),s3,.val (plT p.1),.val (fq F),s6,.val (.int (j + 1:Nat)),.val (.int h),.val (trT d),s10]) :
  Z3g D [.val (.lst us),.val (.lst xs),.val (.lst ys),s3,.val (plT p.1),.val (fq F),s6,.val (.int (j + 1:Nat)),.val (.int h),.val (trT d),s10]:=by
 have Y':=Y.del j
 have l3:=Y.len
 have lx:xs.length=r.length + 1:=by rw[ex];simp
 have ly:ys.length=r.length + 1:=by rw[ey];simp
 have kx:cutT xs none (some ((j + 1:Nat):Int))++cutT xs (some (((j + 1:Nat):Int) + 1)) none=(p::r.eraseIdx j).map fun p=>plT p.1:=by
  rw[cut_del (by omega),ex,map_del,List.eraseIdx_cons_succ]
 have ky:cutT ys none (some ((j + 1:Nat):Int))++cutT ys (some (((j + 1:Nat):Int) + 1)) none=(p::r.eraseIdx j).map fun p=>trT p.2:=by
  rw[cut_del (by omega),ey,map_del,List.eraseIdx_cons_succ]
 have bx:(cutT xs none (some ((j + 1:Nat):Int))++cutT xs (some (((j + 1:Nat):Int) + 1)) none).length<=10:=by
  rw[kx,List.length_map,List.length_cons];have:=Y'.len;omega
 have by':(cutT ys none (some ((j + 1:Nat):Int))++cutT ys (some (((j + 1:Nat):Int) + 1)) none).length<=10:=by
  rw[ky,List.length_map,List.length_cons];have:=Y'.len;omega
 have lt:¬ (1 - jnS ((r.eraseIdx j).map fun q=>G q.1) < F):=by
  rw[eF,← map_del]
  have:=jn_fewer (ps:=r.map fun q=>G q.1) (by rw[List.length_map];exact l3) hp j
  grind
 obtain⟨SL,hSL⟩:∃S,S=Z06:=⟨_,rfl⟩
 obtain⟨SY,hSY⟩:∃S,S=Z13:=⟨_,rfl⟩
 obtain⟨SU,hSU⟩:∃S,S=Z2q:=⟨_,rfl⟩
 have cY:∀{Q:T->Prop},Q (.tup [.lst us,.lst ((yW (p::r.eraseIdx j)).map thT),.lst ((yD (p::r.eraseIdx j)).map thT)])->SY [.lst us,.lst (cutT xs none (some ((j + 1:Nat):Int))++cutT xs (some (((j + 1:Nat):Int) + 1)) none),.lst (cutT ys none (some ((j + 1:Nat):Int))++cutT ys (some (((j + 1:Nat):Int) + 1)) none)] Q:=fun q=>by
  rw[hSY,kx,ky]
  exact⟨_,_,rfl,by simp,by have:=Y'.len;rw[List.length_cons];omega,q⟩
 have cL':=fun {Q:T->Prop}=>cL (Q:=Q) Y'
 rw[← hSL]at cL'
 clear cL
 obtain⟨V,hV⟩:∃V,V=1 - jnS ((r.eraseIdx j).map fun q=>G q.1):=⟨_,rfl⟩
 rw[← hV]at cL' lt
 have cU:∀{Q:T->Prop},Bq 1985 V->Q (.bl false)->SU [fq V,fq F] Q:=fun b q=>by
  rw[hSU]
  refine⟨V,F,rfl,b.mono (by decide),bF.mono (by decide),?_⟩
  rw[decide_eq_false lt]
  exact q
 obtain⟨A,hA⟩:∃A,A=(yW (p::r.eraseIdx j)).map thT:=⟨_,rfl⟩
 obtain⟨B,hB⟩:∃A,A=(yD (p::r.eraseIdx j)).map thT:=⟨_,rfl⟩
 rw[← hA,← hB]at cY cL'
 clear hA hB kx ky hV ex ey eF lt Y' Y hp
 unfold Z3g
 rw[← hSL,← hSY,← hSU]
 generalize ((j + 1:Nat):Int)=k at *
 rw[List.length_append]at bx by'
 walk_at "go"
 refine⟨by omega,?_⟩
 walk_at "go"
 refine⟨by omega,?_⟩
 walk_at "go"
 refine cY ?_
 walk_at "go"
 refine cL' fun bV=>?_
 walk_at "go"
 refine cU bV ?_
 walk_at "go"
 exact hn _
theorem at_0{x:T}{xs:List T}:atI (x::xs) 0=some x:=by
 unfold atI
 rw[show ixN (x::xs).length 0=some 0 by unfold ixN;simp]
 rfl
theorem Z6N:∀ts Q,Z2E ts Q->Z5v {nx:=fun _=>Q .non,rt:=Q} (startT 11 ts):=by
 rintro _ Q ⟨d0,d1,p,r,k,rfl,hk,h1,Y,w0,w1,q⟩
 obtain⟨h,d,wd,ek,es,lh⟩:∃(h:Int) (d:Tr),WiT 70 d/\atI ((suT d0 d1).map sT) k=some (.tup [.int h,trT d])/\sunAt (suT d0 d1) h=some (h,d)/\h.natAbs.log2 < 1920:=by
  rcases hk with rfl|rfl
  ·exact⟨7,d0,w0,rfl,rfl,by decide⟩
  ·exact⟨9,d1,w1,rfl,rfl,by decide⟩
 have l3:=Y.len
 have l50:∀{b:Int}{t:Tr},WiT b t->b<=1000000000000->LimT 50 t:=fun h hb=>(wiT_lim h hb).mono (by decide)
 obtain⟨G,hG⟩:∃G:Pl->List Pq,∀x,G x=shP p.1 d x:=⟨_,fun _=>rfl⟩
 obtain⟨us,eu⟩:∃us,us=(suT d0 d1).map sT:=⟨_,rfl⟩
 obtain⟨xs,ex⟩:∃xs,xs=(p::r).map fun p=>plT p.1:=⟨_,rfl⟩
 obtain⟨ys,ey⟩:∃ys,ys=(p::r).map fun p=>trT p.2:=⟨_,rfl⟩
 have cL0:∀{r':List (Pl×Tr)}{Q:T->Prop},Yok p r'->((0 < d.2.2/\0 < dotI (crs p.1.2.1 p.1.2.2) d)->Bq 1985 (1 - jnS (r'.map fun q=>G q.1))->Q (fq (1 - jnS (r'.map fun q=>G q.1))))->(¬ (0 < d.2.2/\0 < dotI (crs p.1.2.1 p.1.2.2) d)->Q (fq 0))->Z06 [.tup [.lst us,.lst ((yW (p::r')).map thT),.lst ((yD (p::r')).map thT)],.int h,.str nmA] Q:=fun Y' q1 q2=>by
  rw[eu]
  exact lit_yd (e:=(h,d)) hG Y'.len lh es (l50 wd (by decide)) (l50 Y.s (by decide)) (l50 Y.o (by decide)) (fun z=>⟨Y'.sz wd z.2,q1 z⟩) q2
 have cY0:∀{Q:T->Prop},Q (.tup [.lst us,.lst ((yW (p::r)).map thT),.lst ((yD (p::r)).map thT)])->Z13 [.lst us,.lst xs,.lst ys] Q:=fun q=>by
  rw[ex,ey]
  exact⟨_,_,rfl,by simp,by rw[List.length_cons];omega,q⟩
 have ax:atI xs 0=some (plT p.1):=by rw[ex];exact at_0
 have ay:atI ys 0=some (trT p.2):=by rw[ey];exact at_0
 have kx:cutT xs (some 1) none=r.map fun p=>plT p.1:=by
  rw[ex]
  exact cut_fro (k:=1) (by simp)
 have lx:xs.length=r.length + 1:=by rw[ex];simp
 have b0:=fun (z:0 < d.2.2/\0 < dotI (crs p.1.2.1 p.1.2.2) d) {D:DT} {j:Nat} {s3 s6 s10:Slot} (hj:j < r.length) (bF:Bq 1985 (1 - jnS (r.map fun q=>G q.1)))=>hour_b0 (D:=D) (us:=us) (h:=h) (d:=d) (s3:=s3) (s6:=s6) (s10:=s10) hj Y (fun A hA=>by
   obtain⟨q,hq,rfl⟩:=List.mem_map.mp hA
   rw[hG]
   exact(shT_ok (Y.sz wd z.2 q hq)).2) ex ey rfl bF (fun {r' Q} Y' q=>cL0 Y' (fun _=>q) fun n=>absurd z n)
 have cS:0 < dotI (crs p.1.2.1 p.1.2.2) d->∀q∈r,∀{R:T->Prop},R (pqL (G q.1))->Z0a [plT p.1,plT q.1,trT d] R:=fun z q hq R hR=>by
  rw[hG]at hR
  exact shaded_cal (Y.sz wd z q hq) hR
 have pr:0 < dotI (crs p.1.2.1 p.1.2.2) d->∀A∈r.map fun q=>G q.1,Prt 9 A:=fun z A hA=>by
  obtain⟨q,hq,rfl⟩:=List.mem_map.mp hA
  rw[hG]
  exact(shT_ok (Y.sz wd z q hq)).2
 obtain⟨V,hV⟩:∃V,V=1 - jnS (r.map fun q=>G q.1):=⟨_,rfl⟩
 obtain⟨SL,hSL⟩:∃S,S=Z06:=⟨_,rfl⟩
 obtain⟨SY,hSY⟩:∃S,S=Z13:=⟨_,rfl⟩
 obtain⟨SF,hSF⟩:∃S,S=Z2Z:=⟨_,rfl⟩
 obtain⟨SX,hSX⟩:∃S,S=Z0d:=⟨_,rfl⟩
 obtain⟨SD,hSD⟩:∃S,S=Z2f:=⟨_,rfl⟩
 obtain⟨SS,hSS⟩:∃S,S=Z0a:=⟨_,rfl⟩
 obtain⟨W0,hW0⟩:∃W,W=Z3g:=⟨_,rfl⟩
 obtain⟨A,hA⟩:∃A,A=(yW (p::r)).map thT:=⟨_,rfl⟩
 obtain⟨B,hB⟩:∃A,A=(yD (p::r)).map thT:=⟨_,rfl⟩
 have cLe:=fun {Q:T->Prop}=>cL0 (Q:=Q) Y.nil
 have cLr:=fun {Q:T->Prop}=>cL0 (Q:=Q) Y
 clear cL0 hG
 rw[← hV]at cLr b0
 rw[← hW0]at b0
 rw[← hSL]at cLe cLr
 rw[← hA,← hB]at cLr cY0
 rw[← hSY]at cY0
 rw[← hSS]at cS
 have cX:∀{Q:T->Prop},Q (trT (crs p.1.2.1 p.1.2.2))->SX [trT p.1.2.1,trT p.1.2.2] Q:=fun q=>by
  rw[hSX]
  exact⟨_,_,rfl,(l50 Y.s (by decide)).mono (by decide),(l50 Y.o (by decide)).mono (by decide),q⟩
 have cD:∀{Q:T->Prop},Q (.int (dotI (crs p.1.2.1 p.1.2.2) d))->SD [trT (crs p.1.2.1 p.1.2.2),trT d] Q:=fun q=>by
  rw[hSD]
  exact⟨_,_,rfl,lim_crs (wiT_lim Y.s (by decide)) (wiT_lim Y.o (by decide)) (by decide),(l50 wd (by decide)).mono (by decide),q⟩
 have cF:0 < dotI (crs p.1.2.1 p.1.2.2) d->∀{Q:T->Prop},Q (fq V)->SF [.lst ((r.map fun q=>G q.1).map pqL)] Q:=fun z Q q=>by
  rw[hSF]
  refine⟨_,rfl,by rw[List.length_map];exact l3,pr z,fun _=>?_⟩
  rw[lf_jn (by rw[List.length_map];exact l3) (pr z),← hV]
  exact q
 rw[← eu,← ex,← ey]
 rw[← eu]at ek
 unfold Z5v
 rw[← hW0,← hSL,← hSY,← hSF,← hSX,← hSD,← hSS]
 clear hSL hSY hSF hSX hSD hSS hA hB eu es lh pr w0 w1
 walk_at "go"
 rw[ek]
 walk_at "go"
 rw[ax]
 walk_at "go"
 refine cY0 ?_
 walk_at "go"
 refine cLr (fun z bV=>?_) fun z=>?_
 ·have n1:¬ d.2.2<=0:=by omega
  have n2:¬ dotI (crs p.1.2.1 p.1.2.2) d<=0:=by omega
  walk_at "go"
  rw[decide_eq_false n1]
  walk_at "go"
  refine cX ?_
  walk_at "go"
  refine cD ?_
  walk_at "go"
  rw[decide_eq_false n2]
  walk_at "go"
  rw[kx]
  refine⟨by rw[List.length_map];omega,?_⟩
  refine comp_map (f:=fun p:Pl×Tr=>plT p.1) (g:=fun q=>pqL (G q.1)) (E:=[.val (plT p.1),.val (trT d)]) r [] _ _ (fun q hq R hR=>?_) ?_
  ·have c1:=cS z.2 q hq hR
   walk_at "tw"
   exact c1
  rw[List.nil_append]
  have em:(r.map fun q=>pqL (G q.1))=(r.map fun q=>G q.1).map pqL:=by rw[List.map_map];rfl
  rw[em]
  have cF:=fun {Q:T->Prop}=>cF z.2 (Q:=Q)
  generalize (r.map fun q=>G q.1).map pqL=M at *
  have ok:EqOk (fq V) (fq V):=eqOk_fq _ _
  have ev:eqT (fq V) (fq V)=true:=by rw[eqT_fq];simp
  walk_at "go"
  refine cF ?_
  walk_at "go"
  refine⟨fun c=>(by rw[ev]at c;cases c),fun _=>?_⟩
  have b1:=fun {D:DT} {j:Nat} {s3 s6 s10:Slot} (hj:j < r.length)=>b0 z (D:=D) (s3:=s3) (s6:=s6) (s10:=s10) hj bV
  have cLe':∀{Q:T->Prop},Q (fq 1)->SL [.tup [.lst us,.lst [],.lst [.tup [.str nmA,plT p.1,trT p.2]]],.int h,.str nmA] Q:=fun {Q} q=>by
   have e0:(1:Rat) - jnS ([]:List (List Pq))=1:=by simp only[jnS];grind
   refine cLe (fun _ _=>?_) fun n=>absurd z n
   rw[List.map_nil,e0]
   exact q
  have ok1:EqOk (fq 1) (.tup [.int 1,.int 1]):=by
   rw[fq1]
   exact eqOk_fq _ _
  have ev1:eqT (fq 1) (.tup [.int 1,.int 1])=true:=by
   rw[fq1,eqT_fq];simp
  clear b0 cLe cLr cF cD cX cY0 cS hV em kx ex ey
  generalize fq V=v at *
  have rl:r.length=1∨r.length=2∨r.length=3:=by omega
  walk_at "tw"
  refine⟨⟨by decide,by decide,by omega,by omega⟩,?_⟩
  rw[lx,show (((r.length + 1:Nat):Int) - 1).toNat=r.length by omega]
  rcases rl with e|e|e
  ·rw[e,show rangeT 1 1=[T.int 1] from rfl]
   walk_at "go"
   refine b1 (j:=0) (by omega) fun s10=>?_
   walk_at "go"
   rw[ay]
   walk_at "go"
   refine cLe' ?_
   walk_at "go"
   rw[ev1]
   exact q
  ·rw[e,show rangeT 1 2=[T.int 1,T.int 2] from rfl]
   walk_at "go"
   refine b1 (j:=0) (by omega) fun s10=>?_
   walk_at "go"
   refine b1 (j:=1) (by omega) fun s10=>?_
   walk_at "go"
   rw[ay]
   walk_at "go"
   refine cLe' ?_
   walk_at "go"
   rw[ev1]
   exact q
  ·rw[e,show rangeT 1 3=[T.int 1,T.int 2,T.int 3] from rfl]
   walk_at "go"
   refine b1 (j:=0) (by omega) fun s10=>?_
   walk_at "go"
   refine b1 (j:=1) (by omega) fun s10=>?_
   walk_at "go"
   refine b1 (j:=2) (by omega) fun s10=>?_
   walk_at "go"
   rw[ay]
   walk_at "go"
   refine cLe' ?_
   walk_at "go"
   rw[ev1]
   exact q
 ·have fin:Q (.bl (eqT (fq 0) (.tup [.int 0,.int 1]))):=by
   rw[fq0,eqT_fq]
   simpa using q
  have ok:EqOk (fq 0) (.tup [.int 0,.int 1]):=by
   rw[fq0]
   exact eqOk_fq _ _
  walk_at "go"
  by_cases n1:d.2.2<=0
  ·rw[decide_eq_true n1]
   walk_at "go"
   exact fin
  ·rw[decide_eq_false n1]
   have n2:dotI (crs p.1.2.1 p.1.2.2) d<=0:=Int.not_lt.mp fun y=>z ⟨by omega,y⟩
   walk_at "go"
   refine cX ?_
   walk_at "go"
   refine cD ?_
   walk_at "go"
   rw[decide_eq_true n2]
   walk_at "go"
   exact fin
def Z18:SpT:=fun ts Q=>∃(ns:List Int) (k:Int),ts=[.lst (ns.map T.int),.int k]/\0<=k/\∀v:Int,Q (.int v)
theorem Z5w:∀ts Q,Z18 ts Q->ts.length=2:=by rintro ts Q ⟨_,_,e,_⟩;subst e;rfl
def Z3V:WS :=
 (sSeq (sIf (tCmpT cLtT (wVar 1) (wCB rLenT (aCons (wVar 0) aNil))) (sRet (w2 rIxTT (wVar 0) (wVar 1))) sNext)
  (sRet (wC (.int 0))))
theorem at_map{ns:List Int}{k:Int}(h0:0<=k)(h1:k < ns.length):∃v:Int,atI (ns.map T.int) k=some (.int v):=by
 unfold atI ixN
 rw[if_pos h0,List.length_map,if_pos h1]
 have h2:k.toNat < ns.length:=by omega
 refine⟨ns[k.toNat],?_⟩
 simp[h2]
theorem Z5T:∀ts Q,Z18 ts Q->Z3V {nx:=fun _=>Q .non,rt:=Q} (startT 2 ts):=by
 rintro _ Q ⟨ns,k,rfl,h0,h⟩
 unfold Z3V
 walk_at "go"
 rw[List.length_map]
 refine⟨fun z=>?_,fun z=>?_⟩
 ·obtain⟨v,e⟩:=at_map h0 (of_decide_eq_true z)
  walk_at "go"
  rw[e]
  exact h v
 ·walk_at "go"
  exact h 0
def Z2s:WS :=
 (sSeq (sSet 10 (w2 rAddT (wCall Z18 (aCons (wVar 0) (aCons (w2 rAddT (wC (.int 5)) (w2 rMulT (wVar 7) (wC (.int 2)))) aNil))) (wVar 7)))
  (sSeq (sApp 5 (wCall Z2r (aCons (wVar 2) (aCons (wVar 4) (aCons (wVar 10) aNil)))))
  (sApp 6 (wCall Z2L (aCons (wOIx 5 (wNeg (wC (.int 1)))) (aCons (wVar 10) aNil))))))
def Z4h:WS :=
 (sSeq (sIf (tOrT (tCmpT cIsN (wVar 3) (wC .non)) (tOrT (tCmpT cEqT (wVar 4) (wTup (aCons (wC (.int 0)) (aCons (wC (.int 0)) (aCons (wC (.int 0)) aNil))))) (tVal (wCall Z1L (aCons (wLst (aCons (wVar 4) aNil)) aNil))))) (sRet (wC (.bl true))) sNext)
  (sSeq (sOwn 5 (aCons (wVar 2) aNil))
  (sSeq (sOwn 6 (aCons (wVar 3) aNil))
  (sSeq (sFor (iRange1 (aCons (w2 rAddT (wC (.int 1)) (wCall Z09 (aCons (wVar 1) (aCons (wC (.int 71)) (aCons (wC (.int 3)) aNil))))) aNil)) (gN 7) Z2s)
  (sSeq (sSet 8 (wLst (aCons (wTup (aCons (wC (.int 7)) (aCons (wVar 4) aNil))) (aCons (wTup (aCons (wC (.int 9)) (aCons (wCall Z1g (aCons (wCall Z0d (aCons (w2 rIxTT (wVar 2) (wC (.int 1))) (aCons (w2 rIxTT (wVar 2) (wC (.int 2))) aNil))) (aCons (wCall Z0P (aCons (wVar 1) (aCons (wC (.int 50)) aNil))) aNil))) aNil))) aNil))))
  (sFrz 5 (sFrz 6 (sSeq (sSet 9 (wCall Z06 (aCons (wCall Z13 (aCons (wVar 8) (aCons (wVar 5) (aCons (wVar 6) aNil)))) (aCons (wC (.int 7)) (aCons (wC (.str (Str.ofString "a"))) aNil)))))
  (sSeq (sIf (tOrT (tNotT (tVal (wCall Z2E (aCons (wVar 8) (aCons (wVar 5) (aCons (wVar 6) (aCons (wC (.int 0)) aNil))))))) (tNotT (tVal (wCall Z2E (aCons (wVar 8) (aCons (wVar 5) (aCons (wVar 6) (aCons (wC (.int 1)) aNil)))))))) (sRet (wC (.bl false))) sNext)
  (sRet (wCmp cEqT (wCall Z06 (aCons (wCall Z13 (aCons (wVar 8) (aCons (wVar 5) (aCons (wVar 6) aNil)))) (aCons (wC (.int 7)) (aCons (wC (.str (Str.ofString "a"))) aNil)))) (wVar 9))))))))))))
def Z6e:WS :=
 (sSeq (sSet 1 (wCall Z18 (aCons (wVar 0) (aCons (wC (.int 0)) aNil))))
  (sSeq (sSet 2 (wCall Z1t (aCons (wVar 1) (aCons (wC (.int 0)) aNil))))
  (sSeq (sSet 3 (wCall Z2L (aCons (wVar 2) (aCons (wVar 1) aNil))))
  (sSeq (sSet 4 (wCall Z0P (aCons (wVar 1) (aCons (wC (.int 10)) aNil))))
  (sSeq (sIf (tCmpT cGtT (wCall Z09 (aCons (wVar 1) (aCons (wC (.int 70)) (aCons (wC (.int 6)) aNil)))) (wC (.int 0))) (sSet 4 (wCall Z1g (aCons (wCall Z0d (aCons (w2 rIxTT (wVar 2) (wC (.int 1))) (aCons (w2 rIxTT (wVar 2) (wC (.int 2))) aNil))) (aCons (wVar 4) aNil)))) sNext)
  Z4h)))))
theorem at_lst{xs:List T}{x:T}:atI (xs++[x]) (-1)=some x:=by
 unfold atI ixN
 rw[if_neg (by decide),if_pos (by simp;omega),show ((-1:Int) + ((xs++[x]).length:Nat)).toNat=xs.length by simp;omega]
 simp
theorem law_b0{D:DT}{ns:List Int}{s1 s3 s8 s9 s10:Slot}{p:Pl}{d:Tr}{us vs:List T}{k:Int}(wc:WiT E9 p.1)(ws:WiT E9 p.2.1)(wo:WiT E9 p.2.2)(wd:WiT (E9 + 10) d)(h0:0<=k)(h3:k<=3)(lu:us.length < 10)(lv:vs.length < 10)
  (hn:∀(q:Pl)(t:Tr)(s10:Slot),WiT 600 q.1->WiT 120 q.2.1->WiT 120 q.2.2->crs q.2.1 q.2.2≠(0,0,0)->D.nx [.val (.lst (ns.map T.int)),s1,.val (plT p),s3,.val (trT d),.own (us++[plT q]),.own (vs++[trT t]),.val (.int k),s8,s9,s10]) :
  Z2s D [.val (.lst (ns.map T.int)),s1,.val (plT p),s3,.val (trT d),.own us,.own vs,.val (.int k),s8,s9,s10]:=by
 obtain⟨SC,hSC⟩:∃S,S=Z18:=⟨_,rfl⟩
 have cC:∀{Q:T->Prop},(∀v:Int,Q (.int v))->SC [.lst (ns.map T.int),.int (5 + k * 2)] Q:=fun q=>by rw[hSC];exact⟨_,_,rfl,by omega,q⟩
 obtain⟨SA,hSA⟩:∃S,S=Z2r:=⟨_,rfl⟩
 have cA:∀{v:Int}{Q:T->Prop},(∀c' s' o':Tr,WiT 600 c'->WiT 120 s'->WiT 120 o'->crs s' o'≠(0,0,0)->Q (ptl c' s' o'))->SA [plT p,trT d,.int v] Q:=fun q=>by rw[hSA];exact⟨_,_,_,_,_,rfl,wc,ws,wo,wd,q⟩
 obtain⟨ST,hST⟩:∃S,S=Z2L:=⟨_,rfl⟩
 have mo:MulOk k 2:=mulOk (m:=1) (n:=1) (Lim.of (by omega) (by omega)) (Lim.of (by decide) (by decide))
 unfold Z2s
 rw[← hSC,← hSA,← hST]
 walk_at "go"
 refine cC fun v=>?_
 walk_at "go"
 refine cA fun c' s' o' w1 w2' w3 n=>?_
 have cT:∀{v:Int}{Q:T->Prop},(∀t:Tr,Q (trT t))->ST [ptl c' s' o',.int v] Q:=fun q=>by rw[hST];exact⟨_,_,_,_,rfl,w1,w2',w3,n,q⟩
 walk_at "go"
 refine⟨by omega,?_⟩
 have al:=at_lst (xs:=us) (x:=ptl c' s' o')
 walk_at "go"
 rw[al]
 walk_at "go"
 refine cT fun t=>?_
 exact⟨by omega,hn (c',s',o') t _ w1 w2' w3 n⟩
theorem law_loop{D:DT}{ns:List Int}{s1 s3 s8 s9:Slot}{p:Pl×Tr}{d:Tr}(wd:WiT (E9 + 10) d):∀(n:Nat)(k:Int)(r:List (Pl×Tr))(s7 s10:Slot),Yok p r->r.length + n<=3->0<=k->k + n<=3->(∀(r':List (Pl×Tr))(s7 s10:Slot),Yok p r'->r'.length=r.length + n->D.nx [.val (.lst (ns.map T.int)),s1,.val (plT p.1),s3,.val (trT d),.own ((p::r').map fun p=>plT p.1),.own ((p::r').map fun p=>trT p.2),s7,s8,s9,s10]) →
  forT (gN 7) Z2s (rangeT k n) D [.val (.lst (ns.map T.int)),s1,.val (plT p.1),s3,.val (trT d),.own ((p::r).map fun p=>plT p.1),.own ((p::r).map fun p=>trT p.2),s7,s8,s9,s10]
 | 0,k,r,s7,s10,Y,hl,h0,h3,hn=>by
  simp only[rangeT,forT]
  exact hn _ _ _ Y rfl
 | n + 1,k,r,s7,s10,Y,hl,h0,h3,hn=>by
  have ih:=fun r' s7 s10 Y' hl' hn'=>law_loop (D:=D) (ns:=ns) (s1:=s1) (s3:=s3) (s8:=s8) (s9:=s9) (p:=p) wd n (k + 1) r' s7 s10 Y' hl' (by omega) (by omega) hn'
  simp only[rangeT,forT]
  generalize forT (gN 7) Z2s (rangeT (k + 1) n) D=F at ih ⊢
  have ly:=Y.len
  refine law_b0 (D:={D with nx:=F,ct:=F,bk:=D.nx}) Y.c Y.s Y.o wd h0 (by omega) (by simp;omega) (by simp;omega) fun q t s10 w1 w2' w3 hq=>?_
  have Y':Yok p (r++[(q,t)]):=⟨by simp;omega,Y.c,Y.s,Y.o,fun x hx=>by
   rcases List.mem_append.mp hx with hx|hx
   ·exact Y.r x hx
   ·rw[List.mem_singleton.mp hx]
    exact⟨w1,w2',w3,hq⟩⟩
  have:=ih (r++[(q,t)]) (.val (.int k)) s10 Y' (by simp;omega) fun r' s7 s10 y e=>hn r' s7 s10 y (by rw[e];simp;omega)
  rw[← List.cons_append,List.map_append,List.map_append]at this
  exact this
theorem lit_some{d0 d1:Tr}{p:Pl×Tr}{r:List (Pl×Tr)}(Y:Yok p r)(wd:WiT 70 d0):∃a:Rat,∀{Q:T->Prop},Q (fq a)->Z06 [yardT (suT d0 d1) (yW (p::r)) (yD (p::r)),.int 7,.str nmA] Q:=by
 have l50:∀{b:Int}{t:Tr},WiT b t->b<=1000000000000->LimT 50 t:=fun h hb=>(wiT_lim h hb).mono (by decide)
 obtain⟨G,hG⟩:∃G:Pl->List Pq,∀x,G x=shP p.1 d0 x:=⟨_,fun _=>rfl⟩
 have c:=fun {Q:T->Prop}=>lit_yd (Q:=Q) (sun:=suT d0 d1) (h:=7) (e:=(7,d0)) (p:=p) (r:=r) hG Y.len (by decide) rfl (l50 wd (by decide)) (l50 Y.s (by decide)) (l50 Y.o (by decide))
 by_cases z:0 < d0.2.2/\0 < dotI (crs p.1.2.1 p.1.2.2) d0
 ·exact⟨_,fun q=>c (fun _=>⟨Y.sz wd z.2,fun _=>q⟩) fun n=>absurd z n⟩
 ·exact⟨0,fun q=>c (fun y=>absurd y z) fun _=>q⟩
theorem Z6Y:∀ts Q,lawSp ts Q->Z6e {nx:=fun _=>Q .non,rt:=Q} (startT 11 ts):=by
 rintro _ Q ⟨ns,rfl,hl,h⟩
 obtain⟨SC,hSC⟩:∃S,S=Z18:=⟨_,rfl⟩
 have cC:∀{Q:T->Prop},(∀v:Int,Q (.int v))->SC [.lst (ns.map T.int),.int 0] Q:=fun q=>by rw[hSC];exact⟨_,_,rfl,by decide,q⟩
 obtain⟨SD,hSD⟩:∃S,S=Z09:=⟨_,rfl⟩
 have cd:∀{k j many:Int}{Q:T->Prop},0<=j->j<=1000->1<=many->many<=10 ^ 12->(∀r:Int,0<=r->r < many->Q (.int r))->SD [.int k,.int j,.int many] Q:=fun h1 h2 h3 h4 q=>by rw[hSD];exact⟨_,_,_,rfl,h1,h2,h3,h4,q⟩
 obtain⟨SP,hSP⟩:∃S,S=Z1t:=⟨_,rfl⟩
 have cp:∀{k:Int}{Q:T->Prop},(∀x y z:Tr,WiT E9 x->WiT E9 y->WiT E9 z->crs y z≠(0,0,0)->Q (ptl x y z))->SP [.int k,.int 0] Q:=fun q=>by rw[hSP];exact⟨_,_,rfl,by decide,by decide,q⟩
 obtain⟨ST,hST⟩:∃S,S=Z2L:=⟨_,rfl⟩
 obtain⟨SI,hSI⟩:∃S,S=Z0P:=⟨_,rfl⟩
 have ct:∀{k j:Int}{Q:T->Prop},0<=j->j<=300->(∀t:Tr,WiT E9 t->Q (trT t))->SI [.int k,.int j] Q:=fun h1 h2 q=>by rw[hSI];exact⟨_,_,rfl,h1,h2,q⟩
 obtain⟨SX,hSX⟩:∃S,S=Z0d:=⟨_,rfl⟩
 obtain⟨SA,hSA⟩:∃S,S=Z1g:=⟨_,rfl⟩
 obtain⟨SF,hSF⟩:∃S,S=Z1L:=⟨_,rfl⟩
 have cF:∀{a:Tr}{Q:T->Prop},WiT 100000 a->Q (.bl false)->SF [.lst [trT a]] Q:=fun {a Q} h1 q=>by
  rw[hSF]
  refine⟨[a],rfl,by simp,fun t ht=>?_,q⟩
  rw[List.mem_singleton.mp ht]
  exact h1
 obtain⟨SL,hSL⟩:∃S,S=Z06:=⟨_,rfl⟩
 obtain⟨SY,hSY⟩:∃S,S=Z13:=⟨_,rfl⟩
 obtain⟨SH,hSH⟩:∃S,S=Z2E:=⟨_,rfl⟩
 obtain⟨W0,hW0⟩:∃W,W=Z2s:=⟨_,rfl⟩
 obtain⟨K0,hK0⟩:∃W,W=Z4h:=⟨_,rfl⟩
 have up:∀{t:Tr},WiT E9 t->WiT (E9 + 10) t:=fun h=>wi_up h (by decide)
 have k0:∀{v:Int}{c s o t d:Tr},WiT E9 c->WiT E9 s->WiT E9 o->crs s o≠(0,0,0)->WiT (E9 + 10) d->K0 {nx:=fun _=>Q .non,rt:=Q} [.val (.lst (ns.map T.int)),.val (.int v),.val (ptl c s o),.val (trT t),.val (trT d),.no,.no,.no,.no,.no,.no]:=fun {v c s o t d} wc ws wo hn wd=>by
  have cX:∀{Q:T->Prop},Q (trT (crs s o))->SX [trT s,trT o] Q:=fun z=>by rw[hSX];exact⟨_,_,rfl,(wiT_lim ws (by decide)).mono (by decide),(wiT_lim wo (by decide)).mono (by decide),z⟩
  have cA:∀{t:Tr}{Q:T->Prop},WiT E9 t->(∀r:Tr,WiT (E9 + 10) r->0 < dotI (crs s o) r->Q (trT r))->SA [trT (crs s o),trT t] Q:=fun h3 q=>by rw[hSA];exact⟨_,_,rfl,(lim_crs (wiT_lim ws (by decide)) (wiT_lim wo (by decide)) (k:=27) (by decide)).mono (by decide),hn,h3,q⟩
  rw[hK0]
  unfold Z4h
  rw[← hSD,← hSI,← hSX,← hSA,← hSF,← hSL,← hSY,← hSH,← hW0]
  have ok:=eqOk_tri d.1 d.2.1 d.2.2 0 0 0
  have eq:=eqT_tr d (0,0,0)
  by_cases hd:d=(0,0,0)
  ·rw[decide_eq_true hd]at eq
   have e':eqT (trT d) (.tup [.int 0,.int 0,.int 0])=true:=eq
   walk_at "go"
   rw[e']
   walk_at "go"
   exact h
  ·rw[decide_eq_false hd]at eq
   have e':eqT (trT d) (.tup [.int 0,.int 0,.int 0])=false:=eq
   walk_at "go"
   rw[e']
   walk_at "go"
   refine cF (wi_up wd (by decide)) ?_
   walk_at "go"
   refine cd (by decide) (by decide) (by decide) (by decide) fun i i0 i1=>?_
   walk_at "go"
   refine⟨⟨by omega,by omega⟩,?_⟩
   have Y0:Yok ((c,s,o),t) []:=⟨by simp,wc,ws,wo,fun q hq=>nomatch hq⟩
   rw[hW0]
   refine law_loop (p:=((c,s,o),t)) wd (1 + i).toNat 0 [] _ _ Y0 (by simp;omega) (by decide) (by omega) fun r s7 s10 Y hr=>?_
   have r1:1<=r.length:=by rw[hr];simp;omega
   have r3:=Y.len
   obtain⟨xs,ex⟩:∃xs,xs=(((c,s,o),t)::r).map fun p=>plT p.1:=⟨_,rfl⟩
   obtain⟨ys,ey⟩:∃ys,ys=(((c,s,o),t)::r).map fun p=>trT p.2:=⟨_,rfl⟩
   rw[← ex,← ey]
   walk_at "go"
   refine cX ?_
   walk_at "go"
   refine ct (by decide) (by decide) fun d1 wd1=>?_
   walk_at "go"
   refine cA wd1 fun e we _=>?_
   obtain⟨a,ca⟩:=lit_some (d1:=e) Y (wi_up wd (by decide))
   obtain⟨us,eu⟩:∃us,us=(suT d e).map sT:=⟨_,rfl⟩
   obtain⟨A,hA⟩:∃A,A=(yW (((c,s,o),t)::r)).map thT:=⟨_,rfl⟩
   obtain⟨B,hB⟩:∃A,A=(yD (((c,s,o),t)::r)).map thT:=⟨_,rfl⟩
   have cY:∀{Q:T->Prop},Q (.tup [.lst us,.lst A,.lst B])->SY [.lst us,.lst xs,.lst ys] Q:=fun q=>by
    rw[hSY,ex,ey]
    rw[hA,hB]at q
    exact⟨_,_,rfl,by simp,by rw[List.length_cons];omega,q⟩
   have cH:∀{k:Int}{Q:T->Prop},k=0∨k=1->Q (.bl true)->SH [.lst us,.lst xs,.lst ys,.int k] Q:=fun hk q=>by
    rw[hSH,ex,ey,eu]
    exact⟨_,_,_,_,_,rfl,hk,r1,Y,wi_up wd (by decide),wi_up we (by decide),q⟩
   have cL:∀{Q:T->Prop},Q (fq a)->SL [.tup [.lst us,.lst A,.lst B],.int 7,.str nmA] Q:=fun q=>by
    rw[hSL,eu,hA,hB]
    exact ca q
   have ok1:EqOk (fq a) (fq a):=eqOk_fq _ _
   have ev:eqT (fq a) (fq a)=true:=by rw[eqT_fq];simp
   have eu':[T.tup [.int 7,trT d],.tup [.int 9,trT e]]=us:=eu.symm
   clear ca hA hB ex ey eu
   walk_at "go"
   rw[eu']
   refine cY ?_
   walk_at "go"
   refine cL ?_
   walk_at "go"
   refine cH (.inl rfl) ?_
   walk_at "go"
   refine cH (.inr rfl) ?_
   walk_at "go"
   refine cY ?_
   walk_at "go"
   refine cL ?_
   walk_at "go"
   rw[ev]
   exact h
 have cT:∀{c s o:Tr}{v:Int}{Q:T->Prop},WiT E9 c->WiT E9 s->WiT E9 o->crs s o≠(0,0,0)->(∀t:Tr,Q (trT t))->ST [ptl c s o,.int v] Q:=fun wc ws wo n q=>by rw[hST];exact⟨_,_,_,_,rfl,wi_up wc (by decide),wi_up ws (by decide),wi_up wo (by decide),n,q⟩
 unfold Z6e
 rw[← hSC,← hSD,← hSP,← hST,← hSI,← hSX,← hSA,← hK0]
 clear hSC hSD hSP hST hSI hSF hSL hSY hSH hW0 hK0
 walk_at "go"
 refine cC fun v=>?_
 walk_at "go"
 refine cp fun c s o wc ws wo hn=>?_
 walk_at "go"
 refine cT wc ws wo hn fun t=>?_
 walk_at "go"
 refine ct (by decide) (by decide) fun d wd=>?_
 walk_at "go"
 refine cd (by decide) (by decide) (by decide) (by decide) fun i i0 i1=>?_
 walk_at "go"
 refine⟨fun _=>?_,fun _=>?_⟩
 ·have cX:∀{Q:T->Prop},Q (trT (crs s o))->SX [trT s,trT o] Q:=fun z=>by rw[hSX];exact⟨_,_,rfl,(wiT_lim ws (by decide)).mono (by decide),(wiT_lim wo (by decide)).mono (by decide),z⟩
  have cA:∀{t:Tr}{Q:T->Prop},WiT E9 t->(∀r:Tr,WiT (E9 + 10) r->0 < dotI (crs s o) r->Q (trT r))->SA [trT (crs s o),trT t] Q:=fun h3 q=>by rw[hSA];exact⟨_,_,rfl,(lim_crs (wiT_lim ws (by decide)) (wiT_lim wo (by decide)) (k:=27) (by decide)).mono (by decide),hn,h3,q⟩
  walk_at "go"
  refine cX ?_
  walk_at "go"
  refine cA wd fun r wr _=>?_
  exact k0 wc ws wo hn wr
 ·exact k0 wc ws wo hn (up wd)
local macro_rules|`(tactic| walk_at "v")=>`(tactic| exact⟨by first|exact Or.inl rfl|exact Or.inr (Or.inl rfl)|exact Or.inr (Or.inr rfl),by decide,by decide⟩)
local macro_rules|`(tactic| walk_at "s")=>`(tactic| exact⟨rfl,rfl,rfl,by decide +kernel,rfl,by decide +kernel,by decide +kernel⟩)
local macro_rules|`(tactic| walk_at "f")=>`(tactic| first|exact .inl rfl|exact .inr rfl|assumption)
theorem jV{X:Cx}(i:Nat){x:Str}{pos:Pos}(hN:X.N[i]?=some x) (h:Vis X.env.scope x/\(x==("__debug__" : Str))=false/\(x==("__classdict__" : Str))=false):JE X (.Name x pos) (wVar i):=jv i hN h.1 h.2.1 h.2.2
def top(i:Nat):Stmt:=PySem.Challenge.pw_dialyard_k77_whole_lit_by_parts.main.body.getD i (.Pass ⟨0,0,0,0⟩)
section
variable {P:Program} {w:World} {K:PySem.W.Frag} {mg:Str->Option Value} {base:Heap}
abbrev Z1U:Stmt:=top 50
theorem Z5U:FnScope ["_law_script", "_law_k"] ["_law_script", "_law_k"] (defScope Z1U):=by walk_at "s"
theorem Z5V{f:Addr}{fd:FuncData} (F:Fun K "_law_cell_at" "_law_cell_at" Z1U f fd) (m:mg "_law_cell_at" = some (.ref f)) (z_len:mg "len" = none):Cal P w K mg base 1 "_law_cell_at" ["_law_script", "_law_k"] Z18 :=
 .mk F m (F.binds fun _ _ _ _ _ _ us hl=>args2 hl fun _ _=>rfl) (fnT (W:=Z3V) F Z5U Z5w (fun cdv A outer s H E hr =>
  (@jsc _ _ _ _ _ (@jsif _ _ _ _ _ _ _ _ (@tcmp _ _ _ _ _ _ _ _ c_lt (@jV _ 1 _ _ rfl (by walk_at "v")) (@jblt _ _ _ _ _ _ _ _ _ bl_len rfl z_len boot_len (@ja _ _ _ _ _ (@jV _ 0 _ _ rfl (by walk_at "v")) (@ja0 _) (star1 rfl)) (by decide) (by decide) (star1 rfl) (stars rfl)) (nomark _)) (@js1 _ _ _ (@jret _ _ _ _ (@jix _ _ _ _ _ _ (@jV _ 0 _ _ rfl (by walk_at "v")) (@jV _ 1 _ _ rfl (by walk_at "v")) (fun _ _=>rfl)))) (@js0 _)) (@js1 _ _ _ (@jret _ _ _ _ (@ji _ _ _ _))))) Z5T)
abbrev Z30:Stmt:=top 51
theorem Z31:FnScope ["_law_cell", "_law_k", "_law_many", "_law_number_here", "_law_left_here", "_law_j"] ["_law_cell", "_law_k", "_law_many"] (defScope Z30):=by walk_at "s"
theorem Z6O{f:Addr}{fd:FuncData} (F:Fun K "_law_draw" "_law_draw" Z30 f fd) (m:mg "_law_draw" = some (.ref f)) (z_range:mg "range" = none):Cal P w K mg base 1 "_law_draw" ["_law_cell", "_law_k", "_law_many"] Z09 :=
 .mk F m (F.binds fun _ _ _ _ _ _ us hl=>args3 hl fun _ _ _=>rfl) (fnT (W:=Z5s) F Z31 Z6n (fun cdv A outer s H E hr =>
  (@jsc _ _ _ _ _ (@jsif _ _ _ _ _ _ _ _ (@tcmp _ _ _ _ _ _ _ _ c_ge (@jV _ 0 _ _ rfl (by walk_at "v")) (@jop _ _ _ _ _ _ _ _ b_pow (@ji _ _ _ _) (@ji _ _ _ _)) (nomark _)) (@jsc _ _ _ _ _ (@jset _ _ _ _ (4) _ _ Z31.nd rfl (Or.inl rfl) (@jV _ 0 _ _ rfl (by walk_at "v")) (by rfl) (by walk_at "f")) (@jsc _ _ _ _ _ (@jfor _ _ _ _ _ _ _ _ PassesOwn.never rfl (@jiRange1 _ _ _ _ _ _ rfl z_range (@ja _ _ _ _ _ (@jV _ 1 _ _ rfl (by walk_at "v")) (@ja0 _) (star1 rfl)) (by rfl)) (@jg _ _ (5) _ Z31.nd rfl (Or.inl rfl) (by walk_at "f")) (@js1 _ _ _ (@jset _ _ _ _ (4) _ _ Z31.nd rfl (Or.inl rfl) (@jop _ _ _ _ _ _ _ _ b_div (@jV _ 4 _ _ rfl (by walk_at "v")) (@jop _ _ _ _ _ _ _ _ b_pow (@ji _ _ _ _) (@ji _ _ _ _))) (by rfl) (by walk_at "f"))) (fun _=>rfl)) (@js1 _ _ _ (@jsif _ _ _ _ _ _ _ _ (@tcmp _ _ _ _ _ _ _ _ c_gt (@jV _ 4 _ _ rfl (by walk_at "v")) (@ji _ _ _ _) (nomark _)) (@js1 _ _ _ (@jret _ _ _ _ (@jop _ _ _ _ _ _ _ _ b_mod (@jop _ _ _ _ _ _ _ _ b_mod (@jV _ 4 _ _ rfl (by walk_at "v")) (@jop _ _ _ _ _ _ _ _ b_pow (@ji _ _ _ _) (@ji _ _ _ _))) (@jV _ 2 _ _ rfl (by walk_at "v"))))) (@js0 _))))) (@js0 _)) (@jsc _ _ _ _ _ (@jset _ _ _ _ (3) _ _ Z31.nd rfl (Or.inl rfl) (@jop _ _ _ _ _ _ _ _ b_mod (@jop _ _ _ _ _ _ _ _ b_mul (@jop _ _ _ _ _ _ _ _ b_add (@jop _ _ _ _ _ _ _ _ b_add (@jop _ _ _ _ _ _ _ _ b_add (@jop _ _ _ _ _ _ _ _ b_mod (@jV _ 0 _ _ rfl (by walk_at "v")) (@ji _ _ _ _)) (@jop _ _ _ _ _ _ _ _ b_mul (@jop _ _ _ _ _ _ _ _ b_mul (@ji _ _ _ _) (@jV _ 1 _ _ rfl (by walk_at "v"))) (@jV _ 1 _ _ rfl (by walk_at "v")))) (@jop _ _ _ _ _ _ _ _ b_mul (@ji _ _ _ _) (@jV _ 1 _ _ rfl (by walk_at "v")))) (@ji _ _ _ _)) (@ji _ _ _ _)) (@ji _ _ _ _)) (by rfl) (by walk_at "f")) (@jsc _ _ _ _ _ (@jset _ _ _ _ (3) _ _ Z31.nd rfl (Or.inl rfl) (@jop _ _ _ _ _ _ _ _ b_mod (@jop _ _ _ _ _ _ _ _ b_add (@jop _ _ _ _ _ _ _ _ b_add (@jop _ _ _ _ _ _ _ _ b_mul (@jV _ 3 _ _ rfl (by walk_at "v")) (@jV _ 3 _ _ rfl (by walk_at "v"))) (@jop _ _ _ _ _ _ _ _ b_mul (@ji _ _ _ _) (@jV _ 1 _ _ rfl (by walk_at "v")))) (@ji _ _ _ _)) (@ji _ _ _ _)) (by rfl) (by walk_at "f")) (@js1 _ _ _ (@jret _ _ _ _ (@jop _ _ _ _ _ _ _ _ b_mod (@jop _ _ _ _ _ _ _ _ b_mod (@jop _ _ _ _ _ _ _ _ b_mul (@jV _ 3 _ _ rfl (by walk_at "v")) (@jV _ 3 _ _ rfl (by walk_at "v"))) (@ji _ _ _ _)) (@jV _ 2 _ _ rfl (by walk_at "v"))))))))) Z6E)
abbrev Z26:Stmt:=top 57
theorem Z4N:FnScope ["_law_cell", "_law_k", "_law_kind"] ["_law_cell", "_law_k"] (defScope Z26):=by walk_at "s"
theorem Z6f{f:Addr}{fd:FuncData} (F:Fun K "_law_number" "_law_number" Z26 f fd) (m:mg "_law_number" = some (.ref f)) (Z0x:Cal P w K mg base 1 "_law_draw" ["_law_cell", "_law_k", "_law_many"] Z09):Cal P w K mg base 2 "_law_number" ["_law_cell", "_law_k"] Z1R :=
 .mk F m (F.binds fun _ _ _ _ _ _ us hl=>args2 hl fun _ _=>rfl) (fnT (W:=Z4e) F Z4N Z5R (fun cdv A outer s H E hr =>
  (@jsc _ _ _ _ _ (@jset _ _ _ _ (2) _ _ Z4N.nd rfl (Or.inl rfl) (@jcallC _ _ _ _ _ _ _ _ _ _ Z0x (hr.mono (by omega)) rfl (@ja _ _ _ _ _ (@jV _ 0 _ _ rfl (by walk_at "v")) (@ja _ _ _ _ _ (@jop _ _ _ _ _ _ _ _ b_mul (@ji _ _ _ _) (@jV _ 1 _ _ rfl (by walk_at "v"))) (@ja _ _ _ _ _ (@ji _ _ _ _) (@ja0 _) (star1 rfl)) (star1 rfl)) (star1 rfl)) (by decide) (star1 rfl) (stars rfl)) (by rfl) (by walk_at "f")) (@jsc _ _ _ _ _ (@jsif _ _ _ _ _ _ _ _ (@tcmp _ _ _ _ _ _ _ _ c_lt (@jV _ 2 _ _ rfl (by walk_at "v")) (@ji _ _ _ _) (nomark _)) (@js1 _ _ _ (@jret _ _ _ _ (@jop _ _ _ _ _ _ _ _ b_sub (@jcallC _ _ _ _ _ _ _ _ _ _ Z0x (hr.mono (by omega)) rfl (@ja _ _ _ _ _ (@jV _ 0 _ _ rfl (by walk_at "v")) (@ja _ _ _ _ _ (@jop _ _ _ _ _ _ _ _ b_add (@jop _ _ _ _ _ _ _ _ b_mul (@ji _ _ _ _) (@jV _ 1 _ _ rfl (by walk_at "v"))) (@ji _ _ _ _)) (@ja _ _ _ _ _ (@ji _ _ _ _) (@ja0 _) (star1 rfl)) (star1 rfl)) (star1 rfl)) (by decide) (star1 rfl) (stars rfl)) (@ji _ _ _ _)))) (@js0 _)) (@jsc _ _ _ _ _ (@jsif _ _ _ _ _ _ _ _ (@tcmp _ _ _ _ _ _ _ _ c_lt (@jV _ 2 _ _ rfl (by walk_at "v")) (@ji _ _ _ _) (nomark _)) (@js1 _ _ _ (@jret _ _ _ _ (@jop _ _ _ _ _ _ _ _ b_sub (@jcallC _ _ _ _ _ _ _ _ _ _ Z0x (hr.mono (by omega)) rfl (@ja _ _ _ _ _ (@jV _ 0 _ _ rfl (by walk_at "v")) (@ja _ _ _ _ _ (@jop _ _ _ _ _ _ _ _ b_add (@jop _ _ _ _ _ _ _ _ b_mul (@ji _ _ _ _) (@jV _ 1 _ _ rfl (by walk_at "v"))) (@ji _ _ _ _)) (@ja _ _ _ _ _ (@ji _ _ _ _) (@ja0 _) (star1 rfl)) (star1 rfl)) (star1 rfl)) (by decide) (star1 rfl) (stars rfl)) (@ji _ _ _ _)))) (@js0 _)) (@js1 _ _ _ (@jret _ _ _ _ (@jop _ _ _ _ _ _ _ _ b_mul (@jix _ _ _ _ _ _ (@jlst _ _ _ _ (@ja _ _ _ _ _ (@ji _ _ _ _) (@ja _ _ _ _ _ (@jneg _ _ _ _ (@ji _ _ _ _)) (@ja0 _) (star1 rfl)) (star1 rfl))) (@jcallC _ _ _ _ _ _ _ _ _ _ Z0x (hr.mono (by omega)) rfl (@ja _ _ _ _ _ (@jV _ 0 _ _ rfl (by walk_at "v")) (@ja _ _ _ _ _ (@jop _ _ _ _ _ _ _ _ b_add (@jop _ _ _ _ _ _ _ _ b_mul (@ji _ _ _ _) (@jV _ 1 _ _ rfl (by walk_at "v"))) (@ji _ _ _ _)) (@ja _ _ _ _ _ (@ji _ _ _ _) (@ja0 _) (star1 rfl)) (star1 rfl)) (star1 rfl)) (by decide) (star1 rfl) (stars rfl)) (fun _ _=>rfl)) (@jop _ _ _ _ _ _ _ _ b_sub (@ji _ _ _ _) (@jop _ _ _ _ _ _ _ _ b_div (@jcallC _ _ _ _ _ _ _ _ _ _ Z0x (hr.mono (by omega)) rfl (@ja _ _ _ _ _ (@jV _ 0 _ _ rfl (by walk_at "v")) (@ja _ _ _ _ _ (@jop _ _ _ _ _ _ _ _ b_mul (@ji _ _ _ _) (@jV _ 1 _ _ rfl (by walk_at "v"))) (@ja _ _ _ _ _ (@ji _ _ _ _) (@ja0 _) (star1 rfl)) (star1 rfl)) (star1 rfl)) (by decide) (star1 rfl) (stars rfl)) (@ji _ _ _ _)))))))))) Z64)
abbrev Z27:Stmt:=top 58
theorem Z6g:FnScope ["_law_cell", "_law_k"] ["_law_cell", "_law_k"] (defScope Z27):=by walk_at "s"
theorem Z6h{f:Addr}{fd:FuncData} (F:Fun K "_law_triple" "_law_triple" Z27 f fd) (m:mg "_law_triple" = some (.ref f)) (Z32:Cal P w K mg base 2 "_law_number" ["_law_cell", "_law_k"] Z1R):Cal P w K mg base 3 "_law_triple" ["_law_cell", "_law_k"] Z0P :=
 .mk F m (F.binds fun _ _ _ _ _ _ us hl=>args2 hl fun _ _=>rfl) (fnT (W:=Z4f) F Z6g Z5S (fun cdv A outer s H E hr =>
  (@js1 _ _ _ (@jret _ _ _ _ (@jtup _ _ _ _ _ (@ja _ _ _ _ _ (@jcallC _ _ _ _ _ _ _ _ _ _ Z32 (hr.mono (by omega)) rfl (@ja _ _ _ _ _ (@jV _ 0 _ _ rfl (by walk_at "v")) (@ja _ _ _ _ _ (@jV _ 1 _ _ rfl (by walk_at "v")) (@ja0 _) (star1 rfl)) (star1 rfl)) (by decide) (star1 rfl) (stars rfl)) (@ja _ _ _ _ _ (@jcallC _ _ _ _ _ _ _ _ _ _ Z32 (hr.mono (by omega)) rfl (@ja _ _ _ _ _ (@jV _ 0 _ _ rfl (by walk_at "v")) (@ja _ _ _ _ _ (@jop _ _ _ _ _ _ _ _ b_add (@jV _ 1 _ _ rfl (by walk_at "v")) (@ji _ _ _ _)) (@ja0 _) (star1 rfl)) (star1 rfl)) (by decide) (star1 rfl) (stars rfl)) (@ja _ _ _ _ _ (@jcallC _ _ _ _ _ _ _ _ _ _ Z32 (hr.mono (by omega)) rfl (@ja _ _ _ _ _ (@jV _ 0 _ _ rfl (by walk_at "v")) (@ja _ _ _ _ _ (@jop _ _ _ _ _ _ _ _ b_add (@jV _ 1 _ _ rfl (by walk_at "v")) (@ji _ _ _ _)) (@ja0 _) (star1 rfl)) (star1 rfl)) (by decide) (star1 rfl) (stars rfl)) (@ja0 _) (star1 rfl)) (star1 rfl)) (star1 rfl)))))) Z65)
abbrev Z2t:Stmt:=top 59
theorem Z28:FnScope ["_law_one", "_law_other", "_law_a", "_law_b", "_law_c", "_law_d", "_law_e", "_law_f"] ["_law_one", "_law_other"] (defScope Z2t):=by walk_at "s"
theorem Z6w{f:Addr}{fd:FuncData} (F:Fun K "_law_cross" "_law_cross" Z2t f fd) (m:mg "_law_cross" = some (.ref f)):Cal P w K mg base 1 "_law_cross" ["_law_one", "_law_other"] Z0d :=
 .mk F m (F.binds fun _ _ _ _ _ _ us hl=>args2 hl fun _ _=>rfl) (fnT (W:=Z4J) F Z28 Z66 (fun cdv A outer s H E hr =>
  (@jsc _ _ _ _ _ (@jasg _ _ _ _ _ _ (@jgt _ _ _ _ _ _ rfl (@jgsc _ _ _ _ _ (@jg _ _ (2) _ Z28.nd rfl (Or.inl rfl) (by walk_at "f")) (@jgsc _ _ _ _ _ (@jg _ _ (3) _ Z28.nd rfl (Or.inl rfl) (by walk_at "f")) (@jgsc _ _ _ _ _ (@jg _ _ (4) _ Z28.nd rfl (Or.inl rfl) (by walk_at "f")) (@jgs0 _) (by rfl)) (by rfl)) (by rfl)) (by rfl) (by rfl)) (@jV _ 0 _ _ rfl (by walk_at "v")) (by rfl) (by rfl) (by rfl)) (@jsc _ _ _ _ _ (@jasg _ _ _ _ _ _ (@jgt _ _ _ _ _ _ rfl (@jgsc _ _ _ _ _ (@jg _ _ (5) _ Z28.nd rfl (Or.inl rfl) (by walk_at "f")) (@jgsc _ _ _ _ _ (@jg _ _ (6) _ Z28.nd rfl (Or.inl rfl) (by walk_at "f")) (@jgsc _ _ _ _ _ (@jg _ _ (7) _ Z28.nd rfl (Or.inl rfl) (by walk_at "f")) (@jgs0 _) (by rfl)) (by rfl)) (by rfl)) (by rfl) (by rfl)) (@jV _ 1 _ _ rfl (by walk_at "v")) (by rfl) (by rfl) (by rfl)) (@js1 _ _ _ (@jret _ _ _ _ (@jtup _ _ _ _ _ (@ja _ _ _ _ _ (@jop _ _ _ _ _ _ _ _ b_sub (@jop _ _ _ _ _ _ _ _ b_mul (@jV _ 3 _ _ rfl (by walk_at "v")) (@jV _ 7 _ _ rfl (by walk_at "v"))) (@jop _ _ _ _ _ _ _ _ b_mul (@jV _ 4 _ _ rfl (by walk_at "v")) (@jV _ 6 _ _ rfl (by walk_at "v")))) (@ja _ _ _ _ _ (@jop _ _ _ _ _ _ _ _ b_sub (@jop _ _ _ _ _ _ _ _ b_mul (@jV _ 4 _ _ rfl (by walk_at "v")) (@jV _ 5 _ _ rfl (by walk_at "v"))) (@jop _ _ _ _ _ _ _ _ b_mul (@jV _ 2 _ _ rfl (by walk_at "v")) (@jV _ 7 _ _ rfl (by walk_at "v")))) (@ja _ _ _ _ _ (@jop _ _ _ _ _ _ _ _ b_sub (@jop _ _ _ _ _ _ _ _ b_mul (@jV _ 2 _ _ rfl (by walk_at "v")) (@jV _ 6 _ _ rfl (by walk_at "v"))) (@jop _ _ _ _ _ _ _ _ b_mul (@jV _ 3 _ _ rfl (by walk_at "v")) (@jV _ 5 _ _ rfl (by walk_at "v")))) (@ja0 _) (star1 rfl)) (star1 rfl)) (star1 rfl)))))))) Z6p)
abbrev Z2u:Stmt:=top 61
theorem Z2v:FnScope ["_law_cell", "_law_k", "_law_side", "_law_other", "_law_unit"] ["_law_cell", "_law_k"] (defScope Z2u):=by walk_at "s"
theorem Z6x{f:Addr}{fd:FuncData} (F:Fun K "_law_plate" "_law_plate" Z2u f fd) (m:mg "_law_plate" = some (.ref f)) (Z1v:Cal P w K mg base 3 "_law_triple" ["_law_cell", "_law_k"] Z0P) (Z0D:Cal P w K mg base 1 "_law_cross" ["_law_one", "_law_other"] Z0d):Cal P w K mg base 4 "_law_plate" ["_law_cell", "_law_k"] Z1t :=
 .mk F m (F.binds fun _ _ _ _ _ _ us hl=>args2 hl fun _ _=>rfl) (fnT (W:=Z4K) F Z2v Z68 (fun cdv A outer s H E hr =>
  (@jsc _ _ _ _ _ (@jset _ _ _ _ (2) _ _ Z2v.nd rfl (Or.inl rfl) (@jcallC _ _ _ _ _ _ _ _ _ _ Z1v (hr.mono (by omega)) rfl (@ja _ _ _ _ _ (@jV _ 0 _ _ rfl (by walk_at "v")) (@ja _ _ _ _ _ (@jop _ _ _ _ _ _ _ _ b_add (@jV _ 1 _ _ rfl (by walk_at "v")) (@ji _ _ _ _)) (@ja0 _) (star1 rfl)) (star1 rfl)) (by decide) (star1 rfl) (stars rfl)) (by rfl) (by walk_at "f")) (@jsc _ _ _ _ _ (@jsif _ _ _ _ _ _ _ _ (@tcmp _ _ _ _ _ _ _ _ (c_eq hr) (@jV _ 2 _ _ rfl (by walk_at "v")) (@jtup _ _ _ _ _ (@ja _ _ _ _ _ (@ji _ _ _ _) (@ja _ _ _ _ _ (@ji _ _ _ _) (@ja _ _ _ _ _ (@ji _ _ _ _) (@ja0 _) (star1 rfl)) (star1 rfl)) (star1 rfl))) (nomark _)) (@js1 _ _ _ (@jset _ _ _ _ (2) _ _ Z2v.nd rfl (Or.inl rfl) (@jtup _ _ _ _ _ (@ja _ _ _ _ _ (@ji _ _ _ _) (@ja _ _ _ _ _ (@ji _ _ _ _) (@ja _ _ _ _ _ (@ji _ _ _ _) (@ja0 _) (star1 rfl)) (star1 rfl)) (star1 rfl))) (by rfl) (by walk_at "f"))) (@js0 _)) (@jsc _ _ _ _ _ (@jset _ _ _ _ (3) _ _ Z2v.nd rfl (Or.inl rfl) (@jcallC _ _ _ _ _ _ _ _ _ _ Z1v (hr.mono (by omega)) rfl (@ja _ _ _ _ _ (@jV _ 0 _ _ rfl (by walk_at "v")) (@ja _ _ _ _ _ (@jop _ _ _ _ _ _ _ _ b_add (@jV _ 1 _ _ rfl (by walk_at "v")) (@ji _ _ _ _)) (@ja0 _) (star1 rfl)) (star1 rfl)) (by decide) (star1 rfl) (stars rfl)) (by rfl) (by walk_at "f")) (@jsc _ _ _ _ _ (@jfor _ _ _ _ _ _ _ _ PassesOwn.never rfl (@jiSeq _ _ _ _ (@jlst _ _ _ _ (@ja _ _ _ _ _ (@jtup _ _ _ _ _ (@ja _ _ _ _ _ (@ji _ _ _ _) (@ja _ _ _ _ _ (@ji _ _ _ _) (@ja _ _ _ _ _ (@ji _ _ _ _) (@ja0 _) (star1 rfl)) (star1 rfl)) (star1 rfl))) (@ja _ _ _ _ _ (@jtup _ _ _ _ _ (@ja _ _ _ _ _ (@ji _ _ _ _) (@ja _ _ _ _ _ (@ji _ _ _ _) (@ja _ _ _ _ _ (@ji _ _ _ _) (@ja0 _) (star1 rfl)) (star1 rfl)) (star1 rfl))) (@ja _ _ _ _ _ (@jtup _ _ _ _ _ (@ja _ _ _ _ _ (@ji _ _ _ _) (@ja _ _ _ _ _ (@ji _ _ _ _) (@ja _ _ _ _ _ (@ji _ _ _ _) (@ja0 _) (star1 rfl)) (star1 rfl)) (star1 rfl))) (@ja0 _) (star1 rfl)) (star1 rfl)) (star1 rfl)))) (@jg _ _ (4) _ Z2v.nd rfl (Or.inl rfl) (by walk_at "f")) (@js1 _ _ _ (@jsif _ _ _ _ _ _ _ _ (@tcmp _ _ _ _ _ _ _ _ (c_eq hr) (@jcallC _ _ _ _ _ _ _ _ _ _ Z0D (hr.mono (by omega)) rfl (@ja _ _ _ _ _ (@jV _ 2 _ _ rfl (by walk_at "v")) (@ja _ _ _ _ _ (@jV _ 3 _ _ rfl (by walk_at "v")) (@ja0 _) (star1 rfl)) (star1 rfl)) (by decide) (star1 rfl) (stars rfl)) (@jtup _ _ _ _ _ (@ja _ _ _ _ _ (@ji _ _ _ _) (@ja _ _ _ _ _ (@ji _ _ _ _) (@ja _ _ _ _ _ (@ji _ _ _ _) (@ja0 _) (star1 rfl)) (star1 rfl)) (star1 rfl))) (nomark _)) (@js1 _ _ _ (@jset _ _ _ _ (3) _ _ Z2v.nd rfl (Or.inl rfl) (@jV _ 4 _ _ rfl (by walk_at "v")) (by rfl) (by walk_at "f"))) (@js0 _))) (fun _=>rfl)) (@js1 _ _ _ (@jret _ _ _ _ (@jtup _ _ _ _ _ (@ja _ _ _ _ _ (@jcallC _ _ _ _ _ _ _ _ _ _ Z1v (hr.mono (by omega)) rfl (@ja _ _ _ _ _ (@jV _ 0 _ _ rfl (by walk_at "v")) (@ja _ _ _ _ _ (@jV _ 1 _ _ rfl (by walk_at "v")) (@ja0 _) (star1 rfl)) (star1 rfl)) (by decide) (star1 rfl) (stars rfl)) (@ja _ _ _ _ _ (@jV _ 2 _ _ rfl (by walk_at "v")) (@ja _ _ _ _ _ (@jV _ 3 _ _ rfl (by walk_at "v")) (@ja0 _) (star1 rfl)) (star1 rfl)) (star1 rfl)))))))))) Z6q)
abbrev Z3I:Stmt:=top 60
theorem Z6Z:FnScope ["_law_one", "_law_other"] ["_law_one", "_law_other"] (defScope Z3I):=by walk_at "s"
theorem Z70{f:Addr}{fd:FuncData} (F:Fun K "_law_dot" "_law_dot" Z3I f fd) (m:mg "_law_dot" = some (.ref f)):Cal P w K mg base 1 "_law_dot" ["_law_one", "_law_other"] Z2f :=
 .mk F m (F.binds fun _ _ _ _ _ _ us hl=>args2 hl fun _ _=>rfl) (fnT (W:=Z67) F Z6Z Z6H (fun cdv A outer s H E hr =>
  (@js1 _ _ _ (@jret _ _ _ _ (@jop _ _ _ _ _ _ _ _ b_add (@jop _ _ _ _ _ _ _ _ b_add (@jop _ _ _ _ _ _ _ _ b_mul (@jix _ _ _ _ _ _ (@jV _ 0 _ _ rfl (by walk_at "v")) (@ji _ _ _ _) (fun _ _=>rfl)) (@jix _ _ _ _ _ _ (@jV _ 1 _ _ rfl (by walk_at "v")) (@ji _ _ _ _) (fun _ _=>rfl))) (@jop _ _ _ _ _ _ _ _ b_mul (@jix _ _ _ _ _ _ (@jV _ 0 _ _ rfl (by walk_at "v")) (@ji _ _ _ _) (fun _ _=>rfl)) (@jix _ _ _ _ _ _ (@jV _ 1 _ _ rfl (by walk_at "v")) (@ji _ _ _ _) (fun _ _=>rfl)))) (@jop _ _ _ _ _ _ _ _ b_mul (@jix _ _ _ _ _ _ (@jV _ 0 _ _ rfl (by walk_at "v")) (@ji _ _ _ _) (fun _ _=>rfl)) (@jix _ _ _ _ _ _ (@jV _ 1 _ _ rfl (by walk_at "v")) (@ji _ _ _ _) (fun _ _=>rfl))))))) Z6U)
abbrev Z29:Stmt:=top 62
theorem Z33:FnScope ["_law_front", "_law_found", "_law_unit", "_law_sign"] ["_law_front", "_law_found"] (defScope Z29):=by walk_at "s"
theorem Z6y{f:Addr}{fd:FuncData} (F:Fun K "_law_ahead" "_law_ahead" Z29 f fd) (m:mg "_law_ahead" = some (.ref f)) (Z3C:Cal P w K mg base 1 "_law_dot" ["_law_one", "_law_other"] Z2f) (z_int:mg "int" = none) (z_zip:mg "zip" = none) (z_tuple:mg "tuple" = none):Cal P w K mg base 2 "_law_ahead" ["_law_front", "_law_found"] Z1g :=
 .mk F m (F.binds fun _ _ _ _ _ _ us hl=>args2 hl fun _ _=>rfl) (fnT (W:=Z4L) F Z33 Z69 (fun cdv A outer s H E hr =>
  (@jsc _ _ _ _ _ (@jsif _ _ _ _ _ _ _ _ (@tcmp _ _ _ _ _ _ _ _ c_lt (@jcallC _ _ _ _ _ _ _ _ _ _ Z3C (hr.mono (by omega)) rfl (@ja _ _ _ _ _ (@jV _ 0 _ _ rfl (by walk_at "v")) (@ja _ _ _ _ _ (@jV _ 1 _ _ rfl (by walk_at "v")) (@ja0 _) (star1 rfl)) (star1 rfl)) (by decide) (star1 rfl) (stars rfl)) (@ji _ _ _ _) (nomark _)) (@js1 _ _ _ (@jset _ _ _ _ (1) _ _ Z33.nd rfl (Or.inl rfl) (@jtup _ _ _ _ _ (@ja _ _ _ _ _ (@jop _ _ _ _ _ _ _ _ b_sub (@ji _ _ _ _) (@jix _ _ _ _ _ _ (@jV _ 1 _ _ rfl (by walk_at "v")) (@ji _ _ _ _) (fun _ _=>rfl))) (@ja _ _ _ _ _ (@jop _ _ _ _ _ _ _ _ b_sub (@ji _ _ _ _) (@jix _ _ _ _ _ _ (@jV _ 1 _ _ rfl (by walk_at "v")) (@ji _ _ _ _) (fun _ _=>rfl))) (@ja _ _ _ _ _ (@jop _ _ _ _ _ _ _ _ b_sub (@ji _ _ _ _) (@jix _ _ _ _ _ _ (@jV _ 1 _ _ rfl (by walk_at "v")) (@ji _ _ _ _) (fun _ _=>rfl))) (@ja0 _) (star1 rfl)) (star1 rfl)) (star1 rfl))) (by rfl) (by walk_at "f"))) (@js0 _)) (@jsc _ _ _ _ _ (@jfor _ _ _ _ _ _ _ _ PassesOwn.never rfl (@jiSeq _ _ _ _ (@jlst _ _ _ _ (@ja _ _ _ _ _ (@jtup _ _ _ _ _ (@ja _ _ _ _ _ (@ji _ _ _ _) (@ja _ _ _ _ _ (@ji _ _ _ _) (@ja _ _ _ _ _ (@ji _ _ _ _) (@ja0 _) (star1 rfl)) (star1 rfl)) (star1 rfl))) (@ja _ _ _ _ _ (@jtup _ _ _ _ _ (@ja _ _ _ _ _ (@ji _ _ _ _) (@ja _ _ _ _ _ (@ji _ _ _ _) (@ja _ _ _ _ _ (@ji _ _ _ _) (@ja0 _) (star1 rfl)) (star1 rfl)) (star1 rfl))) (@ja _ _ _ _ _ (@jtup _ _ _ _ _ (@ja _ _ _ _ _ (@ji _ _ _ _) (@ja _ _ _ _ _ (@ji _ _ _ _) (@ja _ _ _ _ _ (@ji _ _ _ _) (@ja0 _) (star1 rfl)) (star1 rfl)) (star1 rfl))) (@ja0 _) (star1 rfl)) (star1 rfl)) (star1 rfl)))) (@jg _ _ (2) _ Z33.nd rfl (Or.inl rfl) (by walk_at "f")) (@js1 _ _ _ (@jsif _ _ _ _ _ _ _ _ (@tcmp _ _ _ _ _ _ _ _ (c_eq hr) (@jcallC _ _ _ _ _ _ _ _ _ _ Z3C (hr.mono (by omega)) rfl (@ja _ _ _ _ _ (@jV _ 0 _ _ rfl (by walk_at "v")) (@ja _ _ _ _ _ (@jV _ 1 _ _ rfl (by walk_at "v")) (@ja0 _) (star1 rfl)) (star1 rfl)) (by decide) (star1 rfl) (stars rfl)) (@ji _ _ _ _) (nomark _)) (@jsc _ _ _ _ _ (@jset _ _ _ _ (3) _ _ Z33.nd rfl (Or.inr rfl) (@jix _ _ _ _ _ _ (@jlst _ _ _ _ (@ja _ _ _ _ _ (@ji _ _ _ _) (@ja _ _ _ _ _ (@jneg _ _ _ _ (@ji _ _ _ _)) (@ja0 _) (star1 rfl)) (star1 rfl))) (@jty _ _ _ _ _ _ _ _ _ ty_int rfl z_int boot_int (@ja _ _ _ _ _ (@jcmp _ _ _ _ _ _ _ _ c_lt (@jcallC _ _ _ _ _ _ _ _ _ _ Z3C (hr.mono (by omega)) rfl (@ja _ _ _ _ _ (@jV _ 0 _ _ rfl (by walk_at "v")) (@ja _ _ _ _ _ (@jV _ 2 _ _ rfl (by walk_at "v")) (@ja0 _) (star1 rfl)) (star1 rfl)) (by decide) (star1 rfl) (stars rfl)) (@ji _ _ _ _) (nomark _)) (@ja0 _) (star1 rfl)) (by decide) (by decide) (star1 rfl) (stars rfl)) (fun _ _=>rfl)) (by rfl) (by walk_at "f")) (@js1 _ _ _ (@jset _ _ _ _ (1) _ _ Z33.nd rfl (Or.inl rfl) (@jty _ _ _ _ _ _ _ _ _ ty_tuple rfl z_tuple boot_tuple (@ja _ _ _ _ _ (@jcomp _ _ _ _ _ _ _ (defScope Z29) (["_law_one" , "_law_more"]) (["_law_front" , "_law_found" , "_law_unit" , "_law_sign"]) ([("_law_sign" , 3)]) _ _ _ _ rfl rfl rfl (@jiZip _ _ _ _ _ _ _ _ _ rfl z_zip (@ja _ _ _ _ _ (@jV _ 1 _ _ rfl (by walk_at "v")) (@ja _ _ _ _ _ (@jV _ 2 _ _ rfl (by walk_at "v")) (@ja0 _) (star1 rfl)) (star1 rfl)) (star1 rfl) (stars rfl)) rfl rfl (by decide +kernel) (by decide +kernel) (by decide +kernel) (by decide +kernel) (fun cl C s3 H2 ex=>(@jgt _ _ _ _ _ _ rfl (@jgsc _ _ _ _ _ (@jg _ _ (0) _ (show List.Nodup (["_law_one" , "_law_more" , "_law_sign"]:List Str) from by decide +kernel) rfl (Or.inl rfl) (by walk_at "f")) (@jgsc _ _ _ _ _ (@jg _ _ (1) _ (show List.Nodup (["_law_one" , "_law_more" , "_law_sign"]:List Str) from by decide +kernel) rfl (Or.inl rfl) (by walk_at "f")) (@jgs0 _) (by rfl)) (by rfl)) (by rfl) (by rfl))) (fun cl C s3 H2 ex=>(@jts0 _)) (fun cl C s3 H2 ex=>(@jop _ _ _ _ _ _ _ _ b_add (@jV _ 0 _ _ rfl (by walk_at "v")) (@jop _ _ _ _ _ _ _ _ b_mul (@jV _ 2 _ _ rfl (by walk_at "v")) (@jV _ 1 _ _ rfl (by walk_at "v"))))) (fun _=>rfl)) (@ja0 _) (star1 rfl)) (by decide) (by decide) (star1 rfl) (stars rfl)) (by rfl) (by walk_at "f")))) (@js0 _))) (fun _=>rfl)) (@js1 _ _ _ (@jret _ _ _ _ (@jV _ 1 _ _ rfl (by walk_at "v"))))))) Z6r)
abbrev Z3h:Stmt:=top 63
theorem Z71:FnScope ["_law_one", "_law_other", "_law_many"] ["_law_one", "_law_other", "_law_many"] (defScope Z3h):=by walk_at "s"
theorem Z72{f:Addr}{fd:FuncData} (F:Fun K "_law_sum" "_law_sum" Z3h f fd) (m:mg "_law_sum" = some (.ref f)) (z_zip:mg "zip" = none) (z_tuple:mg "tuple" = none):Cal P w K mg base 1 "_law_sum" ["_law_one", "_law_other", "_law_many"] Z1u :=
 .mk F m (F.binds fun _ _ _ _ _ _ us hl=>args3 hl fun _ _ _=>rfl) (fnT (W:=Z6a) F Z71 Z6I (fun cdv A outer s H E hr =>
  (@js1 _ _ _ (@jret _ _ _ _ (@jty _ _ _ _ _ _ _ _ _ ty_tuple rfl z_tuple boot_tuple (@ja _ _ _ _ _ (@jcomp _ _ _ _ _ _ _ (defScope Z3h) (["_law_a" , "_law_b"]) (["_law_one" , "_law_other" , "_law_many"]) ([("_law_many" , 2)]) _ _ _ _ rfl rfl rfl (@jiZip _ _ _ _ _ _ _ _ _ rfl z_zip (@ja _ _ _ _ _ (@jV _ 0 _ _ rfl (by walk_at "v")) (@ja _ _ _ _ _ (@jV _ 1 _ _ rfl (by walk_at "v")) (@ja0 _) (star1 rfl)) (star1 rfl)) (star1 rfl) (stars rfl)) rfl rfl (by decide +kernel) (by decide +kernel) (by decide +kernel) (by decide +kernel) (fun cl C s3 H2 ex=>(@jgt _ _ _ _ _ _ rfl (@jgsc _ _ _ _ _ (@jg _ _ (0) _ (show List.Nodup (["_law_a" , "_law_b" , "_law_many"]:List Str) from by decide +kernel) rfl (Or.inl rfl) (by walk_at "f")) (@jgsc _ _ _ _ _ (@jg _ _ (1) _ (show List.Nodup (["_law_a" , "_law_b" , "_law_many"]:List Str) from by decide +kernel) rfl (Or.inl rfl) (by walk_at "f")) (@jgs0 _) (by rfl)) (by rfl)) (by rfl) (by rfl))) (fun cl C s3 H2 ex=>(@jts0 _)) (fun cl C s3 H2 ex=>(@jop _ _ _ _ _ _ _ _ b_add (@jV _ 0 _ _ rfl (by walk_at "v")) (@jop _ _ _ _ _ _ _ _ b_mul (@jV _ 2 _ _ rfl (by walk_at "v")) (@jV _ 1 _ _ rfl (by walk_at "v"))))) (fun _=>rfl)) (@ja0 _) (star1 rfl)) (by decide) (by decide) (star1 rfl) (stars rfl))))) Z6V)
abbrev Z3i:Stmt:=top 64
theorem Z73:FnScope ["_law_triples"] ["_law_triples"] (defScope Z3i):=by walk_at "s"
theorem Z74{f:Addr}{fd:FuncData} (F:Fun K "_law_far" "_law_far" Z3i f fd) (m:mg "_law_far" = some (.ref f)) (z_max:mg "max" = none) (z_min:mg "min" = none):Cal P w K mg base 1 "_law_far" ["_law_triples"] Z1L :=
 .mk F m (F.binds fun _ _ _ _ _ _ us hl=>args1 hl fun _=>rfl) (fnT (W:=Z6b) F Z73 Z6J (fun cdv A outer s H E hr =>
  (@js1 _ _ _ (@jret _ _ _ _ (@jcmp _ _ _ _ _ _ _ _ (c_ne hr) (@jcomp _ _ _ _ _ _ _ (defScope Z3i) (["_law_triple_here"]) (["_law_triples"]) ([]) _ _ _ _ rfl rfl rfl (@jiSeq _ _ _ _ (@jV _ 0 _ _ rfl (by walk_at "v"))) rfl rfl (by decide +kernel) (by decide +kernel) (by decide +kernel) (by decide +kernel) (fun cl C s3 H2 ex=>(@jg _ _ (0) _ (show List.Nodup (["_law_triple_here"]:List Str) from by decide +kernel) rfl (Or.inl rfl) (by walk_at "f"))) (fun cl C s3 H2 ex=>(@jts1 _ _ _ (@tcmp _ _ _ _ _ _ _ _ c_gt (@jblt _ _ _ _ _ _ _ _ _ (bl_max rfl) rfl z_max boot_max (@ja _ _ _ _ _ (@jblt _ _ _ _ _ _ _ _ _ (bl_maxT rfl) rfl z_max boot_max (@ja _ _ _ _ _ (@jV _ 0 _ _ rfl (by walk_at "v")) (@ja0 _) (star1 rfl)) (by decide) (by decide) (star1 rfl) (stars rfl)) (@ja _ _ _ _ _ (@jop _ _ _ _ _ _ _ _ b_sub (@ji _ _ _ _) (@jblt _ _ _ _ _ _ _ _ _ (bl_minT rfl) rfl z_min boot_min (@ja _ _ _ _ _ (@jV _ 0 _ _ rfl (by walk_at "v")) (@ja0 _) (star1 rfl)) (by decide) (by decide) (star1 rfl) (stars rfl))) (@ja0 _) (star1 rfl)) (star1 rfl)) (by decide) (by decide) (star1 rfl) (stars rfl)) (@jop _ _ _ _ _ _ _ _ b_pow (@ji _ _ _ _) (@ji _ _ _ _)) (nomark _)))) (fun cl C s3 H2 ex=>(@jV _ 0 _ _ rfl (by walk_at "v"))) (fun _=>rfl)) (@jlst _ _ _ _ (@ja0 _)) (nomark _))))) Z6W)
abbrev Z3j:Stmt:=top 66
theorem Z4v:FnScope ["_law_plate_here", "_law_cell", "_law_front", "_law_near", "_law_tip_here"] ["_law_plate_here", "_law_cell"] (defScope Z3j):=by walk_at "s"
theorem Z75{f:Addr}{fd:FuncData} (F:Fun K "_law_tip" "_law_tip" Z3j f fd) (m:mg "_law_tip" = some (.ref f)) (Z0D:Cal P w K mg base 1 "_law_cross" ["_law_one", "_law_other"] Z0d) (Z0x:Cal P w K mg base 1 "_law_draw" ["_law_cell", "_law_k", "_law_many"] Z09) (Z2F:Cal P w K mg base 2 "_law_ahead" ["_law_front", "_law_found"] Z1g) (Z2V:Cal P w K mg base 1 "_law_sum" ["_law_one", "_law_other", "_law_many"] Z1u) (Z3k:Cal P w K mg base 1 "_law_far" ["_law_triples"] Z1L) (z_range:mg "range" = none) (z_tuple:mg "tuple" = none):Cal P w K mg base 3 "_law_tip" ["_law_plate_here", "_law_cell"] Z2L :=
 .mk F m (F.binds fun _ _ _ _ _ _ us hl=>args2 hl fun _ _=>rfl) (fnT (W:=Z6d) F Z4v Z6K (fun cdv A outer s H E hr =>
  (@jsc _ _ _ _ _ (@jset _ _ _ _ (2) _ _ Z4v.nd rfl (Or.inl rfl) (@jcallC _ _ _ _ _ _ _ _ _ _ Z0D (hr.mono (by omega)) rfl (@ja _ _ _ _ _ (@jix _ _ _ _ _ _ (@jV _ 0 _ _ rfl (by walk_at "v")) (@ji _ _ _ _) (fun _ _=>rfl)) (@ja _ _ _ _ _ (@jix _ _ _ _ _ _ (@jV _ 0 _ _ rfl (by walk_at "v")) (@ji _ _ _ _) (fun _ _=>rfl)) (@ja0 _) (star1 rfl)) (star1 rfl)) (by decide) (star1 rfl) (stars rfl)) (by rfl) (by walk_at "f")) (@jsc _ _ _ _ _ (@jset _ _ _ _ (3) _ _ Z4v.nd rfl (Or.inl rfl) (@jcallC _ _ _ _ _ _ _ _ _ _ Z2F (hr.mono (by omega)) rfl (@ja _ _ _ _ _ (@jV _ 2 _ _ rfl (by walk_at "v")) (@ja _ _ _ _ _ (@jty _ _ _ _ _ _ _ _ _ ty_tuple rfl z_tuple boot_tuple (@ja _ _ _ _ _ (@jcomp _ _ _ _ _ _ _ (defScope Z3j) (["_law_k"]) (["_law_plate_here" , "_law_cell" , "_law_front" , "_law_near" , "_law_tip_here"]) ([("_law_cell" , 1)]) _ _ _ _ rfl rfl rfl (@jiRange1 _ _ _ _ _ _ rfl z_range (@ja _ _ _ _ _ (@ji _ _ _ _) (@ja0 _) (star1 rfl)) (by rfl)) rfl rfl (by decide +kernel) (by decide +kernel) (by decide +kernel) (by decide +kernel) (fun cl C s3 H2 ex=>(@jg _ _ (0) _ (show List.Nodup (["_law_k" , "_law_cell"]:List Str) from by decide +kernel) rfl (Or.inl rfl) (by walk_at "f"))) (fun cl C s3 H2 ex=>(@jts0 _)) (fun cl C s3 H2 ex=>(@jop _ _ _ _ _ _ _ _ b_sub (@jcallC _ _ _ _ _ _ _ _ _ _ Z0x (hr.mono (by omega)) rfl (@ja _ _ _ _ _ (@jV _ 1 _ _ rfl (by walk_at "v")) (@ja _ _ _ _ _ (@jop _ _ _ _ _ _ _ _ b_add (@ji _ _ _ _) (@jV _ 0 _ _ rfl (by walk_at "v"))) (@ja _ _ _ _ _ (@ji _ _ _ _) (@ja0 _) (star1 rfl)) (star1 rfl)) (star1 rfl)) (by decide) (star1 rfl) (stars rfl)) (@ji _ _ _ _))) (fun _=>rfl)) (@ja0 _) (star1 rfl)) (by decide) (by decide) (star1 rfl) (stars rfl)) (@ja0 _) (star1 rfl)) (star1 rfl)) (by decide) (star1 rfl) (stars rfl)) (by rfl) (by walk_at "f")) (@jsc _ _ _ _ _ (@jset _ _ _ _ (4) _ _ Z4v.nd rfl (Or.inl rfl) (@jcallC _ _ _ _ _ _ _ _ _ _ Z2V (hr.mono (by omega)) rfl (@ja _ _ _ _ _ (@jix _ _ _ _ _ _ (@jV _ 0 _ _ rfl (by walk_at "v")) (@ji _ _ _ _) (fun _ _=>rfl)) (@ja _ _ _ _ _ (@jV _ 3 _ _ rfl (by walk_at "v")) (@ja _ _ _ _ _ (@ji _ _ _ _) (@ja0 _) (star1 rfl)) (star1 rfl)) (star1 rfl)) (by decide) (star1 rfl) (stars rfl)) (by rfl) (by walk_at "f")) (@jsc _ _ _ _ _ (@jsif _ _ _ _ _ _ _ _ (@tval _ _ _ (@jcallC _ _ _ _ _ _ _ _ _ _ Z3k (hr.mono (by omega)) rfl (@ja _ _ _ _ _ (@jlst _ _ _ _ (@ja _ _ _ _ _ (@jV _ 4 _ _ rfl (by walk_at "v")) (@ja0 _) (star1 rfl))) (@ja0 _) (star1 rfl)) (by decide) (star1 rfl) (stars rfl)) (fun _=>rfl)) (@js1 _ _ _ (@jret _ _ _ _ (@jn _ _ _))) (@js0 _)) (@js1 _ _ _ (@jret _ _ _ _ (@jV _ 4 _ _ rfl (by walk_at "v"))))))))) Z6X)
abbrev Z2w:Stmt:=top 65
theorem Z2a:FnScope ["_law_plate_here", "_law_direction", "_law_cell", "_law_corner", "_law_made", "_law_side", "_law_other"] ["_law_plate_here", "_law_direction", "_law_cell"] (defScope Z2w):=by walk_at "s"
theorem Z6z{f:Addr}{fd:FuncData} (F:Fun K "_law_about" "_law_about" Z2w f fd) (m:mg "_law_about" = some (.ref f)) (Z0x:Cal P w K mg base 1 "_law_draw" ["_law_cell", "_law_k", "_law_many"] Z09) (Z2V:Cal P w K mg base 1 "_law_sum" ["_law_one", "_law_other", "_law_many"] Z1u) (Z34:Cal P w K mg base 4 "_law_plate" ["_law_cell", "_law_k"] Z1t) (Z0D:Cal P w K mg base 1 "_law_cross" ["_law_one", "_law_other"] Z0d) (Z3k:Cal P w K mg base 1 "_law_far" ["_law_triples"] Z1L):Cal P w K mg base 5 "_law_about" ["_law_plate_here", "_law_direction", "_law_cell"] Z2r :=
 .mk F m (F.binds fun _ _ _ _ _ _ us hl=>args3 hl fun _ _ _=>rfl) (fnT (W:=Z4M) F Z2a Z6c (fun cdv A outer s H E hr =>
  (@jsc _ _ _ _ _ (@jset _ _ _ _ (3) _ _ Z2a.nd rfl (Or.inl rfl) (@jcallC _ _ _ _ _ _ _ _ _ _ Z2V (hr.mono (by omega)) rfl (@ja _ _ _ _ _ (@jix _ _ _ _ _ _ (@jV _ 0 _ _ rfl (by walk_at "v")) (@ji _ _ _ _) (fun _ _=>rfl)) (@ja _ _ _ _ _ (@jix _ _ _ _ _ _ (@jV _ 0 _ _ rfl (by walk_at "v")) (@ji _ _ _ _) (fun _ _=>rfl)) (@ja _ _ _ _ _ (@jop _ _ _ _ _ _ _ _ b_sub (@jcallC _ _ _ _ _ _ _ _ _ _ Z0x (hr.mono (by omega)) rfl (@ja _ _ _ _ _ (@jV _ 2 _ _ rfl (by walk_at "v")) (@ja _ _ _ _ _ (@ji _ _ _ _) (@ja _ _ _ _ _ (@ji _ _ _ _) (@ja0 _) (star1 rfl)) (star1 rfl)) (star1 rfl)) (by decide) (star1 rfl) (stars rfl)) (@ji _ _ _ _)) (@ja0 _) (star1 rfl)) (star1 rfl)) (star1 rfl)) (by decide) (star1 rfl) (stars rfl)) (by rfl) (by walk_at "f")) (@jsc _ _ _ _ _ (@jset _ _ _ _ (3) _ _ Z2a.nd rfl (Or.inl rfl) (@jcallC _ _ _ _ _ _ _ _ _ _ Z2V (hr.mono (by omega)) rfl (@ja _ _ _ _ _ (@jV _ 3 _ _ rfl (by walk_at "v")) (@ja _ _ _ _ _ (@jix _ _ _ _ _ _ (@jV _ 0 _ _ rfl (by walk_at "v")) (@ji _ _ _ _) (fun _ _=>rfl)) (@ja _ _ _ _ _ (@jop _ _ _ _ _ _ _ _ b_sub (@jcallC _ _ _ _ _ _ _ _ _ _ Z0x (hr.mono (by omega)) rfl (@ja _ _ _ _ _ (@jV _ 2 _ _ rfl (by walk_at "v")) (@ja _ _ _ _ _ (@ji _ _ _ _) (@ja _ _ _ _ _ (@ji _ _ _ _) (@ja0 _) (star1 rfl)) (star1 rfl)) (star1 rfl)) (by decide) (star1 rfl) (stars rfl)) (@ji _ _ _ _)) (@ja0 _) (star1 rfl)) (star1 rfl)) (star1 rfl)) (by decide) (star1 rfl) (stars rfl)) (by rfl) (by walk_at "f")) (@jsc _ _ _ _ _ (@jset _ _ _ _ (3) _ _ Z2a.nd rfl (Or.inl rfl) (@jcallC _ _ _ _ _ _ _ _ _ _ Z2V (hr.mono (by omega)) rfl (@ja _ _ _ _ _ (@jV _ 3 _ _ rfl (by walk_at "v")) (@ja _ _ _ _ _ (@jV _ 1 _ _ rfl (by walk_at "v")) (@ja _ _ _ _ _ (@jop _ _ _ _ _ _ _ _ b_add (@ji _ _ _ _) (@jcallC _ _ _ _ _ _ _ _ _ _ Z0x (hr.mono (by omega)) rfl (@ja _ _ _ _ _ (@jV _ 2 _ _ rfl (by walk_at "v")) (@ja _ _ _ _ _ (@ji _ _ _ _) (@ja _ _ _ _ _ (@ji _ _ _ _) (@ja0 _) (star1 rfl)) (star1 rfl)) (star1 rfl)) (by decide) (star1 rfl) (stars rfl))) (@ja0 _) (star1 rfl)) (star1 rfl)) (star1 rfl)) (by decide) (star1 rfl) (stars rfl)) (by rfl) (by walk_at "f")) (@jsc _ _ _ _ _ (@jset _ _ _ _ (4) _ _ Z2a.nd rfl (Or.inl rfl) (@jcallC _ _ _ _ _ _ _ _ _ _ Z34 (hr.mono (by omega)) rfl (@ja _ _ _ _ _ (@jV _ 2 _ _ rfl (by walk_at "v")) (@ja _ _ _ _ _ (@ji _ _ _ _) (@ja0 _) (star1 rfl)) (star1 rfl)) (by decide) (star1 rfl) (stars rfl)) (by rfl) (by walk_at "f")) (@jsc _ _ _ _ _ (@jset _ _ _ _ (5) _ _ Z2a.nd rfl (Or.inl rfl) (@jix _ _ _ _ _ _ (@jlst _ _ _ _ (@ja _ _ _ _ _ (@jix _ _ _ _ _ _ (@jV _ 4 _ _ rfl (by walk_at "v")) (@ji _ _ _ _) (fun _ _=>rfl)) (@ja _ _ _ _ _ (@jix _ _ _ _ _ _ (@jV _ 0 _ _ rfl (by walk_at "v")) (@ji _ _ _ _) (fun _ _=>rfl)) (@ja _ _ _ _ _ (@jcallC _ _ _ _ _ _ _ _ _ _ Z2V (hr.mono (by omega)) rfl (@ja _ _ _ _ _ (@jix _ _ _ _ _ _ (@jV _ 0 _ _ rfl (by walk_at "v")) (@ji _ _ _ _) (fun _ _=>rfl)) (@ja _ _ _ _ _ (@jix _ _ _ _ _ _ (@jV _ 4 _ _ rfl (by walk_at "v")) (@ji _ _ _ _) (fun _ _=>rfl)) (@ja _ _ _ _ _ (@ji _ _ _ _) (@ja0 _) (star1 rfl)) (star1 rfl)) (star1 rfl)) (by decide) (star1 rfl) (stars rfl)) (@ja0 _) (star1 rfl)) (star1 rfl)) (star1 rfl))) (@jcallC _ _ _ _ _ _ _ _ _ _ Z0x (hr.mono (by omega)) rfl (@ja _ _ _ _ _ (@jV _ 2 _ _ rfl (by walk_at "v")) (@ja _ _ _ _ _ (@ji _ _ _ _) (@ja _ _ _ _ _ (@ji _ _ _ _) (@ja0 _) (star1 rfl)) (star1 rfl)) (star1 rfl)) (by decide) (star1 rfl) (stars rfl)) (fun _ _=>rfl)) (by rfl) (by walk_at "f")) (@jsc _ _ _ _ _ (@jset _ _ _ _ (6) _ _ Z2a.nd rfl (Or.inl rfl) (@jix _ _ _ _ _ _ (@jlst _ _ _ _ (@ja _ _ _ _ _ (@jix _ _ _ _ _ _ (@jV _ 4 _ _ rfl (by walk_at "v")) (@ji _ _ _ _) (fun _ _=>rfl)) (@ja _ _ _ _ _ (@jix _ _ _ _ _ _ (@jV _ 0 _ _ rfl (by walk_at "v")) (@ji _ _ _ _) (fun _ _=>rfl)) (@ja _ _ _ _ _ (@jcallC _ _ _ _ _ _ _ _ _ _ Z2V (hr.mono (by omega)) rfl (@ja _ _ _ _ _ (@jix _ _ _ _ _ _ (@jV _ 0 _ _ rfl (by walk_at "v")) (@ji _ _ _ _) (fun _ _=>rfl)) (@ja _ _ _ _ _ (@jix _ _ _ _ _ _ (@jV _ 4 _ _ rfl (by walk_at "v")) (@ji _ _ _ _) (fun _ _=>rfl)) (@ja _ _ _ _ _ (@ji _ _ _ _) (@ja0 _) (star1 rfl)) (star1 rfl)) (star1 rfl)) (by decide) (star1 rfl) (stars rfl)) (@ja0 _) (star1 rfl)) (star1 rfl)) (star1 rfl))) (@jcallC _ _ _ _ _ _ _ _ _ _ Z0x (hr.mono (by omega)) rfl (@ja _ _ _ _ _ (@jV _ 2 _ _ rfl (by walk_at "v")) (@ja _ _ _ _ _ (@ji _ _ _ _) (@ja _ _ _ _ _ (@ji _ _ _ _) (@ja0 _) (star1 rfl)) (star1 rfl)) (star1 rfl)) (by decide) (star1 rfl) (stars rfl)) (fun _ _=>rfl)) (by rfl) (by walk_at "f")) (@jsc _ _ _ _ _ (@jsif _ _ _ _ _ _ _ _ (@jw _ _ _ (@tor _ _ _ _ _ _ _ (@tcmp _ _ _ _ _ _ _ _ (c_eq hr) (@jcallC _ _ _ _ _ _ _ _ _ _ Z0D (hr.mono (by omega)) rfl (@ja _ _ _ _ _ (@jV _ 5 _ _ rfl (by walk_at "v")) (@ja _ _ _ _ _ (@jV _ 6 _ _ rfl (by walk_at "v")) (@ja0 _) (star1 rfl)) (star1 rfl)) (by decide) (star1 rfl) (stars rfl)) (@jtup _ _ _ _ _ (@ja _ _ _ _ _ (@ji _ _ _ _) (@ja _ _ _ _ _ (@ji _ _ _ _) (@ja _ _ _ _ _ (@ji _ _ _ _) (@ja0 _) (star1 rfl)) (star1 rfl)) (star1 rfl))) (nomark _)) (@tor1 _ _ _ _ (@tval _ _ _ (@jcallC _ _ _ _ _ _ _ _ _ _ Z3k (hr.mono (by omega)) rfl (@ja _ _ _ _ _ (@jlst _ _ _ _ (@ja _ _ _ _ _ (@jV _ 3 _ _ rfl (by walk_at "v")) (@ja _ _ _ _ _ (@jV _ 5 _ _ rfl (by walk_at "v")) (@ja _ _ _ _ _ (@jV _ 6 _ _ rfl (by walk_at "v")) (@ja0 _) (star1 rfl)) (star1 rfl)) (star1 rfl))) (@ja0 _) (star1 rfl)) (by decide) (star1 rfl) (stars rfl)) (fun _=>rfl))))) (@js1 _ _ _ (@jret _ _ _ _ (@jV _ 4 _ _ rfl (by walk_at "v")))) (@js0 _)) (@js1 _ _ _ (@jret _ _ _ _ (@jtup _ _ _ _ _ (@ja _ _ _ _ _ (@jV _ 3 _ _ rfl (by walk_at "v")) (@ja _ _ _ _ _ (@jV _ 5 _ _ rfl (by walk_at "v")) (@ja _ _ _ _ _ (@jV _ 6 _ _ rfl (by walk_at "v")) (@ja0 _) (star1 rfl)) (star1 rfl)) (star1 rfl))))))))))))) Z6s)
abbrev Z35:Stmt:=top 68
theorem Z3D:FnScope ["_law_sun", "_law_plates", "_law_tips", "_law_shuts", "_law_dials", "_law_k", "_law_name"] ["_law_sun", "_law_plates", "_law_tips"] (defScope Z35):=by walk_at "s"
theorem Z6P{f:Addr}{fd:FuncData} (F:Fun K "_law_yard" "_law_yard" Z35 f fd) (m:mg "_law_yard" = some (.ref f)) (z_len:mg "len" = none) (z_range:mg "range" = none):Cal P w K mg base 1 "_law_yard" ["_law_sun", "_law_plates", "_law_tips"] Z13 :=
 .mk F m (F.binds fun _ _ _ _ _ _ us hl=>args3 hl fun _ _ _=>rfl) (fnT (W:=Z5t) F Z3D Z6t (fun cdv A outer s H E hr =>
  (@jsc _ _ _ _ _ (@jown _ _ _ _ (3) _ _ _ Z3D.nd rfl (Or.inl rfl) (@ja0 _) (by rfl) (by walk_at "f")) (@jsc _ _ _ _ _ (@jown _ _ _ _ (4) _ _ _ Z3D.nd rfl (Or.inl rfl) (@ja0 _) (by rfl) (by walk_at "f")) (@jsc _ _ _ _ _ (@jfor _ _ _ _ _ _ _ _ PassesOwn.never rfl (@jiRange1 _ _ _ _ _ _ rfl z_range (@ja _ _ _ _ _ (@jblt _ _ _ _ _ _ _ _ _ bl_len rfl z_len boot_len (@ja _ _ _ _ _ (@jV _ 1 _ _ rfl (by walk_at "v")) (@ja0 _) (star1 rfl)) (by decide) (by decide) (star1 rfl) (stars rfl)) (@ja0 _) (star1 rfl)) (by rfl)) (@jg _ _ (5) _ Z3D.nd rfl (Or.inl rfl) (by walk_at "f")) (@jsc _ _ _ _ _ (@jset _ _ _ _ (6) _ _ Z3D.nd rfl (Or.inl rfl) (@jixS _ _ _ _ _ _ (@js _ _ _ _) (@jV _ 5 _ _ rfl (by walk_at "v")) (fun _ _=>rfl)) (by rfl) (by walk_at "f")) (@js1 _ _ _ (@jsif _ _ _ _ _ _ _ _ (@jw _ _ _ (@tor _ _ _ _ _ _ _ (@tcmp _ _ _ _ _ _ _ _ c_is (@jix _ _ _ _ _ _ (@jV _ 2 _ _ rfl (by walk_at "v")) (@jV _ 5 _ _ rfl (by walk_at "v")) (fun _ _=>rfl)) (@jn _ _ _) (nomark _)) (@tor1 _ _ _ _ (@tcmp _ _ _ _ _ _ _ _ (c_eq hr) (@jop _ _ _ _ _ _ _ _ b_mod (@jV _ 5 _ _ rfl (by walk_at "v")) (@ji _ _ _ _)) (@ji _ _ _ _) (nomark _))))) (@js1 _ _ _ (@japp _ _ _ _ _ _ _ _ _ (pv 3) (@jtup _ _ _ _ _ (@ja _ _ _ _ _ (@jV _ 6 _ _ rfl (by walk_at "v")) (@ja _ _ _ _ _ (@jix _ _ _ _ _ _ (@jV _ 1 _ _ rfl (by walk_at "v")) (@jV _ 5 _ _ rfl (by walk_at "v")) (fun _ _=>rfl)) (@ja0 _) (star1 rfl)) (star1 rfl))) (by rfl) (by rfl) (by rfl) (by rfl) (by rfl) (by rfl))) (@js1 _ _ _ (@japp _ _ _ _ _ _ _ _ _ (pv 4) (@jtup _ _ _ _ _ (@ja _ _ _ _ _ (@jV _ 6 _ _ rfl (by walk_at "v")) (@ja _ _ _ _ _ (@jix _ _ _ _ _ _ (@jV _ 1 _ _ rfl (by walk_at "v")) (@jV _ 5 _ _ rfl (by walk_at "v")) (fun _ _=>rfl)) (@ja _ _ _ _ _ (@jix _ _ _ _ _ _ (@jV _ 2 _ _ rfl (by walk_at "v")) (@jV _ 5 _ _ rfl (by walk_at "v")) (fun _ _=>rfl)) (@ja0 _) (star1 rfl)) (star1 rfl)) (star1 rfl))) (by rfl) (by rfl) (by rfl) (by rfl) (by rfl) (by rfl)))))) (fun _=>rfl)) (@jfrz _ _ 4 _ (@jfrz _ _ 3 _ (@js1 _ _ _ (@jret _ _ _ _ (@jtup _ _ _ _ _ (@ja _ _ _ _ _ (@jV _ 0 _ _ rfl (by walk_at "v")) (@ja _ _ _ _ _ (@jV _ 3 _ _ rfl (by walk_at "v")) (@ja _ _ _ _ _ (@jV _ 4 _ _ rfl (by walk_at "v")) (@ja0 _) (star1 rfl)) (star1 rfl)) (star1 rfl))))))))))) Z6L)
abbrev Z1w:Stmt:=top 7
theorem Z5x:FnScope ["thing"] ["thing"] (defScope Z1w):=by walk_at "s"
theorem Z5y{f:Addr}{fd:FuncData} (F:Fun K "is_whole" "is_whole" Z1w f fd) (m:mg "is_whole" = some (.ref f)) (z_isinstance:mg "isinstance" = none) (z_int:mg "int" = none) (z_bool:mg "bool" = none):Cal P w K mg base 1 "is_whole" ["thing"] Z0U :=
 .mk F m (F.binds fun _ _ _ _ _ _ us hl=>args1 hl fun _=>rfl) (fnT (W:=Z3r) F Z5x Z4X (fun cdv A outer s H E hr =>
  (@js1 _ _ _ (@jret _ _ _ _ (@jand _ _ _ _ _ _ _ (@jisi _ _ _ _ .int _ _ _ (@jV _ 0 _ _ rfl (by walk_at "v")) rfl z_isinstance rfl z_int boot_int (by decide) (by decide) (star1 rfl) (star1 rfl) (stars rfl)) (@jone _ _ _ _ _ (@jnot _ _ _ _ (@jisi _ _ _ _ .bool _ _ _ (@jV _ 0 _ _ rfl (by walk_at "v")) rfl z_isinstance rfl z_bool boot_bool (by decide) (by decide) (star1 rfl) (star1 rfl) (stars rfl)))))))) Z5h)
abbrev Z0J:Stmt:=top 38
theorem Z36:FnScope ["sun", "hour", "entry"] ["sun", "hour"] (defScope Z0J):=by walk_at "s"
theorem Z4i{f:Addr}{fd:FuncData} (F:Fun K "direction_at" "direction_at" Z0J f fd) (m:mg "direction_at" = some (.ref f)) (Z1n:Cal P w K mg base 1 "is_whole" ["thing"] Z0U):Cal P w K mg base 2 "direction_at" ["sun", "hour"] Z0h :=
 .mk F m (F.binds fun _ _ _ _ _ _ us hl=>args2 hl fun _ _=>rfl) (fnT (W:=Z2k) F Z36 Z43 (fun cdv A outer s H E hr =>
  (@jsc _ _ _ _ _ (@jsif _ _ _ _ _ _ _ _ (@tval _ _ _ (@jcallC _ _ _ _ _ _ _ _ _ _ Z1n (hr.mono (by omega)) rfl (@ja _ _ _ _ _ (@jV _ 1 _ _ rfl (by walk_at "v")) (@ja0 _) (star1 rfl)) (by decide) (star1 rfl) (stars rfl)) (fun _=>rfl)) (@js1 _ _ _ (@jfor _ _ _ _ _ _ _ _ PassesOwn.never rfl (@jiSeq _ _ _ _ (@jV _ 0 _ _ rfl (by walk_at "v"))) (@jg _ _ (2) _ Z36.nd rfl (Or.inl rfl) (by walk_at "f")) (@js1 _ _ _ (@jsif _ _ _ _ _ _ _ _ (@tcmp _ _ _ _ _ _ _ _ (c_eq hr) (@jix _ _ _ _ _ _ (@jV _ 2 _ _ rfl (by walk_at "v")) (@ji _ _ _ _) (fun _ _=>rfl)) (@jV _ 1 _ _ rfl (by walk_at "v")) (nomark _)) (@js1 _ _ _ (@jret _ _ _ _ (@jix _ _ _ _ _ _ (@jV _ 2 _ _ rfl (by walk_at "v")) (@ji _ _ _ _) (fun _ _=>rfl)))) (@js0 _))) (fun _=>rfl))) (@js0 _)) (@js1 _ _ _ (@jnever _ _)))) Z4c)
abbrev Z1V:Stmt:=top 41
theorem Z4l:FnScope ["yard", "name", "dial"] ["yard", "name"] (defScope Z1V):=by walk_at "s"
theorem Z5W{f:Addr}{fd:FuncData} (F:Fun K "dial_of" "dial_of" Z1V f fd) (m:mg "dial_of" = some (.ref f)) (z_isinstance:mg "isinstance" = none) (z_str:mg "str" = none):Cal P w K mg base 1 "dial_of" ["yard", "name"] Z1T :=
 .mk F m (F.binds fun _ _ _ _ _ _ us hl=>args2 hl fun _ _=>rfl) (fnT (W:=Z3U) F Z4l Z5r (fun cdv A outer s H E hr =>
  (@jsc _ _ _ _ _ (@jsif _ _ _ _ _ _ _ _ (@tval _ _ _ (@jisi _ _ _ _ .str _ _ _ (@jV _ 1 _ _ rfl (by walk_at "v")) rfl z_isinstance rfl z_str boot_str (by decide) (by decide) (star1 rfl) (star1 rfl) (stars rfl)) (fun _=>rfl)) (@js1 _ _ _ (@jfor _ _ _ _ _ _ _ _ PassesOwn.never rfl (@jiSeq _ _ _ _ (@jix _ _ _ _ _ _ (@jV _ 0 _ _ rfl (by walk_at "v")) (@ji _ _ _ _) (fun _ _=>rfl))) (@jg _ _ (2) _ Z4l.nd rfl (Or.inl rfl) (by walk_at "f")) (@js1 _ _ _ (@jsif _ _ _ _ _ _ _ _ (@tcmp _ _ _ _ _ _ _ _ (c_eq hr) (@jix _ _ _ _ _ _ (@jV _ 2 _ _ rfl (by walk_at "v")) (@ji _ _ _ _) (fun _ _=>rfl)) (@jV _ 1 _ _ rfl (by walk_at "v")) (nomark _)) (@js1 _ _ _ (@jret _ _ _ _ (@jV _ 2 _ _ rfl (by walk_at "v")))) (@js0 _))) (fun _=>rfl))) (@js0 _)) (@js1 _ _ _ (@jnever _ _)))) Z5Q)
abbrev Z2x:Stmt:=top 39
theorem Z6A:FnScope ["sun", "hour"] ["sun", "hour"] (defScope Z2x):=by walk_at "s"
theorem Z6B{f:Addr}{fd:FuncData} (F:Fun K "is_up" "is_up" Z2x f fd) (m:mg "is_up" = some (.ref f)) (Z0S:Cal P w K mg base 2 "direction_at" ["sun", "hour"] Z0h):Cal P w K mg base 3 "is_up" ["sun", "hour"] Z2p :=
 .mk F m (F.binds fun _ _ _ _ _ _ us hl=>args2 hl fun _ _=>rfl) (fnT (W:=Z4G) F Z6A Z60 (fun cdv A outer s H E hr =>
  (@js1 _ _ _ (@jret _ _ _ _ (@jcmp _ _ _ _ _ _ _ _ c_gt (@jix _ _ _ _ _ _ (@jcallC _ _ _ _ _ _ _ _ _ _ Z0S (hr.mono (by omega)) rfl (@ja _ _ _ _ _ (@jV _ 0 _ _ rfl (by walk_at "v")) (@ja _ _ _ _ _ (@jV _ 1 _ _ rfl (by walk_at "v")) (@ja0 _) (star1 rfl)) (star1 rfl)) (by decide) (star1 rfl) (stars rfl)) (@ji _ _ _ _) (fun _ _=>rfl)) (@ji _ _ _ _) (nomark _))))) Z6m)
abbrev Z1x:Stmt:=top 29
theorem Z5z:FnScope ["one", "other"] ["one", "other"] (defScope Z1x):=by walk_at "s"
theorem Z5A{f:Addr}{fd:FuncData} (F:Fun K "cross_of" "cross_of" Z1x f fd) (m:mg "cross_of" = some (.ref f)):Cal P w K mg base 1 "cross_of" ["one", "other"] Z0W :=
 .mk F m (F.binds fun _ _ _ _ _ _ us hl=>args2 hl fun _ _=>rfl) (fnT (W:=Z3x) F Z5z Z52 (fun cdv A outer s H E hr =>
  (@js1 _ _ _ (@jret _ _ _ _ (@jtup _ _ _ _ _ (@ja _ _ _ _ _ (@jop _ _ _ _ _ _ _ _ b_sub (@jop _ _ _ _ _ _ _ _ b_mul (@jix _ _ _ _ _ _ (@jV _ 0 _ _ rfl (by walk_at "v")) (@ji _ _ _ _) (fun _ _=>rfl)) (@jix _ _ _ _ _ _ (@jV _ 1 _ _ rfl (by walk_at "v")) (@ji _ _ _ _) (fun _ _=>rfl))) (@jop _ _ _ _ _ _ _ _ b_mul (@jix _ _ _ _ _ _ (@jV _ 0 _ _ rfl (by walk_at "v")) (@ji _ _ _ _) (fun _ _=>rfl)) (@jix _ _ _ _ _ _ (@jV _ 1 _ _ rfl (by walk_at "v")) (@ji _ _ _ _) (fun _ _=>rfl)))) (@ja _ _ _ _ _ (@jop _ _ _ _ _ _ _ _ b_sub (@jop _ _ _ _ _ _ _ _ b_mul (@jix _ _ _ _ _ _ (@jV _ 0 _ _ rfl (by walk_at "v")) (@ji _ _ _ _) (fun _ _=>rfl)) (@jix _ _ _ _ _ _ (@jV _ 1 _ _ rfl (by walk_at "v")) (@ji _ _ _ _) (fun _ _=>rfl))) (@jop _ _ _ _ _ _ _ _ b_mul (@jix _ _ _ _ _ _ (@jV _ 0 _ _ rfl (by walk_at "v")) (@ji _ _ _ _) (fun _ _=>rfl)) (@jix _ _ _ _ _ _ (@jV _ 1 _ _ rfl (by walk_at "v")) (@ji _ _ _ _) (fun _ _=>rfl)))) (@ja _ _ _ _ _ (@jop _ _ _ _ _ _ _ _ b_sub (@jop _ _ _ _ _ _ _ _ b_mul (@jix _ _ _ _ _ _ (@jV _ 0 _ _ rfl (by walk_at "v")) (@ji _ _ _ _) (fun _ _=>rfl)) (@jix _ _ _ _ _ _ (@jV _ 1 _ _ rfl (by walk_at "v")) (@ji _ _ _ _) (fun _ _=>rfl))) (@jop _ _ _ _ _ _ _ _ b_mul (@jix _ _ _ _ _ _ (@jV _ 0 _ _ rfl (by walk_at "v")) (@ji _ _ _ _) (fun _ _=>rfl)) (@jix _ _ _ _ _ _ (@jV _ 1 _ _ rfl (by walk_at "v")) (@ji _ _ _ _) (fun _ _=>rfl)))) (@ja0 _) (star1 rfl)) (star1 rfl)) (star1 rfl)))))) Z5l)
abbrev Z1y:Stmt:=top 31
theorem Z5B:FnScope ["plate"] ["plate"] (defScope Z1y):=by walk_at "s"
theorem Z5C{f:Addr}{fd:FuncData} (F:Fun K "front_of" "front_of" Z1y f fd) (m:mg "front_of" = some (.ref f)) (Z1o:Cal P w K mg base 1 "cross_of" ["one", "other"] Z0W):Cal P w K mg base 2 "front_of" ["plate"] Z0E :=
 .mk F m (F.binds fun _ _ _ _ _ _ us hl=>args1 hl fun _=>rfl) (fnT (W:=Z3y) F Z5B Z53 (fun cdv A outer s H E hr =>
  (@js1 _ _ _ (@jret _ _ _ _ (@jcallC _ _ _ _ _ _ _ _ _ _ Z1o (hr.mono (by omega)) rfl (@ja _ _ _ _ _ (@jix _ _ _ _ _ _ (@jV _ 0 _ _ rfl (by walk_at "v")) (@ji _ _ _ _) (fun _ _=>rfl)) (@ja _ _ _ _ _ (@jix _ _ _ _ _ _ (@jV _ 0 _ _ rfl (by walk_at "v")) (@ji _ _ _ _) (fun _ _=>rfl)) (@ja0 _) (star1 rfl)) (star1 rfl)) (by decide) (star1 rfl) (stars rfl))))) Z5m)
abbrev Z2b:Stmt:=top 28
theorem Z6i:FnScope ["one", "other"] ["one", "other"] (defScope Z2b):=by walk_at "s"
theorem Z6j{f:Addr}{fd:FuncData} (F:Fun K "dot_of" "dot_of" Z2b f fd) (m:mg "dot_of" = some (.ref f)):Cal P w K mg base 1 "dot_of" ["one", "other"] Z1O :=
 .mk F m (F.binds fun _ _ _ _ _ _ us hl=>args2 hl fun _ _=>rfl) (fnT (W:=Z4a) F Z6i Z5N (fun cdv A outer s H E hr =>
  (@js1 _ _ _ (@jret _ _ _ _ (@jop _ _ _ _ _ _ _ _ b_add (@jop _ _ _ _ _ _ _ _ b_add (@jop _ _ _ _ _ _ _ _ b_mul (@jix _ _ _ _ _ _ (@jV _ 0 _ _ rfl (by walk_at "v")) (@ji _ _ _ _) (fun _ _=>rfl)) (@jix _ _ _ _ _ _ (@jV _ 1 _ _ rfl (by walk_at "v")) (@ji _ _ _ _) (fun _ _=>rfl))) (@jop _ _ _ _ _ _ _ _ b_mul (@jix _ _ _ _ _ _ (@jV _ 0 _ _ rfl (by walk_at "v")) (@ji _ _ _ _) (fun _ _=>rfl)) (@jix _ _ _ _ _ _ (@jV _ 1 _ _ rfl (by walk_at "v")) (@ji _ _ _ _) (fun _ _=>rfl)))) (@jop _ _ _ _ _ _ _ _ b_mul (@jix _ _ _ _ _ _ (@jV _ 0 _ _ rfl (by walk_at "v")) (@ji _ _ _ _) (fun _ _=>rfl)) (@jix _ _ _ _ _ _ (@jV _ 1 _ _ rfl (by walk_at "v")) (@ji _ _ _ _) (fun _ _=>rfl))))))) Z5Z)
abbrev Z0i:Stmt:=top 34
theorem Z3E:FnScope ["plate", "direction"] ["plate", "direction"] (defScope Z0i):=by walk_at "s"
theorem Z3F{f:Addr}{fd:FuncData} (F:Fun K "comes_from_ahead" "comes_from_ahead" Z0i f fd) (m:mg "comes_from_ahead" = some (.ref f)) (Z0X:Cal P w K mg base 2 "front_of" ["plate"] Z0E) (Z2y:Cal P w K mg base 1 "dot_of" ["one", "other"] Z1O):Cal P w K mg base 3 "comes_from_ahead" ["plate", "direction"] Z0g :=
 .mk F m (F.binds fun _ _ _ _ _ _ us hl=>args2 hl fun _ _=>rfl) (fnT (W:=Z1F) F Z3E Z3q (fun cdv A outer s H E hr =>
  (@js1 _ _ _ (@jret _ _ _ _ (@jcmp _ _ _ _ _ _ _ _ c_gt (@jcallC _ _ _ _ _ _ _ _ _ _ Z2y (hr.mono (by omega)) rfl (@ja _ _ _ _ _ (@jcallC _ _ _ _ _ _ _ _ _ _ Z0X (hr.mono (by omega)) rfl (@ja _ _ _ _ _ (@jV _ 0 _ _ rfl (by walk_at "v")) (@ja0 _) (star1 rfl)) (by decide) (star1 rfl) (stars rfl)) (@ja _ _ _ _ _ (@jV _ 1 _ _ rfl (by walk_at "v")) (@ja0 _) (star1 rfl)) (star1 rfl)) (by decide) (star1 rfl) (stars rfl)) (@ji _ _ _ _) (nomark _))))) Z3B)
abbrev Z0o:Stmt:=top 8
theorem Z11:FnScope ["one", "other", "rest"] ["one", "other"] (defScope Z0o):=by walk_at "s"
theorem Z3N{f:Addr}{fd:FuncData} (F:Fun K "greatest_factor" "greatest_factor" Z0o f fd) (m:mg "greatest_factor" = some (.ref f)) (z_abs:mg "abs" = none):Cal P w K mg base 1 "greatest_factor" ["one", "other"] Z0C :=
 .mk F m (F.binds fun _ _ _ _ _ _ us hl=>args2 hl fun _ _=>rfl) (fnT (W:=Z1N) F Z11 Z3s (fun cdv A outer s H E hr =>
  (@jsc _ _ _ _ _ (@jwhile _ _ _ _ _ _ PassesOwn.never (@tcmp _ _ _ _ _ _ _ _ (c_ne hr) (@jV _ 1 _ _ rfl (by walk_at "v")) (@ji _ _ _ _) (nomark _)) (@jsc _ _ _ _ _ (@jset _ _ _ _ (2) _ _ Z11.nd rfl (Or.inl rfl) (@jop _ _ _ _ _ _ _ _ b_mod (@jV _ 0 _ _ rfl (by walk_at "v")) (@jV _ 1 _ _ rfl (by walk_at "v"))) (by rfl) (by walk_at "f")) (@jsc _ _ _ _ _ (@jset _ _ _ _ (0) _ _ Z11.nd rfl (Or.inl rfl) (@jV _ 1 _ _ rfl (by walk_at "v")) (by rfl) (by walk_at "f")) (@js1 _ _ _ (@jset _ _ _ _ (1) _ _ Z11.nd rfl (Or.inl rfl) (@jV _ 2 _ _ rfl (by walk_at "v")) (by rfl) (by walk_at "f")))))) (@js1 _ _ _ (@jret _ _ _ _ (@jblt _ _ _ _ _ _ _ _ _ bl_abs rfl z_abs boot_abs (@ja _ _ _ _ _ (@jV _ 0 _ _ rfl (by walk_at "v")) (@ja0 _) (star1 rfl)) (by decide) (by decide) (star1 rfl) (stars rfl)))))) Z3L)
abbrev Z1z:Stmt:=top 9
theorem Z3l:FnScope ["top", "bottom", "factor"] ["top", "bottom"] (defScope Z1z):=by walk_at "s"
theorem Z5D{f:Addr}{fd:FuncData} (F:Fun K "ratio_of" "ratio_of" Z1z f fd) (m:mg "ratio_of" = some (.ref f)) (Z1n:Cal P w K mg base 1 "is_whole" ["thing"] Z0U) (Z1S:Cal P w K mg base 1 "greatest_factor" ["one", "other"] Z0C):Cal P w K mg base 2 "ratio_of" ["top", "bottom"] Z0k :=
 .mk F m (F.binds fun _ _ _ _ _ _ us hl=>args2 hl fun _ _=>rfl) (fnT (W:=Z3u) F Z3l Z4Y (fun cdv A outer s H E hr =>
  (@jsc _ _ _ _ _ (@jsif _ _ _ _ _ _ _ _ (@jw _ _ _ (@tor _ _ _ _ _ _ _ (@tnot _ _ _ _ (@tval _ _ _ (@jcallC _ _ _ _ _ _ _ _ _ _ Z1n (hr.mono (by omega)) rfl (@ja _ _ _ _ _ (@jV _ 0 _ _ rfl (by walk_at "v")) (@ja0 _) (star1 rfl)) (by decide) (star1 rfl) (stars rfl)) (fun _=>rfl))) (@tor1 _ _ _ _ (@tnot _ _ _ _ (@tval _ _ _ (@jcallC _ _ _ _ _ _ _ _ _ _ Z1n (hr.mono (by omega)) rfl (@ja _ _ _ _ _ (@jV _ 1 _ _ rfl (by walk_at "v")) (@ja0 _) (star1 rfl)) (by decide) (star1 rfl) (stars rfl)) (fun _=>rfl)))))) (@js1 _ _ _ (@jnever _ _)) (@js0 _)) (@jsc _ _ _ _ _ (@jsif _ _ _ _ _ _ _ _ (@tcmp _ _ _ _ _ _ _ _ (c_eq hr) (@jV _ 1 _ _ rfl (by walk_at "v")) (@ji _ _ _ _) (nomark _)) (@js1 _ _ _ (@jnever _ _)) (@js0 _)) (@jsc _ _ _ _ _ (@jset _ _ _ _ (2) _ _ Z3l.nd rfl (Or.inl rfl) (@jcallC _ _ _ _ _ _ _ _ _ _ Z1S (hr.mono (by omega)) rfl (@ja _ _ _ _ _ (@jV _ 0 _ _ rfl (by walk_at "v")) (@ja _ _ _ _ _ (@jV _ 1 _ _ rfl (by walk_at "v")) (@ja0 _) (star1 rfl)) (star1 rfl)) (by decide) (star1 rfl) (stars rfl)) (by rfl) (by walk_at "f")) (@jsc _ _ _ _ _ (@jsif _ _ _ _ _ _ _ _ (@tcmp _ _ _ _ _ _ _ _ c_lt (@jV _ 1 _ _ rfl (by walk_at "v")) (@ji _ _ _ _) (nomark _)) (@js1 _ _ _ (@jset _ _ _ _ (2) _ _ Z3l.nd rfl (Or.inl rfl) (@jneg _ _ _ _ (@jV _ 2 _ _ rfl (by walk_at "v"))) (by rfl) (by walk_at "f"))) (@js0 _)) (@js1 _ _ _ (@jret _ _ _ _ (@jtup _ _ _ _ _ (@ja _ _ _ _ _ (@jop _ _ _ _ _ _ _ _ b_div (@jV _ 0 _ _ rfl (by walk_at "v")) (@jV _ 2 _ _ rfl (by walk_at "v"))) (@ja _ _ _ _ _ (@jop _ _ _ _ _ _ _ _ b_div (@jV _ 1 _ _ rfl (by walk_at "v")) (@jV _ 2 _ _ rfl (by walk_at "v"))) (@ja0 _) (star1 rfl)) (star1 rfl)))))))))) Z5i)
abbrev Z0T:Stmt:=top 12
theorem Z4s:FnScope ["one", "other"] ["one", "other"] (defScope Z0T):=by walk_at "s"
theorem Z4t{f:Addr}{fd:FuncData} (F:Fun K "ratio_times" "ratio_times" Z0T f fd) (m:mg "ratio_times" = some (.ref f)) (Z0q:Cal P w K mg base 2 "ratio_of" ["top", "bottom"] Z0k):Cal P w K mg base 3 "ratio_times" ["one", "other"] Z01 :=
 .mk F m (F.binds fun _ _ _ _ _ _ us hl=>args2 hl fun _ _=>rfl) (fnT (W:=Z2A) F Z4s Z49 (fun cdv A outer s H E hr =>
  (@js1 _ _ _ (@jret _ _ _ _ (@jcallC _ _ _ _ _ _ _ _ _ _ Z0q (hr.mono (by omega)) rfl (@ja _ _ _ _ _ (@jop _ _ _ _ _ _ _ _ b_mul (@jix _ _ _ _ _ _ (@jV _ 0 _ _ rfl (by walk_at "v")) (@ji _ _ _ _) (fun _ _=>rfl)) (@jix _ _ _ _ _ _ (@jV _ 1 _ _ rfl (by walk_at "v")) (@ji _ _ _ _) (fun _ _=>rfl))) (@ja _ _ _ _ _ (@jop _ _ _ _ _ _ _ _ b_mul (@jix _ _ _ _ _ _ (@jV _ 0 _ _ rfl (by walk_at "v")) (@ji _ _ _ _) (fun _ _=>rfl)) (@jix _ _ _ _ _ _ (@jV _ 1 _ _ rfl (by walk_at "v")) (@ji _ _ _ _) (fun _ _=>rfl))) (@ja0 _) (star1 rfl)) (star1 rfl)) (by decide) (star1 rfl) (stars rfl))))) Z4n)
abbrev Z1h:Stmt:=top 10
theorem Z5a:FnScope ["one", "other"] ["one", "other"] (defScope Z1h):=by walk_at "s"
theorem Z5b{f:Addr}{fd:FuncData} (F:Fun K "ratio_sum" "ratio_sum" Z1h f fd) (m:mg "ratio_sum" = some (.ref f)) (Z0q:Cal P w K mg base 2 "ratio_of" ["top", "bottom"] Z0k):Cal P w K mg base 3 "ratio_sum" ["one", "other"] Z03 :=
 .mk F m (F.binds fun _ _ _ _ _ _ us hl=>args2 hl fun _ _=>rfl) (fnT (W:=Z38) F Z5a Z4y (fun cdv A outer s H E hr =>
  (@js1 _ _ _ (@jret _ _ _ _ (@jcallC _ _ _ _ _ _ _ _ _ _ Z0q (hr.mono (by omega)) rfl (@ja _ _ _ _ _ (@jop _ _ _ _ _ _ _ _ b_add (@jop _ _ _ _ _ _ _ _ b_mul (@jix _ _ _ _ _ _ (@jV _ 0 _ _ rfl (by walk_at "v")) (@ji _ _ _ _) (fun _ _=>rfl)) (@jix _ _ _ _ _ _ (@jV _ 1 _ _ rfl (by walk_at "v")) (@ji _ _ _ _) (fun _ _=>rfl))) (@jop _ _ _ _ _ _ _ _ b_mul (@jix _ _ _ _ _ _ (@jV _ 1 _ _ rfl (by walk_at "v")) (@ji _ _ _ _) (fun _ _=>rfl)) (@jix _ _ _ _ _ _ (@jV _ 0 _ _ rfl (by walk_at "v")) (@ji _ _ _ _) (fun _ _=>rfl)))) (@ja _ _ _ _ _ (@jop _ _ _ _ _ _ _ _ b_mul (@jix _ _ _ _ _ _ (@jV _ 0 _ _ rfl (by walk_at "v")) (@ji _ _ _ _) (fun _ _=>rfl)) (@jix _ _ _ _ _ _ (@jV _ 1 _ _ rfl (by walk_at "v")) (@ji _ _ _ _) (fun _ _=>rfl))) (@ja0 _) (star1 rfl)) (star1 rfl)) (by decide) (star1 rfl) (stars rfl))))) Z4Z)
abbrev Z1i:Stmt:=top 32
theorem Z2W:FnScope ["plate", "place", "axis", "along_side", "along_other"] ["plate", "place", "axis"] (defScope Z1i):=by walk_at "s"
theorem Z5c{f:Addr}{fd:FuncData} (F:Fun K "number_at" "number_at" Z1i f fd) (m:mg "number_at" = some (.ref f)) (Z04:Cal P w K mg base 3 "ratio_times" ["one", "other"] Z01) (Z05:Cal P w K mg base 3 "ratio_sum" ["one", "other"] Z03):Cal P w K mg base 4 "number_at" ["plate", "place", "axis"] Z1H :=
 .mk F m (F.binds fun _ _ _ _ _ _ us hl=>args3 hl fun _ _ _=>rfl) (fnT (W:=Z3a) F Z2W Z4D (fun cdv A outer s H E hr =>
  (@jsc _ _ _ _ _ (@jset _ _ _ _ (3) _ _ Z2W.nd rfl (Or.inl rfl) (@jcallC _ _ _ _ _ _ _ _ _ _ Z04 (hr.mono (by omega)) rfl (@ja _ _ _ _ _ (@jix _ _ _ _ _ _ (@jV _ 1 _ _ rfl (by walk_at "v")) (@ji _ _ _ _) (fun _ _=>rfl)) (@ja _ _ _ _ _ (@jtup _ _ _ _ _ (@ja _ _ _ _ _ (@jix _ _ _ _ _ _ (@jix _ _ _ _ _ _ (@jV _ 0 _ _ rfl (by walk_at "v")) (@ji _ _ _ _) (fun _ _=>rfl)) (@jV _ 2 _ _ rfl (by walk_at "v")) (fun _ _=>rfl)) (@ja _ _ _ _ _ (@ji _ _ _ _) (@ja0 _) (star1 rfl)) (star1 rfl))) (@ja0 _) (star1 rfl)) (star1 rfl)) (by decide) (star1 rfl) (stars rfl)) (by rfl) (by walk_at "f")) (@jsc _ _ _ _ _ (@jset _ _ _ _ (4) _ _ Z2W.nd rfl (Or.inl rfl) (@jcallC _ _ _ _ _ _ _ _ _ _ Z04 (hr.mono (by omega)) rfl (@ja _ _ _ _ _ (@jix _ _ _ _ _ _ (@jV _ 1 _ _ rfl (by walk_at "v")) (@ji _ _ _ _) (fun _ _=>rfl)) (@ja _ _ _ _ _ (@jtup _ _ _ _ _ (@ja _ _ _ _ _ (@jix _ _ _ _ _ _ (@jix _ _ _ _ _ _ (@jV _ 0 _ _ rfl (by walk_at "v")) (@ji _ _ _ _) (fun _ _=>rfl)) (@jV _ 2 _ _ rfl (by walk_at "v")) (fun _ _=>rfl)) (@ja _ _ _ _ _ (@ji _ _ _ _) (@ja0 _) (star1 rfl)) (star1 rfl))) (@ja0 _) (star1 rfl)) (star1 rfl)) (by decide) (star1 rfl) (stars rfl)) (by rfl) (by walk_at "f")) (@js1 _ _ _ (@jret _ _ _ _ (@jcallC _ _ _ _ _ _ _ _ _ _ Z05 (hr.mono (by omega)) rfl (@ja _ _ _ _ _ (@jtup _ _ _ _ _ (@ja _ _ _ _ _ (@jix _ _ _ _ _ _ (@jix _ _ _ _ _ _ (@jV _ 0 _ _ rfl (by walk_at "v")) (@ji _ _ _ _) (fun _ _=>rfl)) (@jV _ 2 _ _ rfl (by walk_at "v")) (fun _ _=>rfl)) (@ja _ _ _ _ _ (@ji _ _ _ _) (@ja0 _) (star1 rfl)) (star1 rfl))) (@ja _ _ _ _ _ (@jcallC _ _ _ _ _ _ _ _ _ _ Z05 (hr.mono (by omega)) rfl (@ja _ _ _ _ _ (@jV _ 3 _ _ rfl (by walk_at "v")) (@ja _ _ _ _ _ (@jV _ 4 _ _ rfl (by walk_at "v")) (@ja0 _) (star1 rfl)) (star1 rfl)) (by decide) (star1 rfl) (stars rfl)) (@ja0 _) (star1 rfl)) (star1 rfl)) (by decide) (star1 rfl) (stars rfl))))))) Z55)
abbrev Z1b:Stmt:=top 33
theorem Z5E:FnScope ["plate", "place"] ["plate", "place"] (defScope Z1b):=by walk_at "s"
theorem Z5F{f:Addr}{fd:FuncData} (F:Fun K "point_of" "point_of" Z1b f fd) (m:mg "point_of" = some (.ref f)) (Z3m:Cal P w K mg base 4 "number_at" ["plate", "place", "axis"] Z1H) (z_range:mg "range" = none) (z_tuple:mg "tuple" = none):Cal P w K mg base 5 "point_of" ["plate", "place"] Z1a :=
 .mk F m (F.binds fun _ _ _ _ _ _ us hl=>args2 hl fun _ _=>rfl) (fnT (W:=Z3z) F Z5E Z56 (fun cdv A outer s H E hr =>
  (@js1 _ _ _ (@jret _ _ _ _ (@jty _ _ _ _ _ _ _ _ _ ty_tuple rfl z_tuple boot_tuple (@ja _ _ _ _ _ (@jcomp _ _ _ _ _ _ _ (defScope Z1b) (["axis"]) (["plate" , "place"]) ([("plate" , 0) , ("place" , 1)]) _ _ _ _ rfl rfl rfl (@jiRange1 _ _ _ _ _ _ rfl z_range (@ja _ _ _ _ _ (@ji _ _ _ _) (@ja0 _) (star1 rfl)) (by rfl)) rfl rfl (by decide +kernel) (by decide +kernel) (by decide +kernel) (by decide +kernel) (fun cl C s3 H2 ex=>(@jg _ _ (0) _ (show List.Nodup (["axis" , "plate" , "place"]:List Str) from by decide +kernel) rfl (Or.inl rfl) (by walk_at "f"))) (fun cl C s3 H2 ex=>(@jts0 _)) (fun cl C s3 H2 ex=>(@jcallC _ _ _ _ _ _ _ _ _ _ Z3m (hr.mono (by omega)) rfl (@ja _ _ _ _ _ (@jV _ 1 _ _ rfl (by walk_at "v")) (@ja _ _ _ _ _ (@jV _ 2 _ _ rfl (by walk_at "v")) (@ja _ _ _ _ _ (@jV _ 0 _ _ rfl (by walk_at "v")) (@ja0 _) (star1 rfl)) (star1 rfl)) (star1 rfl)) (by decide) (star1 rfl) (stars rfl))) (fun _=>rfl)) (@ja0 _) (star1 rfl)) (by decide) (by decide) (star1 rfl) (stars rfl))))) Z5n)
abbrev Z14:Stmt:=top 11
theorem Z4O:FnScope ["one", "other"] ["one", "other"] (defScope Z14):=by walk_at "s"
theorem Z4P{f:Addr}{fd:FuncData} (F:Fun K "ratio_less" "ratio_less" Z14 f fd) (m:mg "ratio_less" = some (.ref f)) (Z0q:Cal P w K mg base 2 "ratio_of" ["top", "bottom"] Z0k):Cal P w K mg base 3 "ratio_less" ["one", "other"] Z00 :=
 .mk F m (F.binds fun _ _ _ _ _ _ us hl=>args2 hl fun _ _=>rfl) (fnT (W:=Z2O) F Z4O Z4m (fun cdv A outer s H E hr =>
  (@js1 _ _ _ (@jret _ _ _ _ (@jcallC _ _ _ _ _ _ _ _ _ _ Z0q (hr.mono (by omega)) rfl (@ja _ _ _ _ _ (@jop _ _ _ _ _ _ _ _ b_sub (@jop _ _ _ _ _ _ _ _ b_mul (@jix _ _ _ _ _ _ (@jV _ 0 _ _ rfl (by walk_at "v")) (@ji _ _ _ _) (fun _ _=>rfl)) (@jix _ _ _ _ _ _ (@jV _ 1 _ _ rfl (by walk_at "v")) (@ji _ _ _ _) (fun _ _=>rfl))) (@jop _ _ _ _ _ _ _ _ b_mul (@jix _ _ _ _ _ _ (@jV _ 1 _ _ rfl (by walk_at "v")) (@ji _ _ _ _) (fun _ _=>rfl)) (@jix _ _ _ _ _ _ (@jV _ 0 _ _ rfl (by walk_at "v")) (@ji _ _ _ _) (fun _ _=>rfl)))) (@ja _ _ _ _ _ (@jop _ _ _ _ _ _ _ _ b_mul (@jix _ _ _ _ _ _ (@jV _ 0 _ _ rfl (by walk_at "v")) (@ji _ _ _ _) (fun _ _=>rfl)) (@jix _ _ _ _ _ _ (@jV _ 1 _ _ rfl (by walk_at "v")) (@ji _ _ _ _) (fun _ _=>rfl))) (@ja0 _) (star1 rfl)) (star1 rfl)) (by decide) (star1 rfl) (stars rfl))))) Z4z)
abbrev Z0Q:Stmt:=top 16
theorem Z4Q:FnScope ["point", "triple"] ["point", "triple"] (defScope Z0Q):=by walk_at "s"
theorem Z4R{f:Addr}{fd:FuncData} (F:Fun K "point_less" "point_less" Z0Q f fd) (m:mg "point_less" = some (.ref f)) (Z02:Cal P w K mg base 3 "ratio_less" ["one", "other"] Z00) (z_range:mg "range" = none) (z_tuple:mg "tuple" = none):Cal P w K mg base 4 "point_less" ["point", "triple"] Z0M :=
 .mk F m (F.binds fun _ _ _ _ _ _ us hl=>args2 hl fun _ _=>rfl) (fnT (W:=Z2P) F Z4Q Z4o (fun cdv A outer s H E hr =>
  (@js1 _ _ _ (@jret _ _ _ _ (@jty _ _ _ _ _ _ _ _ _ ty_tuple rfl z_tuple boot_tuple (@ja _ _ _ _ _ (@jcomp _ _ _ _ _ _ _ (defScope Z0Q) (["axis"]) (["point" , "triple"]) ([("point" , 0) , ("triple" , 1)]) _ _ _ _ rfl rfl rfl (@jiRange1 _ _ _ _ _ _ rfl z_range (@ja _ _ _ _ _ (@ji _ _ _ _) (@ja0 _) (star1 rfl)) (by rfl)) rfl rfl (by decide +kernel) (by decide +kernel) (by decide +kernel) (by decide +kernel) (fun cl C s3 H2 ex=>(@jg _ _ (0) _ (show List.Nodup (["axis" , "point" , "triple"]:List Str) from by decide +kernel) rfl (Or.inl rfl) (by walk_at "f"))) (fun cl C s3 H2 ex=>(@jts0 _)) (fun cl C s3 H2 ex=>(@jcallC _ _ _ _ _ _ _ _ _ _ Z02 (hr.mono (by omega)) rfl (@ja _ _ _ _ _ (@jix _ _ _ _ _ _ (@jV _ 1 _ _ rfl (by walk_at "v")) (@jV _ 0 _ _ rfl (by walk_at "v")) (fun _ _=>rfl)) (@ja _ _ _ _ _ (@jtup _ _ _ _ _ (@ja _ _ _ _ _ (@jix _ _ _ _ _ _ (@jV _ 2 _ _ rfl (by walk_at "v")) (@jV _ 0 _ _ rfl (by walk_at "v")) (fun _ _=>rfl)) (@ja _ _ _ _ _ (@ji _ _ _ _) (@ja0 _) (star1 rfl)) (star1 rfl))) (@ja0 _) (star1 rfl)) (star1 rfl)) (by decide) (star1 rfl) (stars rfl))) (fun _=>rfl)) (@ja0 _) (star1 rfl)) (by decide) (by decide) (star1 rfl) (stars rfl))))) Z4A)
abbrev Z0Z:Stmt:=top 17
theorem Z3O:FnScope ["point", "triple", "products"] ["point", "triple"] (defScope Z0Z):=by walk_at "s"
theorem Z5d{f:Addr}{fd:FuncData} (F:Fun K "point_dot" "point_dot" Z0Z f fd) (m:mg "point_dot" = some (.ref f)) (Z04:Cal P w K mg base 3 "ratio_times" ["one", "other"] Z01) (Z05:Cal P w K mg base 3 "ratio_sum" ["one", "other"] Z03) (z_range:mg "range" = none):Cal P w K mg base 4 "point_dot" ["point", "triple"] Z0G :=
 .mk F m (F.binds fun _ _ _ _ _ _ us hl=>args2 hl fun _ _=>rfl) (fnT (W:=Z39) F Z3O Z4B (fun cdv A outer s H E hr =>
  (@jsc _ _ _ _ _ (@jsetc _ _ _ _ _ _ _ (defScope Z0Z) (["axis"]) (["point" , "triple" , "products"]) ([("point" , 0) , ("triple" , 1)]) _ _ _ _ (2) _ _ _ Z3O.nd rfl (Or.inl rfl) rfl rfl rfl (@jiRange1 _ _ _ _ _ _ rfl z_range (@ja _ _ _ _ _ (@ji _ _ _ _) (@ja0 _) (star1 rfl)) (by rfl)) rfl rfl (by decide +kernel) (by decide +kernel) (by decide +kernel) (by decide +kernel) (fun cl C s3 H2 ex=>(@jg _ _ (0) _ (show List.Nodup (["axis" , "point" , "triple"]:List Str) from by decide +kernel) rfl (Or.inl rfl) (by walk_at "f"))) (fun cl C s3 H2 ex=>(@jts0 _)) (fun cl C s3 H2 ex=>(@jcallC _ _ _ _ _ _ _ _ _ _ Z04 (hr.mono (by omega)) rfl (@ja _ _ _ _ _ (@jix _ _ _ _ _ _ (@jV _ 1 _ _ rfl (by walk_at "v")) (@jV _ 0 _ _ rfl (by walk_at "v")) (fun _ _=>rfl)) (@ja _ _ _ _ _ (@jtup _ _ _ _ _ (@ja _ _ _ _ _ (@jix _ _ _ _ _ _ (@jV _ 2 _ _ rfl (by walk_at "v")) (@jV _ 0 _ _ rfl (by walk_at "v")) (fun _ _=>rfl)) (@ja _ _ _ _ _ (@ji _ _ _ _) (@ja0 _) (star1 rfl)) (star1 rfl))) (@ja0 _) (star1 rfl)) (star1 rfl)) (by decide) (star1 rfl) (stars rfl))) (fun _=>rfl) (by rfl) (by walk_at "f")) (@js1 _ _ _ (@jret _ _ _ _ (@jcallC _ _ _ _ _ _ _ _ _ _ Z05 (hr.mono (by omega)) rfl (@ja _ _ _ _ _ (@jix _ _ _ _ _ _ (@jV _ 2 _ _ rfl (by walk_at "v")) (@ji _ _ _ _) (fun _ _=>rfl)) (@ja _ _ _ _ _ (@jcallC _ _ _ _ _ _ _ _ _ _ Z05 (hr.mono (by omega)) rfl (@ja _ _ _ _ _ (@jix _ _ _ _ _ _ (@jV _ 2 _ _ rfl (by walk_at "v")) (@ji _ _ _ _) (fun _ _=>rfl)) (@ja _ _ _ _ _ (@jix _ _ _ _ _ _ (@jV _ 2 _ _ rfl (by walk_at "v")) (@ji _ _ _ _) (fun _ _=>rfl)) (@ja0 _) (star1 rfl)) (star1 rfl)) (by decide) (star1 rfl) (stars rfl)) (@ja0 _) (star1 rfl)) (star1 rfl)) (by decide) (star1 rfl) (stars rfl)))))) Z54)
abbrev Z1A:Stmt:=top 13
theorem Z5G:FnScope ["one", "other"] ["one", "other"] (defScope Z1A):=by walk_at "s"
theorem Z5H{f:Addr}{fd:FuncData} (F:Fun K "ratio_by" "ratio_by" Z1A f fd) (m:mg "ratio_by" = some (.ref f)) (Z0q:Cal P w K mg base 2 "ratio_of" ["top", "bottom"] Z0k):Cal P w K mg base 3 "ratio_by" ["one", "other"] Z0w :=
 .mk F m (F.binds fun _ _ _ _ _ _ us hl=>args2 hl fun _ _=>rfl) (fnT (W:=Z3v) F Z5G Z50 (fun cdv A outer s H E hr =>
  (@js1 _ _ _ (@jret _ _ _ _ (@jcallC _ _ _ _ _ _ _ _ _ _ Z0q (hr.mono (by omega)) rfl (@ja _ _ _ _ _ (@jop _ _ _ _ _ _ _ _ b_mul (@jix _ _ _ _ _ _ (@jV _ 0 _ _ rfl (by walk_at "v")) (@ji _ _ _ _) (fun _ _=>rfl)) (@jix _ _ _ _ _ _ (@jV _ 1 _ _ rfl (by walk_at "v")) (@ji _ _ _ _) (fun _ _=>rfl))) (@ja _ _ _ _ _ (@jop _ _ _ _ _ _ _ _ b_mul (@jix _ _ _ _ _ _ (@jV _ 0 _ _ rfl (by walk_at "v")) (@ji _ _ _ _) (fun _ _=>rfl)) (@jix _ _ _ _ _ _ (@jV _ 1 _ _ rfl (by walk_at "v")) (@ji _ _ _ _) (fun _ _=>rfl))) (@ja0 _) (star1 rfl)) (star1 rfl)) (by decide) (star1 rfl) (stars rfl))))) Z5j)
abbrev Z15:Stmt:=top 36
theorem Z1p:FnScope ["plate", "point", "direction", "across", "beyond", "along_side", "along_other"] ["plate", "point", "direction"] (defScope Z15):=by walk_at "s"
theorem Z4S{f:Addr}{fd:FuncData} (F:Fun K "meeting_of" "meeting_of" Z15 f fd) (m:mg "meeting_of" = some (.ref f)) (Z0X:Cal P w K mg base 2 "front_of" ["plate"] Z0E) (Z2y:Cal P w K mg base 1 "dot_of" ["one", "other"] Z1O) (Z1j:Cal P w K mg base 4 "point_less" ["point", "triple"] Z0M) (Z1o:Cal P w K mg base 1 "cross_of" ["one", "other"] Z0W) (Z1c:Cal P w K mg base 4 "point_dot" ["point", "triple"] Z0G) (Z1q:Cal P w K mg base 3 "ratio_by" ["one", "other"] Z0w):Cal P w K mg base 5 "meeting_of" ["plate", "point", "direction"] Z12 :=
 .mk F m (F.binds fun _ _ _ _ _ _ us hl=>args3 hl fun _ _ _=>rfl) (fnT (W:=Z2Q) F Z1p Z4p (fun cdv A outer s H E hr =>
  (@jsc _ _ _ _ _ (@jset _ _ _ _ (3) _ _ Z1p.nd rfl (Or.inl rfl) (@jcallC _ _ _ _ _ _ _ _ _ _ Z2y (hr.mono (by omega)) rfl (@ja _ _ _ _ _ (@jcallC _ _ _ _ _ _ _ _ _ _ Z0X (hr.mono (by omega)) rfl (@ja _ _ _ _ _ (@jV _ 0 _ _ rfl (by walk_at "v")) (@ja0 _) (star1 rfl)) (by decide) (star1 rfl) (stars rfl)) (@ja _ _ _ _ _ (@jV _ 2 _ _ rfl (by walk_at "v")) (@ja0 _) (star1 rfl)) (star1 rfl)) (by decide) (star1 rfl) (stars rfl)) (by rfl) (by walk_at "f")) (@jsc _ _ _ _ _ (@jsif _ _ _ _ _ _ _ _ (@tcmp _ _ _ _ _ _ _ _ (c_eq hr) (@jV _ 3 _ _ rfl (by walk_at "v")) (@ji _ _ _ _) (nomark _)) (@js1 _ _ _ (@jret _ _ _ _ (@jn _ _ _))) (@js0 _)) (@jsc _ _ _ _ _ (@jset _ _ _ _ (4) _ _ Z1p.nd rfl (Or.inl rfl) (@jcallC _ _ _ _ _ _ _ _ _ _ Z1j (hr.mono (by omega)) rfl (@ja _ _ _ _ _ (@jV _ 1 _ _ rfl (by walk_at "v")) (@ja _ _ _ _ _ (@jix _ _ _ _ _ _ (@jV _ 0 _ _ rfl (by walk_at "v")) (@ji _ _ _ _) (fun _ _=>rfl)) (@ja0 _) (star1 rfl)) (star1 rfl)) (by decide) (star1 rfl) (stars rfl)) (by rfl) (by walk_at "f")) (@jsc _ _ _ _ _ (@jset _ _ _ _ (5) _ _ Z1p.nd rfl (Or.inl rfl) (@jcallC _ _ _ _ _ _ _ _ _ _ Z1c (hr.mono (by omega)) rfl (@ja _ _ _ _ _ (@jV _ 4 _ _ rfl (by walk_at "v")) (@ja _ _ _ _ _ (@jcallC _ _ _ _ _ _ _ _ _ _ Z1o (hr.mono (by omega)) rfl (@ja _ _ _ _ _ (@jix _ _ _ _ _ _ (@jV _ 0 _ _ rfl (by walk_at "v")) (@ji _ _ _ _) (fun _ _=>rfl)) (@ja _ _ _ _ _ (@jV _ 2 _ _ rfl (by walk_at "v")) (@ja0 _) (star1 rfl)) (star1 rfl)) (by decide) (star1 rfl) (stars rfl)) (@ja0 _) (star1 rfl)) (star1 rfl)) (by decide) (star1 rfl) (stars rfl)) (by rfl) (by walk_at "f")) (@jsc _ _ _ _ _ (@jset _ _ _ _ (6) _ _ Z1p.nd rfl (Or.inl rfl) (@jcallC _ _ _ _ _ _ _ _ _ _ Z1c (hr.mono (by omega)) rfl (@ja _ _ _ _ _ (@jV _ 4 _ _ rfl (by walk_at "v")) (@ja _ _ _ _ _ (@jcallC _ _ _ _ _ _ _ _ _ _ Z1o (hr.mono (by omega)) rfl (@ja _ _ _ _ _ (@jV _ 2 _ _ rfl (by walk_at "v")) (@ja _ _ _ _ _ (@jix _ _ _ _ _ _ (@jV _ 0 _ _ rfl (by walk_at "v")) (@ji _ _ _ _) (fun _ _=>rfl)) (@ja0 _) (star1 rfl)) (star1 rfl)) (by decide) (star1 rfl) (stars rfl)) (@ja0 _) (star1 rfl)) (star1 rfl)) (by decide) (star1 rfl) (stars rfl)) (by rfl) (by walk_at "f")) (@js1 _ _ _ (@jret _ _ _ _ (@jtup _ _ _ _ _ (@ja _ _ _ _ _ (@jcallC _ _ _ _ _ _ _ _ _ _ Z1q (hr.mono (by omega)) rfl (@ja _ _ _ _ _ (@jV _ 5 _ _ rfl (by walk_at "v")) (@ja _ _ _ _ _ (@jtup _ _ _ _ _ (@ja _ _ _ _ _ (@jV _ 3 _ _ rfl (by walk_at "v")) (@ja _ _ _ _ _ (@ji _ _ _ _) (@ja0 _) (star1 rfl)) (star1 rfl))) (@ja0 _) (star1 rfl)) (star1 rfl)) (by decide) (star1 rfl) (stars rfl)) (@ja _ _ _ _ _ (@jcallC _ _ _ _ _ _ _ _ _ _ Z1q (hr.mono (by omega)) rfl (@ja _ _ _ _ _ (@jV _ 6 _ _ rfl (by walk_at "v")) (@ja _ _ _ _ _ (@jtup _ _ _ _ _ (@ja _ _ _ _ _ (@jV _ 3 _ _ rfl (by walk_at "v")) (@ja _ _ _ _ _ (@ji _ _ _ _) (@ja0 _) (star1 rfl)) (star1 rfl))) (@ja0 _) (star1 rfl)) (star1 rfl)) (by decide) (star1 rfl) (stars rfl)) (@ja0 _) (star1 rfl)) (star1 rfl))))))))))) Z4C)
abbrev Z0l:Stmt:=top 22
theorem Z46:FnScope ["one", "other", "way"] ["one", "other", "way"] (defScope Z0l):=by walk_at "s"
theorem Z47{f:Addr}{fd:FuncData} (F:Fun K "place_between" "place_between" Z0l f fd) (m:mg "place_between" = some (.ref f)) (Z02:Cal P w K mg base 3 "ratio_less" ["one", "other"] Z00) (Z04:Cal P w K mg base 3 "ratio_times" ["one", "other"] Z01) (Z05:Cal P w K mg base 3 "ratio_sum" ["one", "other"] Z03) (z_range:mg "range" = none) (z_tuple:mg "tuple" = none):Cal P w K mg base 4 "place_between" ["one", "other", "way"] Z0y :=
 .mk F m (F.binds fun _ _ _ _ _ _ us hl=>args3 hl fun _ _ _=>rfl) (fnT (W:=Z21) F Z46 Z3Q (fun cdv A outer s H E hr =>
  (@js1 _ _ _ (@jret _ _ _ _ (@jty _ _ _ _ _ _ _ _ _ ty_tuple rfl z_tuple boot_tuple (@ja _ _ _ _ _ (@jcomp _ _ _ _ _ _ _ (defScope Z0l) (["axis"]) (["one" , "other" , "way"]) ([("one" , 0) , ("way" , 2) , ("other" , 1)]) _ _ _ _ rfl rfl rfl (@jiRange1 _ _ _ _ _ _ rfl z_range (@ja _ _ _ _ _ (@ji _ _ _ _) (@ja0 _) (star1 rfl)) (by rfl)) rfl rfl (by decide +kernel) (by decide +kernel) (by decide +kernel) (by decide +kernel) (fun cl C s3 H2 ex=>(@jg _ _ (0) _ (show List.Nodup (["axis" , "one" , "way" , "other"]:List Str) from by decide +kernel) rfl (Or.inl rfl) (by walk_at "f"))) (fun cl C s3 H2 ex=>(@jts0 _)) (fun cl C s3 H2 ex=>(@jcallC _ _ _ _ _ _ _ _ _ _ Z05 (hr.mono (by omega)) rfl (@ja _ _ _ _ _ (@jix _ _ _ _ _ _ (@jV _ 1 _ _ rfl (by walk_at "v")) (@jV _ 0 _ _ rfl (by walk_at "v")) (fun _ _=>rfl)) (@ja _ _ _ _ _ (@jcallC _ _ _ _ _ _ _ _ _ _ Z04 (hr.mono (by omega)) rfl (@ja _ _ _ _ _ (@jV _ 2 _ _ rfl (by walk_at "v")) (@ja _ _ _ _ _ (@jcallC _ _ _ _ _ _ _ _ _ _ Z02 (hr.mono (by omega)) rfl (@ja _ _ _ _ _ (@jix _ _ _ _ _ _ (@jV _ 3 _ _ rfl (by walk_at "v")) (@jV _ 0 _ _ rfl (by walk_at "v")) (fun _ _=>rfl)) (@ja _ _ _ _ _ (@jix _ _ _ _ _ _ (@jV _ 1 _ _ rfl (by walk_at "v")) (@jV _ 0 _ _ rfl (by walk_at "v")) (fun _ _=>rfl)) (@ja0 _) (star1 rfl)) (star1 rfl)) (by decide) (star1 rfl) (stars rfl)) (@ja0 _) (star1 rfl)) (star1 rfl)) (by decide) (star1 rfl) (stars rfl)) (@ja0 _) (star1 rfl)) (star1 rfl)) (by decide) (star1 rfl) (stars rfl))) (fun _=>rfl)) (@ja0 _) (star1 rfl)) (by decide) (by decide) (star1 rfl) (stars rfl))))) Z3Z)
abbrev Z0z:Stmt:=top 23
theorem Z0m:FnScope ["corners", "heights", "kept", "number", "corner", "here", "ahead", "way"] ["corners", "heights"] (defScope Z0z):=by walk_at "s"
theorem Z48{f:Addr}{fd:FuncData} (F:Fun K "cut_at_nought" "cut_at_nought" Z0z f fd) (m:mg "cut_at_nought" = some (.ref f)) (Z02:Cal P w K mg base 3 "ratio_less" ["one", "other"] Z00) (Z1q:Cal P w K mg base 3 "ratio_by" ["one", "other"] Z0w) (Z2c:Cal P w K mg base 4 "place_between" ["one", "other", "way"] Z0y) (z_enumerate:mg "enumerate" = none):Cal P w K mg base 5 "cut_at_nought" ["corners", "heights"] Z07 :=
 .mk F m (F.binds fun _ _ _ _ _ _ us hl=>args2 hl fun _ _=>rfl) (fnT (W:=Z22) F Z0m Z3S (fun cdv A outer s H E hr =>
  (@jsc _ _ _ _ _ (@jown _ _ _ _ (2) _ _ _ Z0m.nd rfl (Or.inl rfl) (@ja0 _) (by rfl) (by walk_at "f")) (@jsc _ _ _ _ _ (@jfor _ _ _ _ _ _ _ _ PassesOwn.never rfl (@jiEnum _ _ _ _ _ _ _ _ rfl z_enumerate (@ja _ _ _ _ _ (@jV _ 0 _ _ rfl (by walk_at "v")) (@ja0 _) (star1 rfl)) (by rfl)) (@jgt _ _ _ _ _ _ rfl (@jgsc _ _ _ _ _ (@jg _ _ (3) _ Z0m.nd rfl (Or.inl rfl) (by walk_at "f")) (@jgsc _ _ _ _ _ (@jg _ _ (4) _ Z0m.nd rfl (Or.inl rfl) (by walk_at "f")) (@jgs0 _) (by rfl)) (by rfl)) (by rfl) (by rfl)) (@jsc _ _ _ _ _ (@jset _ _ _ _ (5) _ _ Z0m.nd rfl (Or.inl rfl) (@jix _ _ _ _ _ _ (@jV _ 1 _ _ rfl (by walk_at "v")) (@jV _ 3 _ _ rfl (by walk_at "v")) (fun _ _=>rfl)) (by rfl) (by walk_at "f")) (@jsc _ _ _ _ _ (@jset _ _ _ _ (6) _ _ Z0m.nd rfl (Or.inl rfl) (@jix _ _ _ _ _ _ (@jV _ 1 _ _ rfl (by walk_at "v")) (@jop _ _ _ _ _ _ _ _ b_sub (@jV _ 3 _ _ rfl (by walk_at "v")) (@ji _ _ _ _)) (fun _ _=>rfl)) (by rfl) (by walk_at "f")) (@jsc _ _ _ _ _ (@jsif _ _ _ _ _ _ _ _ (@tcmp _ _ _ _ _ _ _ _ c_lt (@jop _ _ _ _ _ _ _ _ b_mul (@jix _ _ _ _ _ _ (@jV _ 5 _ _ rfl (by walk_at "v")) (@ji _ _ _ _) (fun _ _=>rfl)) (@jix _ _ _ _ _ _ (@jV _ 6 _ _ rfl (by walk_at "v")) (@ji _ _ _ _) (fun _ _=>rfl))) (@ji _ _ _ _) (nomark _)) (@jsc _ _ _ _ _ (@jset _ _ _ _ (7) _ _ Z0m.nd rfl (Or.inl rfl) (@jcallC _ _ _ _ _ _ _ _ _ _ Z1q (hr.mono (by omega)) rfl (@ja _ _ _ _ _ (@jV _ 6 _ _ rfl (by walk_at "v")) (@ja _ _ _ _ _ (@jcallC _ _ _ _ _ _ _ _ _ _ Z02 (hr.mono (by omega)) rfl (@ja _ _ _ _ _ (@jV _ 6 _ _ rfl (by walk_at "v")) (@ja _ _ _ _ _ (@jV _ 5 _ _ rfl (by walk_at "v")) (@ja0 _) (star1 rfl)) (star1 rfl)) (by decide) (star1 rfl) (stars rfl)) (@ja0 _) (star1 rfl)) (star1 rfl)) (by decide) (star1 rfl) (stars rfl)) (by rfl) (by walk_at "f")) (@js1 _ _ _ (@japp _ _ _ _ _ _ _ _ _ (pv 2) (@jcallC _ _ _ _ _ _ _ _ _ _ Z2c (hr.mono (by omega)) rfl (@ja _ _ _ _ _ (@jix _ _ _ _ _ _ (@jV _ 0 _ _ rfl (by walk_at "v")) (@jop _ _ _ _ _ _ _ _ b_sub (@jV _ 3 _ _ rfl (by walk_at "v")) (@ji _ _ _ _)) (fun _ _=>rfl)) (@ja _ _ _ _ _ (@jV _ 4 _ _ rfl (by walk_at "v")) (@ja _ _ _ _ _ (@jV _ 7 _ _ rfl (by walk_at "v")) (@ja0 _) (star1 rfl)) (star1 rfl)) (star1 rfl)) (by decide) (star1 rfl) (stars rfl)) (by rfl) (by rfl) (by rfl) (by rfl) (by rfl) (by rfl)))) (@js0 _)) (@js1 _ _ _ (@jsif _ _ _ _ _ _ _ _ (@tcmp _ _ _ _ _ _ _ _ c_ge (@jix _ _ _ _ _ _ (@jV _ 5 _ _ rfl (by walk_at "v")) (@ji _ _ _ _) (fun _ _=>rfl)) (@ji _ _ _ _) (nomark _)) (@js1 _ _ _ (@japp _ _ _ _ _ _ _ _ _ (pv 2) (@jV _ 4 _ _ rfl (by walk_at "v")) (by rfl) (by rfl) (by rfl) (by rfl) (by rfl) (by rfl))) (@js0 _)))))) (fun _=>rfl)) (@jfrz _ _ 2 _ (@js1 _ _ _ (@jret _ _ _ _ (@jV _ 2 _ _ rfl (by walk_at "v")))))))) Z40)
abbrev Z1B:Stmt:=top 21
theorem Z1d:FnScope ["part", "twice", "number", "corner", "ahead", "turn"] ["part"] (defScope Z1B):=by walk_at "s"
theorem Z5I{f:Addr}{fd:FuncData} (F:Fun K "share_of" "share_of" Z1B f fd) (m:mg "share_of" = some (.ref f)) (Z04:Cal P w K mg base 3 "ratio_times" ["one", "other"] Z01) (Z02:Cal P w K mg base 3 "ratio_less" ["one", "other"] Z00) (Z05:Cal P w K mg base 3 "ratio_sum" ["one", "other"] Z03) (z_enumerate:mg "enumerate" = none):Cal P w K mg base 4 "share_of" ["part"] Z08 :=
 .mk F m (F.binds fun _ _ _ _ _ _ us hl=>args1 hl fun _=>rfl) (fnT (W:=Z3A) F Z1d Z57 (fun cdv A outer s H E hr =>
  (@jsc _ _ _ _ _ (@jset _ _ _ _ (1) _ _ Z1d.nd rfl (Or.inl rfl) (@jtup _ _ _ _ _ (@ja _ _ _ _ _ (@ji _ _ _ _) (@ja _ _ _ _ _ (@ji _ _ _ _) (@ja0 _) (star1 rfl)) (star1 rfl))) (by rfl) (by walk_at "f")) (@jsc _ _ _ _ _ (@jfor _ _ _ _ _ _ _ _ PassesOwn.never rfl (@jiEnum _ _ _ _ _ _ _ _ rfl z_enumerate (@ja _ _ _ _ _ (@jV _ 0 _ _ rfl (by walk_at "v")) (@ja0 _) (star1 rfl)) (by rfl)) (@jgt _ _ _ _ _ _ rfl (@jgsc _ _ _ _ _ (@jg _ _ (2) _ Z1d.nd rfl (Or.inl rfl) (by walk_at "f")) (@jgsc _ _ _ _ _ (@jg _ _ (3) _ Z1d.nd rfl (Or.inl rfl) (by walk_at "f")) (@jgs0 _) (by rfl)) (by rfl)) (by rfl) (by rfl)) (@jsc _ _ _ _ _ (@jset _ _ _ _ (4) _ _ Z1d.nd rfl (Or.inl rfl) (@jix _ _ _ _ _ _ (@jV _ 0 _ _ rfl (by walk_at "v")) (@jop _ _ _ _ _ _ _ _ b_sub (@jV _ 2 _ _ rfl (by walk_at "v")) (@ji _ _ _ _)) (fun _ _=>rfl)) (by rfl) (by walk_at "f")) (@jsc _ _ _ _ _ (@jset _ _ _ _ (5) _ _ Z1d.nd rfl (Or.inl rfl) (@jcallC _ _ _ _ _ _ _ _ _ _ Z02 (hr.mono (by omega)) rfl (@ja _ _ _ _ _ (@jcallC _ _ _ _ _ _ _ _ _ _ Z04 (hr.mono (by omega)) rfl (@ja _ _ _ _ _ (@jix _ _ _ _ _ _ (@jV _ 4 _ _ rfl (by walk_at "v")) (@ji _ _ _ _) (fun _ _=>rfl)) (@ja _ _ _ _ _ (@jix _ _ _ _ _ _ (@jV _ 3 _ _ rfl (by walk_at "v")) (@ji _ _ _ _) (fun _ _=>rfl)) (@ja0 _) (star1 rfl)) (star1 rfl)) (by decide) (star1 rfl) (stars rfl)) (@ja _ _ _ _ _ (@jcallC _ _ _ _ _ _ _ _ _ _ Z04 (hr.mono (by omega)) rfl (@ja _ _ _ _ _ (@jix _ _ _ _ _ _ (@jV _ 3 _ _ rfl (by walk_at "v")) (@ji _ _ _ _) (fun _ _=>rfl)) (@ja _ _ _ _ _ (@jix _ _ _ _ _ _ (@jV _ 4 _ _ rfl (by walk_at "v")) (@ji _ _ _ _) (fun _ _=>rfl)) (@ja0 _) (star1 rfl)) (star1 rfl)) (by decide) (star1 rfl) (stars rfl)) (@ja0 _) (star1 rfl)) (star1 rfl)) (by decide) (star1 rfl) (stars rfl)) (by rfl) (by walk_at "f")) (@js1 _ _ _ (@jset _ _ _ _ (1) _ _ Z1d.nd rfl (Or.inl rfl) (@jcallC _ _ _ _ _ _ _ _ _ _ Z05 (hr.mono (by omega)) rfl (@ja _ _ _ _ _ (@jV _ 1 _ _ rfl (by walk_at "v")) (@ja _ _ _ _ _ (@jV _ 5 _ _ rfl (by walk_at "v")) (@ja0 _) (star1 rfl)) (star1 rfl)) (by decide) (star1 rfl) (stars rfl)) (by rfl) (by walk_at "f"))))) (fun _=>rfl)) (@js1 _ _ _ (@jret _ _ _ _ (@jcallC _ _ _ _ _ _ _ _ _ _ Z04 (hr.mono (by omega)) rfl (@ja _ _ _ _ _ (@jV _ 1 _ _ rfl (by walk_at "v")) (@ja _ _ _ _ _ (@jtup _ _ _ _ _ (@ja _ _ _ _ _ (@ji _ _ _ _) (@ja _ _ _ _ _ (@ji _ _ _ _) (@ja0 _) (star1 rfl)) (star1 rfl))) (@ja0 _) (star1 rfl)) (star1 rfl)) (by decide) (star1 rfl) (stars rfl))))))) Z5q)
abbrev Z19:Stmt:=top 18
theorem Z3G:FnScope ["one", "other", "third", "along", "beyond"] ["one", "other", "third"] (defScope Z19):=by walk_at "s"
theorem Z5X{f:Addr}{fd:FuncData} (F:Fun K "turn_of" "turn_of" Z19 f fd) (m:mg "turn_of" = some (.ref f)) (Z02:Cal P w K mg base 3 "ratio_less" ["one", "other"] Z00) (Z04:Cal P w K mg base 3 "ratio_times" ["one", "other"] Z01) (z_range:mg "range" = none):Cal P w K mg base 4 "turn_of" ["one", "other", "third"] Z0p :=
 .mk F m (F.binds fun _ _ _ _ _ _ us hl=>args3 hl fun _ _ _=>rfl) (fnT (W:=Z3P) F Z3G Z5o (fun cdv A outer s H E hr =>
  (@jsc _ _ _ _ _ (@jsetc _ _ _ _ _ _ _ (defScope Z19) (["axis"]) (["one" , "other" , "third" , "along" , "beyond"]) ([("other" , 1) , ("one" , 0)]) _ _ _ _ (3) _ _ _ Z3G.nd rfl (Or.inl rfl) rfl rfl rfl (@jiRange1 _ _ _ _ _ _ rfl z_range (@ja _ _ _ _ _ (@ji _ _ _ _) (@ja0 _) (star1 rfl)) (by rfl)) rfl rfl (by decide +kernel) (by decide +kernel) (by decide +kernel) (by decide +kernel) (fun cl C s3 H2 ex=>(@jg _ _ (0) _ (show List.Nodup (["axis" , "other" , "one"]:List Str) from by decide +kernel) rfl (Or.inl rfl) (by walk_at "f"))) (fun cl C s3 H2 ex=>(@jts0 _)) (fun cl C s3 H2 ex=>(@jcallC _ _ _ _ _ _ _ _ _ _ Z02 (hr.mono (by omega)) rfl (@ja _ _ _ _ _ (@jix _ _ _ _ _ _ (@jV _ 1 _ _ rfl (by walk_at "v")) (@jV _ 0 _ _ rfl (by walk_at "v")) (fun _ _=>rfl)) (@ja _ _ _ _ _ (@jix _ _ _ _ _ _ (@jV _ 2 _ _ rfl (by walk_at "v")) (@jV _ 0 _ _ rfl (by walk_at "v")) (fun _ _=>rfl)) (@ja0 _) (star1 rfl)) (star1 rfl)) (by decide) (star1 rfl) (stars rfl))) (fun _=>rfl) (by rfl) (by walk_at "f")) (@jsc _ _ _ _ _ (@jsetc _ _ _ _ _ _ _ (defScope Z19) (["axis"]) (["one" , "other" , "third" , "along" , "beyond"]) ([("third" , 2) , ("one" , 0)]) _ _ _ _ (4) _ _ _ Z3G.nd rfl (Or.inl rfl) rfl rfl rfl (@jiRange1 _ _ _ _ _ _ rfl z_range (@ja _ _ _ _ _ (@ji _ _ _ _) (@ja0 _) (star1 rfl)) (by rfl)) rfl rfl (by decide +kernel) (by decide +kernel) (by decide +kernel) (by decide +kernel) (fun cl C s3 H2 ex=>(@jg _ _ (0) _ (show List.Nodup (["axis" , "third" , "one"]:List Str) from by decide +kernel) rfl (Or.inl rfl) (by walk_at "f"))) (fun cl C s3 H2 ex=>(@jts0 _)) (fun cl C s3 H2 ex=>(@jcallC _ _ _ _ _ _ _ _ _ _ Z02 (hr.mono (by omega)) rfl (@ja _ _ _ _ _ (@jix _ _ _ _ _ _ (@jV _ 1 _ _ rfl (by walk_at "v")) (@jV _ 0 _ _ rfl (by walk_at "v")) (fun _ _=>rfl)) (@ja _ _ _ _ _ (@jix _ _ _ _ _ _ (@jV _ 2 _ _ rfl (by walk_at "v")) (@jV _ 0 _ _ rfl (by walk_at "v")) (fun _ _=>rfl)) (@ja0 _) (star1 rfl)) (star1 rfl)) (by decide) (star1 rfl) (stars rfl))) (fun _=>rfl) (by rfl) (by walk_at "f")) (@js1 _ _ _ (@jret _ _ _ _ (@jcallC _ _ _ _ _ _ _ _ _ _ Z02 (hr.mono (by omega)) rfl (@ja _ _ _ _ _ (@jcallC _ _ _ _ _ _ _ _ _ _ Z04 (hr.mono (by omega)) rfl (@ja _ _ _ _ _ (@jix _ _ _ _ _ _ (@jV _ 3 _ _ rfl (by walk_at "v")) (@ji _ _ _ _) (fun _ _=>rfl)) (@ja _ _ _ _ _ (@jix _ _ _ _ _ _ (@jV _ 4 _ _ rfl (by walk_at "v")) (@ji _ _ _ _) (fun _ _=>rfl)) (@ja0 _) (star1 rfl)) (star1 rfl)) (by decide) (star1 rfl) (stars rfl)) (@ja _ _ _ _ _ (@jcallC _ _ _ _ _ _ _ _ _ _ Z04 (hr.mono (by omega)) rfl (@ja _ _ _ _ _ (@jix _ _ _ _ _ _ (@jV _ 3 _ _ rfl (by walk_at "v")) (@ji _ _ _ _) (fun _ _=>rfl)) (@ja _ _ _ _ _ (@jix _ _ _ _ _ _ (@jV _ 4 _ _ rfl (by walk_at "v")) (@ji _ _ _ _) (fun _ _=>rfl)) (@ja0 _) (star1 rfl)) (star1 rfl)) (by decide) (star1 rfl) (stars rfl)) (@ja0 _) (star1 rfl)) (star1 rfl)) (by decide) (star1 rfl) (stars rfl))))))) Z5O)
abbrev Z1C:Stmt:=top 14
theorem Z5J:FnScope ["one", "other"] ["one", "other"] (defScope Z1C):=by walk_at "s"
theorem Z5K{f:Addr}{fd:FuncData} (F:Fun K "is_under" "is_under" Z1C f fd) (m:mg "is_under" = some (.ref f)):Cal P w K mg base 1 "is_under" ["one", "other"] Z0V :=
 .mk F m (F.binds fun _ _ _ _ _ _ us hl=>args2 hl fun _ _=>rfl) (fnT (W:=Z3w) F Z5J Z51 (fun cdv A outer s H E hr =>
  (@js1 _ _ _ (@jret _ _ _ _ (@jcmp _ _ _ _ _ _ _ _ c_lt (@jop _ _ _ _ _ _ _ _ b_mul (@jix _ _ _ _ _ _ (@jV _ 0 _ _ rfl (by walk_at "v")) (@ji _ _ _ _) (fun _ _=>rfl)) (@jix _ _ _ _ _ _ (@jV _ 1 _ _ rfl (by walk_at "v")) (@ji _ _ _ _) (fun _ _=>rfl))) (@jop _ _ _ _ _ _ _ _ b_mul (@jix _ _ _ _ _ _ (@jV _ 1 _ _ rfl (by walk_at "v")) (@ji _ _ _ _) (fun _ _=>rfl)) (@jix _ _ _ _ _ _ (@jV _ 0 _ _ rfl (by walk_at "v")) (@ji _ _ _ _) (fun _ _=>rfl))) (nomark _))))) Z5k)
abbrev Z0v:Stmt:=top 19
theorem Z3W:FnScope ["one", "other"] ["one", "other"] (defScope Z0v):=by walk_at "s"
theorem Z3X{f:Addr}{fd:FuncData} (F:Fun K "is_lower_place" "is_lower_place" Z0v f fd) (m:mg "is_lower_place" = some (.ref f)) (Z2M:Cal P w K mg base 1 "is_under" ["one", "other"] Z0V):Cal P w K mg base 2 "is_lower_place" ["one", "other"] Z0t :=
 .mk F m (F.binds fun _ _ _ _ _ _ us hl=>args2 hl fun _ _=>rfl) (fnT (W:=Z1X) F Z3W Z3M (fun cdv A outer s H E hr =>
  (@jsc _ _ _ _ _ (@jsif _ _ _ _ _ _ _ _ (@tcmp _ _ _ _ _ _ _ _ (c_ne hr) (@jix _ _ _ _ _ _ (@jV _ 0 _ _ rfl (by walk_at "v")) (@ji _ _ _ _) (fun _ _=>rfl)) (@jix _ _ _ _ _ _ (@jV _ 1 _ _ rfl (by walk_at "v")) (@ji _ _ _ _) (fun _ _=>rfl)) (nomark _)) (@js1 _ _ _ (@jret _ _ _ _ (@jcallC _ _ _ _ _ _ _ _ _ _ Z2M (hr.mono (by omega)) rfl (@ja _ _ _ _ _ (@jix _ _ _ _ _ _ (@jV _ 0 _ _ rfl (by walk_at "v")) (@ji _ _ _ _) (fun _ _=>rfl)) (@ja _ _ _ _ _ (@jix _ _ _ _ _ _ (@jV _ 1 _ _ rfl (by walk_at "v")) (@ji _ _ _ _) (fun _ _=>rfl)) (@ja0 _) (star1 rfl)) (star1 rfl)) (by decide) (star1 rfl) (stars rfl)))) (@js0 _)) (@js1 _ _ _ (@jret _ _ _ _ (@jcallC _ _ _ _ _ _ _ _ _ _ Z2M (hr.mono (by omega)) rfl (@ja _ _ _ _ _ (@jix _ _ _ _ _ _ (@jV _ 0 _ _ rfl (by walk_at "v")) (@ji _ _ _ _) (fun _ _=>rfl)) (@ja _ _ _ _ _ (@jix _ _ _ _ _ _ (@jV _ 1 _ _ rfl (by walk_at "v")) (@ji _ _ _ _) (fun _ _=>rfl)) (@ja0 _) (star1 rfl)) (star1 rfl)) (by decide) (star1 rfl) (stars rfl)))))) Z3R)
abbrev Z0K:Stmt:=top 24
theorem Z16:FnScope ["corners", "first", "number", "corner"] ["corners"] (defScope Z0K):=by walk_at "s"
theorem Z4j{f:Addr}{fd:FuncData} (F:Fun K "begun_lowest" "begun_lowest" Z0K f fd) (m:mg "begun_lowest" = some (.ref f)) (Z1Y:Cal P w K mg base 2 "is_lower_place" ["one", "other"] Z0t) (z_enumerate:mg "enumerate" = none):Cal P w K mg base 3 "begun_lowest" ["corners"] Z0H :=
 .mk F m (F.binds fun _ _ _ _ _ _ us hl=>args1 hl fun _=>rfl) (fnT (W:=Z2j) F Z16 Z41 (fun cdv A outer s H E hr =>
  (@jsc _ _ _ _ _ (@jset _ _ _ _ (1) _ _ Z16.nd rfl (Or.inl rfl) (@ji _ _ _ _) (by rfl) (by walk_at "f")) (@jsc _ _ _ _ _ (@jfor _ _ _ _ _ _ _ _ PassesOwn.never rfl (@jiEnum _ _ _ _ _ _ _ _ rfl z_enumerate (@ja _ _ _ _ _ (@jV _ 0 _ _ rfl (by walk_at "v")) (@ja0 _) (star1 rfl)) (by rfl)) (@jgt _ _ _ _ _ _ rfl (@jgsc _ _ _ _ _ (@jg _ _ (2) _ Z16.nd rfl (Or.inl rfl) (by walk_at "f")) (@jgsc _ _ _ _ _ (@jg _ _ (3) _ Z16.nd rfl (Or.inl rfl) (by walk_at "f")) (@jgs0 _) (by rfl)) (by rfl)) (by rfl) (by rfl)) (@js1 _ _ _ (@jsif _ _ _ _ _ _ _ _ (@tval _ _ _ (@jcallC _ _ _ _ _ _ _ _ _ _ Z1Y (hr.mono (by omega)) rfl (@ja _ _ _ _ _ (@jV _ 3 _ _ rfl (by walk_at "v")) (@ja _ _ _ _ _ (@jix _ _ _ _ _ _ (@jV _ 0 _ _ rfl (by walk_at "v")) (@jV _ 1 _ _ rfl (by walk_at "v")) (fun _ _=>rfl)) (@ja0 _) (star1 rfl)) (star1 rfl)) (by decide) (star1 rfl) (stars rfl)) (fun _=>rfl)) (@js1 _ _ _ (@jset _ _ _ _ (1) _ _ Z16.nd rfl (Or.inl rfl) (@jV _ 2 _ _ rfl (by walk_at "v")) (by rfl) (by walk_at "f"))) (@js0 _))) (fun _=>rfl)) (@js1 _ _ _ (@jret _ _ _ _ (@jop _ _ _ _ _ _ _ _ b_cat (@jsl _ _ _ _ _ _ _ _ _ (@jV _ 0 _ _ rfl (by walk_at "v")) (@jo _ _ _ (@jV _ 1 _ _ rfl (by walk_at "v"))) (@jo0 _)) (@jsl _ _ _ _ _ _ _ _ _ (@jV _ 0 _ _ rfl (by walk_at "v")) (@jo0 _) (@jo _ _ _ (@jV _ 1 _ _ rfl (by walk_at "v")))))))))) Z4b)
abbrev Z0R:Stmt:=top 25
theorem Z17:FnScope ["corners", "unlike", "left", "number", "corner", "behind"] ["corners"] (defScope Z0R):=by walk_at "s"
theorem Z4T{f:Addr}{fd:FuncData} (F:Fun K "part_round" "part_round" Z0R f fd) (m:mg "part_round" = some (.ref f)) (Z2d:Cal P w K mg base 4 "turn_of" ["one", "other", "third"] Z0p) (Z2m:Cal P w K mg base 3 "begun_lowest" ["corners"] Z0H) (z_enumerate:mg "enumerate" = none) (z_len:mg "len" = none):Cal P w K mg base 5 "part_round" ["corners"] Z0N :=
 .mk F m (F.binds fun _ _ _ _ _ _ us hl=>args1 hl fun _=>rfl) (fnT (W:=Z2T) F Z17 Z4q (fun cdv A outer s H E hr =>
  (@jsc _ _ _ _ _ (@jsetc _ _ _ _ _ _ _ (defScope Z0R) (["number" , "corner"]) (["corners" , "unlike" , "left" , "number" , "corner" , "behind"]) ([("corners" , 0)]) _ _ _ _ (1) _ _ _ Z17.nd rfl (Or.inl rfl) rfl rfl rfl (@jiEnum _ _ _ _ _ _ _ _ rfl z_enumerate (@ja _ _ _ _ _ (@jV _ 0 _ _ rfl (by walk_at "v")) (@ja0 _) (star1 rfl)) (by rfl)) rfl rfl (by decide +kernel) (by decide +kernel) (by decide +kernel) (by decide +kernel) (fun cl C s3 H2 ex=>(@jgt _ _ _ _ _ _ rfl (@jgsc _ _ _ _ _ (@jg _ _ (0) _ (show List.Nodup (["number" , "corner" , "corners"]:List Str) from by decide +kernel) rfl (Or.inl rfl) (by walk_at "f")) (@jgsc _ _ _ _ _ (@jg _ _ (1) _ (show List.Nodup (["number" , "corner" , "corners"]:List Str) from by decide +kernel) rfl (Or.inl rfl) (by walk_at "f")) (@jgs0 _) (by rfl)) (by rfl)) (by rfl) (by rfl))) (fun cl C s3 H2 ex=>(@jts1 _ _ _ (@tcmp _ _ _ _ _ _ _ _ (c_ne hr) (@jV _ 1 _ _ rfl (by walk_at "v")) (@jix _ _ _ _ _ _ (@jV _ 2 _ _ rfl (by walk_at "v")) (@jop _ _ _ _ _ _ _ _ b_sub (@jV _ 0 _ _ rfl (by walk_at "v")) (@ji _ _ _ _)) (fun _ _=>rfl)) (nomark _)))) (fun cl C s3 H2 ex=>(@jV _ 1 _ _ rfl (by walk_at "v"))) (fun _=>rfl) (by rfl) (by walk_at "f")) (@jsc _ _ _ _ _ (@jown _ _ _ _ (2) _ _ _ Z17.nd rfl (Or.inl rfl) (@ja0 _) (by rfl) (by walk_at "f")) (@jsc _ _ _ _ _ (@jfor _ _ _ _ _ _ _ _ PassesOwn.never rfl (@jiEnum _ _ _ _ _ _ _ _ rfl z_enumerate (@ja _ _ _ _ _ (@jV _ 1 _ _ rfl (by walk_at "v")) (@ja0 _) (star1 rfl)) (by rfl)) (@jgt _ _ _ _ _ _ rfl (@jgsc _ _ _ _ _ (@jg _ _ (3) _ Z17.nd rfl (Or.inl rfl) (by walk_at "f")) (@jgsc _ _ _ _ _ (@jg _ _ (4) _ Z17.nd rfl (Or.inl rfl) (by walk_at "f")) (@jgs0 _) (by rfl)) (by rfl)) (by rfl) (by rfl)) (@jsc _ _ _ _ _ (@jset _ _ _ _ (5) _ _ Z17.nd rfl (Or.inl rfl) (@jix _ _ _ _ _ _ (@jV _ 1 _ _ rfl (by walk_at "v")) (@jop _ _ _ _ _ _ _ _ b_mod (@jop _ _ _ _ _ _ _ _ b_add (@jV _ 3 _ _ rfl (by walk_at "v")) (@ji _ _ _ _)) (@jblt _ _ _ _ _ _ _ _ _ bl_len rfl z_len boot_len (@ja _ _ _ _ _ (@jV _ 1 _ _ rfl (by walk_at "v")) (@ja0 _) (star1 rfl)) (by decide) (by decide) (star1 rfl) (stars rfl))) (fun _ _=>rfl)) (by rfl) (by walk_at "f")) (@js1 _ _ _ (@jsif _ _ _ _ _ _ _ _ (@tcmp _ _ _ _ _ _ _ _ c_gt (@jix _ _ _ _ _ _ (@jcallC _ _ _ _ _ _ _ _ _ _ Z2d (hr.mono (by omega)) rfl (@ja _ _ _ _ _ (@jix _ _ _ _ _ _ (@jV _ 1 _ _ rfl (by walk_at "v")) (@jop _ _ _ _ _ _ _ _ b_sub (@jV _ 3 _ _ rfl (by walk_at "v")) (@ji _ _ _ _)) (fun _ _=>rfl)) (@ja _ _ _ _ _ (@jV _ 4 _ _ rfl (by walk_at "v")) (@ja _ _ _ _ _ (@jV _ 5 _ _ rfl (by walk_at "v")) (@ja0 _) (star1 rfl)) (star1 rfl)) (star1 rfl)) (by decide) (star1 rfl) (stars rfl)) (@ji _ _ _ _) (fun _ _=>rfl)) (@ji _ _ _ _) (nomark _)) (@js1 _ _ _ (@japp _ _ _ _ _ _ _ _ _ (pv 2) (@jV _ 4 _ _ rfl (by walk_at "v")) (by rfl) (by rfl) (by rfl) (by rfl) (by rfl) (by rfl))) (@js0 _)))) (fun _=>rfl)) (@jfrz _ _ 2 _ (@js1 _ _ _ (@jret _ _ _ _ (@jcallC _ _ _ _ _ _ _ _ _ _ Z2m (hr.mono (by omega)) rfl (@ja _ _ _ _ _ (@jV _ 2 _ _ rfl (by walk_at "v")) (@ja0 _) (star1 rfl)) (by decide) (star1 rfl) (stars rfl))))))))) Z4E)
abbrev Z1r:Stmt:=top 26
theorem Z1W:FnScope ["one", "other", "corners", "number", "corner", "edge"] ["one", "other"] (defScope Z1r):=by walk_at "s"
theorem Z5Y{f:Addr}{fd:FuncData} (F:Fun K "both_of" "both_of" Z1r f fd) (m:mg "both_of" = some (.ref f)) (Z2d:Cal P w K mg base 4 "turn_of" ["one", "other", "third"] Z0p) (Z0L:Cal P w K mg base 5 "cut_at_nought" ["corners", "heights"] Z07) (Z2X:Cal P w K mg base 5 "part_round" ["corners"] Z0N) (z_enumerate:mg "enumerate" = none):Cal P w K mg base 6 "both_of" ["one", "other"] Z0c :=
 .mk F m (F.binds fun _ _ _ _ _ _ us hl=>args2 hl fun _ _=>rfl) (fnT (W:=Z3T) F Z1W Z5p (fun cdv A outer s H E hr =>
  (@jsc _ _ _ _ _ (@jsif _ _ _ _ _ _ _ _ (@tnot _ _ _ _ (@ttru _ _ _ (@jV _ 1 _ _ rfl (by walk_at "v")) (fun _=>rfl))) (@js1 _ _ _ (@jret _ _ _ _ (@jlst _ _ _ _ (@ja0 _)))) (@js0 _)) (@jsc _ _ _ _ _ (@jset _ _ _ _ (2) _ _ Z1W.nd rfl (Or.inl rfl) (@jV _ 0 _ _ rfl (by walk_at "v")) (by rfl) (by walk_at "f")) (@jsc _ _ _ _ _ (@jfor _ _ _ _ _ _ _ _ PassesOwn.never rfl (@jiEnum _ _ _ _ _ _ _ _ rfl z_enumerate (@ja _ _ _ _ _ (@jV _ 1 _ _ rfl (by walk_at "v")) (@ja0 _) (star1 rfl)) (by rfl)) (@jgt _ _ _ _ _ _ rfl (@jgsc _ _ _ _ _ (@jg _ _ (3) _ Z1W.nd rfl (Or.inl rfl) (by walk_at "f")) (@jgsc _ _ _ _ _ (@jg _ _ (4) _ Z1W.nd rfl (Or.inr rfl) (by walk_at "f")) (@jgs0 _) (by rfl)) (by rfl)) (by rfl) (by rfl)) (@jsc _ _ _ _ _ (@jset _ _ _ _ (5) _ _ Z1W.nd rfl (Or.inr rfl) (@jix _ _ _ _ _ _ (@jV _ 1 _ _ rfl (by walk_at "v")) (@jop _ _ _ _ _ _ _ _ b_sub (@jV _ 3 _ _ rfl (by walk_at "v")) (@ji _ _ _ _)) (fun _ _=>rfl)) (by rfl) (by walk_at "f")) (@js1 _ _ _ (@jset _ _ _ _ (2) _ _ Z1W.nd rfl (Or.inl rfl) (@jcallC _ _ _ _ _ _ _ _ _ _ Z0L (hr.mono (by omega)) rfl (@ja _ _ _ _ _ (@jV _ 2 _ _ rfl (by walk_at "v")) (@ja _ _ _ _ _ (@jcomp _ _ _ _ _ _ _ (defScope Z1r) (["place"]) (["one" , "other" , "corners" , "number" , "corner" , "edge"]) ([("edge" , 5) , ("corner" , 4)]) _ _ _ _ rfl rfl rfl (@jiSeq _ _ _ _ (@jV _ 2 _ _ rfl (by walk_at "v"))) rfl rfl (by decide +kernel) (by decide +kernel) (by decide +kernel) (by decide +kernel) (fun cl C s3 H2 ex=>(@jg _ _ (0) _ (show List.Nodup (["place" , "edge" , "corner"]:List Str) from by decide +kernel) rfl (Or.inl rfl) (by walk_at "f"))) (fun cl C s3 H2 ex=>(@jts0 _)) (fun cl C s3 H2 ex=>(@jcallC _ _ _ _ _ _ _ _ _ _ Z2d (hr.mono (by omega)) rfl (@ja _ _ _ _ _ (@jV _ 1 _ _ rfl (by walk_at "v")) (@ja _ _ _ _ _ (@jV _ 2 _ _ rfl (by walk_at "v")) (@ja _ _ _ _ _ (@jV _ 0 _ _ rfl (by walk_at "v")) (@ja0 _) (star1 rfl)) (star1 rfl)) (star1 rfl)) (by decide) (star1 rfl) (stars rfl))) (fun _=>rfl)) (@ja0 _) (star1 rfl)) (star1 rfl)) (by decide) (star1 rfl) (stars rfl)) (by rfl) (by walk_at "f")))) (fun _=>rfl)) (@js1 _ _ _ (@jret _ _ _ _ (@jcallC _ _ _ _ _ _ _ _ _ _ Z2X (hr.mono (by omega)) rfl (@ja _ _ _ _ _ (@jV _ 2 _ _ rfl (by walk_at "v")) (@ja0 _) (star1 rfl)) (by decide) (star1 rfl) (stars rfl)))))))) Z5P)
abbrev Z0j:Stmt:=top 45
theorem Z1J:FnScope ["plate", "other", "direction", "points", "heights", "thrown"] ["plate", "other", "direction"] (defScope Z0j):=by walk_at "s"
theorem Z5e{f:Addr}{fd:FuncData} (F:Fun K "shaded_by" "shaded_by" Z0j f fd) (m:mg "shaded_by" = some (.ref f)) (Z3H:Cal P w K mg base 5 "point_of" ["plate", "place"] Z1a) (Z1j:Cal P w K mg base 4 "point_less" ["point", "triple"] Z0M) (Z0X:Cal P w K mg base 2 "front_of" ["plate"] Z0E) (Z1c:Cal P w K mg base 4 "point_dot" ["point", "triple"] Z0G) (Z2Y:Cal P w K mg base 5 "meeting_of" ["plate", "point", "direction"] Z12) (Z0L:Cal P w K mg base 5 "cut_at_nought" ["corners", "heights"] Z07) (Z0r:Cal P w K mg base 4 "share_of" ["part"] Z08) (Z0A:Cal P w K mg base 6 "both_of" ["one", "other"] Z0c) (z_all:mg "all" = none) (z_reversed:mg "reversed" = none) (z_list:mg "list" = none) (g_WHOLE:GlC K mg "WHOLE" c_WHOLE):Cal P w K mg base 7 "shaded_by" ["plate", "other", "direction"] Z0a :=
 .mk F m (F.binds fun _ _ _ _ _ _ us hl=>args3 hl fun _ _ _=>rfl) (fnT (W:=Z3b) F Z1J Z4F (fun cdv A outer s H E hr =>
  (@jsc _ _ _ _ _ (@jsetc _ _ _ _ _ _ _ (defScope Z0j) (["place"]) (["plate" , "other" , "direction" , "points" , "heights" , "thrown"]) ([("other" , 1)]) _ _ _ _ (3) _ _ _ Z1J.nd rfl (Or.inl rfl) rfl rfl rfl (@jiSeq _ _ _ _ (@jglobC _ _ _ _ g_WHOLE rfl (by decide))) rfl rfl (by decide +kernel) (by decide +kernel) (by decide +kernel) (by decide +kernel) (fun cl C s3 H2 ex=>(@jg _ _ (0) _ (show List.Nodup (["place" , "other"]:List Str) from by decide +kernel) rfl (Or.inl rfl) (by walk_at "f"))) (fun cl C s3 H2 ex=>(@jts0 _)) (fun cl C s3 H2 ex=>(@jcallC _ _ _ _ _ _ _ _ _ _ Z3H (hr.mono (by omega)) rfl (@ja _ _ _ _ _ (@jV _ 1 _ _ rfl (by walk_at "v")) (@ja _ _ _ _ _ (@jV _ 0 _ _ rfl (by walk_at "v")) (@ja0 _) (star1 rfl)) (star1 rfl)) (by decide) (star1 rfl) (stars rfl))) (fun _=>rfl) (by rfl) (by walk_at "f")) (@jsc _ _ _ _ _ (@jsetc _ _ _ _ _ _ _ (defScope Z0j) (["point"]) (["plate" , "other" , "direction" , "points" , "heights" , "thrown"]) ([("plate" , 0)]) _ _ _ _ (4) _ _ _ Z1J.nd rfl (Or.inl rfl) rfl rfl rfl (@jiSeq _ _ _ _ (@jV _ 3 _ _ rfl (by walk_at "v"))) rfl rfl (by decide +kernel) (by decide +kernel) (by decide +kernel) (by decide +kernel) (fun cl C s3 H2 ex=>(@jg _ _ (0) _ (show List.Nodup (["point" , "plate"]:List Str) from by decide +kernel) rfl (Or.inl rfl) (by walk_at "f"))) (fun cl C s3 H2 ex=>(@jts0 _)) (fun cl C s3 H2 ex=>(@jcallC _ _ _ _ _ _ _ _ _ _ Z1c (hr.mono (by omega)) rfl (@ja _ _ _ _ _ (@jcallC _ _ _ _ _ _ _ _ _ _ Z1j (hr.mono (by omega)) rfl (@ja _ _ _ _ _ (@jV _ 0 _ _ rfl (by walk_at "v")) (@ja _ _ _ _ _ (@jix _ _ _ _ _ _ (@jV _ 1 _ _ rfl (by walk_at "v")) (@ji _ _ _ _) (fun _ _=>rfl)) (@ja0 _) (star1 rfl)) (star1 rfl)) (by decide) (star1 rfl) (stars rfl)) (@ja _ _ _ _ _ (@jcallC _ _ _ _ _ _ _ _ _ _ Z0X (hr.mono (by omega)) rfl (@ja _ _ _ _ _ (@jV _ 1 _ _ rfl (by walk_at "v")) (@ja0 _) (star1 rfl)) (by decide) (star1 rfl) (stars rfl)) (@ja0 _) (star1 rfl)) (star1 rfl)) (by decide) (star1 rfl) (stars rfl))) (fun _=>rfl) (by rfl) (by walk_at "f")) (@jsc _ _ _ _ _ (@jsif _ _ _ _ _ _ _ _ (@tval _ _ _ (@jblt _ _ _ _ _ _ _ _ _ (bl_all rfl) rfl z_all boot_all (@ja _ _ _ _ _ (@jcomp _ _ _ _ _ _ _ (defScope Z0j) (["height"]) (["plate" , "other" , "direction" , "points" , "heights" , "thrown"]) ([]) _ _ _ _ rfl rfl rfl (@jiSeq _ _ _ _ (@jV _ 4 _ _ rfl (by walk_at "v"))) rfl rfl (by decide +kernel) (by decide +kernel) (by decide +kernel) (by decide +kernel) (fun cl C s3 H2 ex=>(@jg _ _ (0) _ (show List.Nodup (["height"]:List Str) from by decide +kernel) rfl (Or.inl rfl) (by walk_at "f"))) (fun cl C s3 H2 ex=>(@jts0 _)) (fun cl C s3 H2 ex=>(@jcmp _ _ _ _ _ _ _ _ c_le (@jix _ _ _ _ _ _ (@jV _ 0 _ _ rfl (by walk_at "v")) (@ji _ _ _ _) (fun _ _=>rfl)) (@ji _ _ _ _) (nomark _))) (fun _=>rfl)) (@ja0 _) (star1 rfl)) (by decide) (by decide) (star1 rfl) (stars rfl)) (fun _=>rfl)) (@js1 _ _ _ (@jret _ _ _ _ (@jlst _ _ _ _ (@ja0 _)))) (@js0 _)) (@jsc _ _ _ _ _ (@jset _ _ _ _ (5) _ _ Z1J.nd rfl (Or.inl rfl) (@jcallC _ _ _ _ _ _ _ _ _ _ Z0L (hr.mono (by omega)) rfl (@ja _ _ _ _ _ (@jcomp _ _ _ _ _ _ _ (defScope Z0j) (["point"]) (["plate" , "other" , "direction" , "points" , "heights" , "thrown"]) ([("plate" , 0) , ("direction" , 2)]) _ _ _ _ rfl rfl rfl (@jiSeq _ _ _ _ (@jV _ 3 _ _ rfl (by walk_at "v"))) rfl rfl (by decide +kernel) (by decide +kernel) (by decide +kernel) (by decide +kernel) (fun cl C s3 H2 ex=>(@jg _ _ (0) _ (show List.Nodup (["point" , "plate" , "direction"]:List Str) from by decide +kernel) rfl (Or.inl rfl) (by walk_at "f"))) (fun cl C s3 H2 ex=>(@jts0 _)) (fun cl C s3 H2 ex=>(@jcallC _ _ _ _ _ _ _ _ _ _ Z2Y (hr.mono (by omega)) rfl (@ja _ _ _ _ _ (@jV _ 1 _ _ rfl (by walk_at "v")) (@ja _ _ _ _ _ (@jV _ 0 _ _ rfl (by walk_at "v")) (@ja _ _ _ _ _ (@jV _ 2 _ _ rfl (by walk_at "v")) (@ja0 _) (star1 rfl)) (star1 rfl)) (star1 rfl)) (by decide) (star1 rfl) (stars rfl))) (fun _=>rfl)) (@ja _ _ _ _ _ (@jV _ 4 _ _ rfl (by walk_at "v")) (@ja0 _) (star1 rfl)) (star1 rfl)) (by decide) (star1 rfl) (stars rfl)) (by rfl) (by walk_at "f")) (@jsc _ _ _ _ _ (@jsif _ _ _ _ _ _ _ _ (@tcmp _ _ _ _ _ _ _ _ c_lt (@jix _ _ _ _ _ _ (@jcallC _ _ _ _ _ _ _ _ _ _ Z0r (hr.mono (by omega)) rfl (@ja _ _ _ _ _ (@jV _ 5 _ _ rfl (by walk_at "v")) (@ja0 _) (star1 rfl)) (by decide) (star1 rfl) (stars rfl)) (@ji _ _ _ _) (fun _ _=>rfl)) (@ji _ _ _ _) (nomark _)) (@js1 _ _ _ (@jset _ _ _ _ (5) _ _ Z1J.nd rfl (Or.inl rfl) (@jlrev _ _ _ _ _ _ _ rfl rfl z_reversed rfl z_list (@jV _ 5 _ _ rfl (by walk_at "v")) (star1 rfl) (stars rfl) (star1 rfl) (stars rfl)) (by rfl) (by walk_at "f"))) (@js0 _)) (@js1 _ _ _ (@jret _ _ _ _ (@jcallC _ _ _ _ _ _ _ _ _ _ Z0A (hr.mono (by omega)) rfl (@ja _ _ _ _ _ (@jV _ 5 _ _ rfl (by walk_at "v")) (@ja _ _ _ _ _ (@jty _ _ _ _ _ _ _ _ _ ty_list rfl z_list boot_list (@ja _ _ _ _ _ (@jglobC _ _ _ _ g_WHOLE rfl (by decide)) (@ja0 _) (star1 rfl)) (by decide) (by decide) (star1 rfl) (stars rfl)) (@ja0 _) (star1 rfl)) (star1 rfl)) (by decide) (star1 rfl) (stars rfl)))))))))) Z58)
abbrev Z0b:Stmt:=top 47
theorem Z2e:FnScope ["yard", "dial", "direction", "others", "parts"] ["yard", "dial", "direction"] (defScope Z0b):=by walk_at "s"
theorem Z4k{f:Addr}{fd:FuncData} (F:Fun K "parts_shaded" "parts_shaded" Z0b f fd) (m:mg "parts_shaded" = some (.ref f)) (Z1D:Cal P w K mg base 7 "shaded_by" ["plate", "other", "direction"] Z0a):Cal P w K mg base 8 "parts_shaded" ["yard", "dial", "direction"] Z0I :=
 .mk F m (F.binds fun _ _ _ _ _ _ us hl=>args3 hl fun _ _ _=>rfl) (fnT (W:=Z2l) F Z2e Z44 (fun cdv A outer s H E hr =>
  (@jsc _ _ _ _ _ (@jsetc _ _ _ _ _ _ _ (defScope Z0b) (["thing"]) (["yard" , "dial" , "direction" , "others" , "parts"]) ([("dial" , 1)]) _ _ _ _ (3) _ _ _ Z2e.nd rfl (Or.inl rfl) rfl rfl rfl (@jiSeq _ _ _ _ (@jop _ _ _ _ _ _ _ _ b_cat (@jix _ _ _ _ _ _ (@jV _ 0 _ _ rfl (by walk_at "v")) (@ji _ _ _ _) (fun _ _=>rfl)) (@jix _ _ _ _ _ _ (@jV _ 0 _ _ rfl (by walk_at "v")) (@ji _ _ _ _) (fun _ _=>rfl)))) rfl rfl (by decide +kernel) (by decide +kernel) (by decide +kernel) (by decide +kernel) (fun cl C s3 H2 ex=>(@jg _ _ (0) _ (show List.Nodup (["thing" , "dial"]:List Str) from by decide +kernel) rfl (Or.inl rfl) (by walk_at "f"))) (fun cl C s3 H2 ex=>(@jts1 _ _ _ (@tcmp _ _ _ _ _ _ _ _ (c_ne hr) (@jix _ _ _ _ _ _ (@jV _ 0 _ _ rfl (by walk_at "v")) (@ji _ _ _ _) (fun _ _=>rfl)) (@jix _ _ _ _ _ _ (@jV _ 1 _ _ rfl (by walk_at "v")) (@ji _ _ _ _) (fun _ _=>rfl)) (nomark _)))) (fun cl C s3 H2 ex=>(@jV _ 0 _ _ rfl (by walk_at "v"))) (fun _=>rfl) (by rfl) (by walk_at "f")) (@jsc _ _ _ _ _ (@jsetc _ _ _ _ _ _ _ (defScope Z0b) (["thing"]) (["yard" , "dial" , "direction" , "others" , "parts"]) ([("direction" , 2) , ("dial" , 1)]) _ _ _ _ (4) _ _ _ Z2e.nd rfl (Or.inl rfl) rfl rfl rfl (@jiSeq _ _ _ _ (@jV _ 3 _ _ rfl (by walk_at "v"))) rfl rfl (by decide +kernel) (by decide +kernel) (by decide +kernel) (by decide +kernel) (fun cl C s3 H2 ex=>(@jg _ _ (0) _ (show List.Nodup (["thing" , "direction" , "dial"]:List Str) from by decide +kernel) rfl (Or.inl rfl) (by walk_at "f"))) (fun cl C s3 H2 ex=>(@jts0 _)) (fun cl C s3 H2 ex=>(@jcallC _ _ _ _ _ _ _ _ _ _ Z1D (hr.mono (by omega)) rfl (@ja _ _ _ _ _ (@jix _ _ _ _ _ _ (@jV _ 2 _ _ rfl (by walk_at "v")) (@ji _ _ _ _) (fun _ _=>rfl)) (@ja _ _ _ _ _ (@jix _ _ _ _ _ _ (@jV _ 0 _ _ rfl (by walk_at "v")) (@ji _ _ _ _) (fun _ _=>rfl)) (@ja _ _ _ _ _ (@jV _ 1 _ _ rfl (by walk_at "v")) (@ja0 _) (star1 rfl)) (star1 rfl)) (star1 rfl)) (by decide) (star1 rfl) (stars rfl))) (fun _=>rfl) (by rfl) (by walk_at "f")) (@js1 _ _ _ (@jret _ _ _ _ (@jcomp _ _ _ _ _ _ _ (defScope Z0b) (["part"]) (["yard" , "dial" , "direction" , "others" , "parts"]) ([]) _ _ _ _ rfl rfl rfl (@jiSeq _ _ _ _ (@jV _ 4 _ _ rfl (by walk_at "v"))) rfl rfl (by decide +kernel) (by decide +kernel) (by decide +kernel) (by decide +kernel) (fun cl C s3 H2 ex=>(@jg _ _ (0) _ (show List.Nodup (["part"]:List Str) from by decide +kernel) rfl (Or.inl rfl) (by walk_at "f"))) (fun cl C s3 H2 ex=>(@jts1 _ _ _ (@ttru _ _ _ (@jV _ 0 _ _ rfl (by walk_at "v")) (fun _=>rfl)))) (fun cl C s3 H2 ex=>(@jV _ 0 _ _ rfl (by walk_at "v"))) (fun _=>rfl))))))) Z4d)
abbrev Z0s:Stmt:=top 46
theorem Z0B:FnScope ["parts", "joint", "number", "part", "again"] ["parts"] (defScope Z0s):=by walk_at "s"
theorem Z3p{f:Addr}{fd:FuncData} (F:Fun K "joint_share" "joint_share" Z0s f fd) (m:mg "joint_share" = some (.ref f)) (Z0A:Cal P w K mg base 6 "both_of" ["one", "other"] Z0c) (Z0r:Cal P w K mg base 4 "share_of" ["part"] Z08) (Z02:Cal P w K mg base 3 "ratio_less" ["one", "other"] Z00) (Z05:Cal P w K mg base 3 "ratio_sum" ["one", "other"] Z03) (z_enumerate:mg "enumerate" = none):∀n,Cal P w K mg base (n + 7) "joint_share" ["parts"] (Z0e n)
 | 0=>.mk F m (F.binds fun _ _ _ _ _ _ us hl=>args1 hl fun _=>rfl) (fnT0 (k:=6) F Z0B len0_P_joint_share no_P_joint_share)
 | n + 1=>by
  have Z1s:=Z3p F m Z0A Z0r Z02 Z05 z_enumerate n
  exact .mk F m (F.binds fun _ _ _ _ _ _ us hl=>args1 hl fun _=>rfl) (fnT (k:=n + 7) (W:=Z2B (Z0e n)) F Z0B (Z42 (n + 1)) (fun cdv A outer s H E hr =>
  (@jsc _ _ _ _ _ (@jset _ _ _ _ (1) _ _ Z0B.nd rfl (Or.inl rfl) (@jtup _ _ _ _ _ (@ja _ _ _ _ _ (@ji _ _ _ _) (@ja _ _ _ _ _ (@ji _ _ _ _) (@ja0 _) (star1 rfl)) (star1 rfl))) (by rfl) (by walk_at "f")) (@jsc _ _ _ _ _ (@jfor _ _ _ _ _ _ _ _ PassesOwn.never rfl (@jiEnum _ _ _ _ _ _ _ _ rfl z_enumerate (@ja _ _ _ _ _ (@jV _ 0 _ _ rfl (by walk_at "v")) (@ja0 _) (star1 rfl)) (by rfl)) (@jgt _ _ _ _ _ _ rfl (@jgsc _ _ _ _ _ (@jg _ _ (2) _ Z0B.nd rfl (Or.inl rfl) (by walk_at "f")) (@jgsc _ _ _ _ _ (@jg _ _ (3) _ Z0B.nd rfl (Or.inr rfl) (by walk_at "f")) (@jgs0 _) (by rfl)) (by rfl)) (by rfl) (by rfl)) (@jsc _ _ _ _ _ (@jsetc _ _ _ _ _ _ _ (defScope Z0s) (["ahead"]) (["parts" , "joint" , "number" , "part" , "again"]) ([("part" , 3)]) _ _ _ _ (4) _ _ _ Z0B.nd rfl (Or.inl rfl) rfl rfl rfl (@jiSeq _ _ _ _ (@jsl _ _ _ _ _ _ _ _ _ (@jV _ 0 _ _ rfl (by walk_at "v")) (@jo0 _) (@jo _ _ _ (@jV _ 2 _ _ rfl (by walk_at "v"))))) rfl rfl (by decide +kernel) (by decide +kernel) (by decide +kernel) (by decide +kernel) (fun cl C s3 H2 ex=>(@jg _ _ (0) _ (show List.Nodup (["ahead" , "part"]:List Str) from by decide +kernel) rfl (Or.inl rfl) (by walk_at "f"))) (fun cl C s3 H2 ex=>(@jts0 _)) (fun cl C s3 H2 ex=>(@jcallC _ _ _ _ _ _ _ _ _ _ Z0A (hr.mono (by omega)) rfl (@ja _ _ _ _ _ (@jV _ 1 _ _ rfl (by walk_at "v")) (@ja _ _ _ _ _ (@jV _ 0 _ _ rfl (by walk_at "v")) (@ja0 _) (star1 rfl)) (star1 rfl)) (by decide) (star1 rfl) (stars rfl))) (fun _=>rfl) (by rfl) (by walk_at "f")) (@js1 _ _ _ (@jset _ _ _ _ (1) _ _ Z0B.nd rfl (Or.inl rfl) (@jcallC _ _ _ _ _ _ _ _ _ _ Z05 (hr.mono (by omega)) rfl (@ja _ _ _ _ _ (@jV _ 1 _ _ rfl (by walk_at "v")) (@ja _ _ _ _ _ (@jcallC _ _ _ _ _ _ _ _ _ _ Z02 (hr.mono (by omega)) rfl (@ja _ _ _ _ _ (@jcallC _ _ _ _ _ _ _ _ _ _ Z0r (hr.mono (by omega)) rfl (@ja _ _ _ _ _ (@jV _ 3 _ _ rfl (by walk_at "v")) (@ja0 _) (star1 rfl)) (by decide) (star1 rfl) (stars rfl)) (@ja _ _ _ _ _ (@jcallC _ _ _ _ _ _ _ _ _ _ Z1s (hr.mono (by omega)) rfl (@ja _ _ _ _ _ (@jV _ 4 _ _ rfl (by walk_at "v")) (@ja0 _) (star1 rfl)) (by decide) (star1 rfl) (stars rfl)) (@ja0 _) (star1 rfl)) (star1 rfl)) (by decide) (star1 rfl) (stars rfl)) (@ja0 _) (star1 rfl)) (star1 rfl)) (by decide) (star1 rfl) (stars rfl)) (by rfl) (by walk_at "f")))) (fun _=>rfl)) (@js1 _ _ _ (@jret _ _ _ _ (@jV _ 1 _ _ rfl (by walk_at "v"))))))) (Z4r n))
theorem Z4u{f:Addr}{fd:FuncData} (F:Fun K "joint_share" "joint_share" Z0s f fd) (m:mg "joint_share" = some (.ref f)) (Z0A:Cal P w K mg base 6 "both_of" ["one", "other"] Z0c) (Z0r:Cal P w K mg base 4 "share_of" ["part"] Z08) (Z02:Cal P w K mg base 3 "ratio_less" ["one", "other"] Z00) (Z05:Cal P w K mg base 3 "ratio_sum" ["one", "other"] Z03) (z_enumerate:mg "enumerate" = none):Cal P w K mg base 15 "joint_share" ["parts"] Z1e:=Z3p F m Z0A Z0r Z02 Z05 z_enumerate 8
abbrev Z1k:Stmt:=top 48
theorem Z2g:FnScope ["yard", "hour", "name", "direction", "dial", "parts"] ["yard", "hour", "name"] (defScope Z1k):=by walk_at "s"
theorem Z5f{f:Addr}{fd:FuncData} (F:Fun K "lit_share" "lit_share" Z1k f fd) (m:mg "lit_share" = some (.ref f)) (Z0S:Cal P w K mg base 2 "direction_at" ["sun", "hour"] Z0h) (Z3Y:Cal P w K mg base 1 "dial_of" ["yard", "name"] Z1T) (Z4U:Cal P w K mg base 3 "is_up" ["sun", "hour"] Z2p) (Z1G:Cal P w K mg base 3 "comes_from_ahead" ["plate", "direction"] Z0g) (Z2n:Cal P w K mg base 8 "parts_shaded" ["yard", "dial", "direction"] Z0I) (Z1s:Cal P w K mg base 15 "joint_share" ["parts"] Z1e) (Z02:Cal P w K mg base 3 "ratio_less" ["one", "other"] Z00) (z_len:mg "len" = none) (g_MOST_SHADING:GlC K mg "MOST_SHADING" c_MOST_SHADING):Cal P w K mg base 16 "lit_share" ["yard", "hour", "name"] Z06 :=
 .mk F m (F.binds fun _ _ _ _ _ _ us hl=>args3 hl fun _ _ _=>rfl) (fnT (W:=Z3c) F Z2g Z4H (fun cdv A outer s H E hr =>
  (@jsc _ _ _ _ _ (@jset _ _ _ _ (3) _ _ Z2g.nd rfl (Or.inl rfl) (@jcallC _ _ _ _ _ _ _ _ _ _ Z0S (hr.mono (by omega)) rfl (@ja _ _ _ _ _ (@jix _ _ _ _ _ _ (@jV _ 0 _ _ rfl (by walk_at "v")) (@ji _ _ _ _) (fun _ _=>rfl)) (@ja _ _ _ _ _ (@jV _ 1 _ _ rfl (by walk_at "v")) (@ja0 _) (star1 rfl)) (star1 rfl)) (by decide) (star1 rfl) (stars rfl)) (by rfl) (by walk_at "f")) (@jsc _ _ _ _ _ (@jset _ _ _ _ (4) _ _ Z2g.nd rfl (Or.inl rfl) (@jcallC _ _ _ _ _ _ _ _ _ _ Z3Y (hr.mono (by omega)) rfl (@ja _ _ _ _ _ (@jV _ 0 _ _ rfl (by walk_at "v")) (@ja _ _ _ _ _ (@jV _ 2 _ _ rfl (by walk_at "v")) (@ja0 _) (star1 rfl)) (star1 rfl)) (by decide) (star1 rfl) (stars rfl)) (by rfl) (by walk_at "f")) (@jsc _ _ _ _ _ (@jsif _ _ _ _ _ _ _ _ (@jw _ _ _ (@tor _ _ _ _ _ _ _ (@tnot _ _ _ _ (@tval _ _ _ (@jcallC _ _ _ _ _ _ _ _ _ _ Z4U (hr.mono (by omega)) rfl (@ja _ _ _ _ _ (@jix _ _ _ _ _ _ (@jV _ 0 _ _ rfl (by walk_at "v")) (@ji _ _ _ _) (fun _ _=>rfl)) (@ja _ _ _ _ _ (@jV _ 1 _ _ rfl (by walk_at "v")) (@ja0 _) (star1 rfl)) (star1 rfl)) (by decide) (star1 rfl) (stars rfl)) (fun _=>rfl))) (@tor1 _ _ _ _ (@tnot _ _ _ _ (@tval _ _ _ (@jcallC _ _ _ _ _ _ _ _ _ _ Z1G (hr.mono (by omega)) rfl (@ja _ _ _ _ _ (@jix _ _ _ _ _ _ (@jV _ 4 _ _ rfl (by walk_at "v")) (@ji _ _ _ _) (fun _ _=>rfl)) (@ja _ _ _ _ _ (@jV _ 3 _ _ rfl (by walk_at "v")) (@ja0 _) (star1 rfl)) (star1 rfl)) (by decide) (star1 rfl) (stars rfl)) (fun _=>rfl)))))) (@js1 _ _ _ (@jret _ _ _ _ (@jtup _ _ _ _ _ (@ja _ _ _ _ _ (@ji _ _ _ _) (@ja _ _ _ _ _ (@ji _ _ _ _) (@ja0 _) (star1 rfl)) (star1 rfl))))) (@js0 _)) (@jsc _ _ _ _ _ (@jset _ _ _ _ (5) _ _ Z2g.nd rfl (Or.inl rfl) (@jcallC _ _ _ _ _ _ _ _ _ _ Z2n (hr.mono (by omega)) rfl (@ja _ _ _ _ _ (@jV _ 0 _ _ rfl (by walk_at "v")) (@ja _ _ _ _ _ (@jV _ 4 _ _ rfl (by walk_at "v")) (@ja _ _ _ _ _ (@jV _ 3 _ _ rfl (by walk_at "v")) (@ja0 _) (star1 rfl)) (star1 rfl)) (star1 rfl)) (by decide) (star1 rfl) (stars rfl)) (by rfl) (by walk_at "f")) (@jsc _ _ _ _ _ (@jsif _ _ _ _ _ _ _ _ (@tcmp _ _ _ _ _ _ _ _ c_gt (@jblt _ _ _ _ _ _ _ _ _ bl_len rfl z_len boot_len (@ja _ _ _ _ _ (@jV _ 5 _ _ rfl (by walk_at "v")) (@ja0 _) (star1 rfl)) (by decide) (by decide) (star1 rfl) (stars rfl)) (@jglobC _ _ _ _ g_MOST_SHADING rfl (by decide)) (nomark _)) (@js1 _ _ _ (@jnever _ _)) (@js0 _)) (@js1 _ _ _ (@jret _ _ _ _ (@jcallC _ _ _ _ _ _ _ _ _ _ Z02 (hr.mono (by omega)) rfl (@ja _ _ _ _ _ (@jtup _ _ _ _ _ (@ja _ _ _ _ _ (@ji _ _ _ _) (@ja _ _ _ _ _ (@ji _ _ _ _) (@ja0 _) (star1 rfl)) (star1 rfl))) (@ja _ _ _ _ _ (@jcallC _ _ _ _ _ _ _ _ _ _ Z1s (hr.mono (by omega)) rfl (@ja _ _ _ _ _ (@jV _ 5 _ _ rfl (by walk_at "v")) (@ja0 _) (star1 rfl)) (by decide) (star1 rfl) (stars rfl)) (@ja0 _) (star1 rfl)) (star1 rfl)) (by decide) (star1 rfl) (stars rfl)))))))))) Z59)
abbrev Z3J:Stmt:=top 52
theorem Z4w:FnScope ["_law_top", "_law_bottom", "_law_one", "_law_other"] ["_law_top", "_law_bottom"] (defScope Z3J):=by walk_at "s"
theorem Z76{f:Addr}{fd:FuncData} (F:Fun K "_law_low" "_law_low" Z3J f fd) (m:mg "_law_low" = some (.ref f)) (z_abs:mg "abs" = none):Cal P w K mg base 1 "_law_low" ["_law_top", "_law_bottom"] Z45 :=
 .mk F m (F.binds fun _ _ _ _ _ _ us hl=>args2 hl fun _ _=>rfl) (fnT (W:=Z61) F Z4w Z6F (fun cdv A outer s H E hr =>
  (@jsc _ _ _ _ _ (@jset _ _ _ _ (2) _ _ Z4w.nd rfl (Or.inl rfl) (@jblt _ _ _ _ _ _ _ _ _ bl_abs rfl z_abs boot_abs (@ja _ _ _ _ _ (@jV _ 0 _ _ rfl (by walk_at "v")) (@ja0 _) (star1 rfl)) (by decide) (by decide) (star1 rfl) (stars rfl)) (by rfl) (by walk_at "f")) (@jsc _ _ _ _ _ (@jset _ _ _ _ (3) _ _ Z4w.nd rfl (Or.inl rfl) (@jV _ 1 _ _ rfl (by walk_at "v")) (by rfl) (by walk_at "f")) (@jsc _ _ _ _ _ (@jwhile _ _ _ _ _ _ PassesOwn.never (@tcmp _ _ _ _ _ _ _ _ (c_ne hr) (@jV _ 3 _ _ rfl (by walk_at "v")) (@ji _ _ _ _) (nomark _)) (@js1 _ _ _ (@jpar _ _ _ _ _ (2) (3) _ _ _ _ _ _ _ _ rfl Z4w.nd rfl rfl (by decide) rfl rfl (@ja _ _ _ _ _ (@jV _ 3 _ _ rfl (by walk_at "v")) (@ja _ _ _ _ _ (@jop _ _ _ _ _ _ _ _ b_mod (@jV _ 2 _ _ rfl (by walk_at "v")) (@jV _ 3 _ _ rfl (by walk_at "v"))) (@ja0 _) (star1 rfl)) (star1 rfl)) rfl (by rfl)))) (@js1 _ _ _ (@jret _ _ _ _ (@jtup _ _ _ _ _ (@ja _ _ _ _ _ (@jop _ _ _ _ _ _ _ _ b_div (@jV _ 0 _ _ rfl (by walk_at "v")) (@jV _ 2 _ _ rfl (by walk_at "v"))) (@ja _ _ _ _ _ (@jop _ _ _ _ _ _ _ _ b_div (@jV _ 1 _ _ rfl (by walk_at "v")) (@jV _ 2 _ _ rfl (by walk_at "v"))) (@ja0 _) (star1 rfl)) (star1 rfl))))))))) Z6S)
abbrev Z3K:Stmt:=top 53
theorem Z77:FnScope ["_law_one", "_law_other"] ["_law_one", "_law_other"] (defScope Z3K):=by walk_at "s"
theorem Z78{f:Addr}{fd:FuncData} (F:Fun K "_law_add" "_law_add" Z3K f fd) (m:mg "_law_add" = some (.ref f)) (Z6k:Cal P w K mg base 1 "_law_low" ["_law_top", "_law_bottom"] Z45):Cal P w K mg base 2 "_law_add" ["_law_one", "_law_other"] Z3d :=
 .mk F m (F.binds fun _ _ _ _ _ _ us hl=>args2 hl fun _ _=>rfl) (fnT (W:=Z62) F Z77 Z6G (fun cdv A outer s H E hr =>
  (@js1 _ _ _ (@jret _ _ _ _ (@jcallC _ _ _ _ _ _ _ _ _ _ Z6k (hr.mono (by omega)) rfl (@ja _ _ _ _ _ (@jop _ _ _ _ _ _ _ _ b_add (@jop _ _ _ _ _ _ _ _ b_mul (@jix _ _ _ _ _ _ (@jV _ 0 _ _ rfl (by walk_at "v")) (@ji _ _ _ _) (fun _ _=>rfl)) (@jix _ _ _ _ _ _ (@jV _ 1 _ _ rfl (by walk_at "v")) (@ji _ _ _ _) (fun _ _=>rfl))) (@jop _ _ _ _ _ _ _ _ b_mul (@jix _ _ _ _ _ _ (@jV _ 1 _ _ rfl (by walk_at "v")) (@ji _ _ _ _) (fun _ _=>rfl)) (@jix _ _ _ _ _ _ (@jV _ 0 _ _ rfl (by walk_at "v")) (@ji _ _ _ _) (fun _ _=>rfl)))) (@ja _ _ _ _ _ (@jop _ _ _ _ _ _ _ _ b_mul (@jix _ _ _ _ _ _ (@jV _ 0 _ _ rfl (by walk_at "v")) (@ji _ _ _ _) (fun _ _=>rfl)) (@jix _ _ _ _ _ _ (@jV _ 1 _ _ rfl (by walk_at "v")) (@ji _ _ _ _) (fun _ _=>rfl))) (@ja0 _) (star1 rfl)) (star1 rfl)) (by decide) (star1 rfl) (stars rfl))))) Z6T)
abbrev Z37:Stmt:=top 67
theorem Z0Y:FnScope ["_law_parts", "_law_found", "_law_some", "_law_part", "_law_more", "_law_many", "_law_share", "_law_inner", "_law_both"] ["_law_parts"] (defScope Z37):=by walk_at "s"
theorem Z6Q{f:Addr}{fd:FuncData} (F:Fun K "_law_left" "_law_left" Z37 f fd) (m:mg "_law_left" = some (.ref f)) (Z0A:Cal P w K mg base 6 "both_of" ["one", "other"] Z0c) (Z0r:Cal P w K mg base 4 "share_of" ["part"] Z08) (Z6l:Cal P w K mg base 2 "_law_add" ["_law_one", "_law_other"] Z3d):Cal P w K mg base 7 "_law_left" ["_law_parts"] Z2Z :=
 .mk F m (F.binds fun _ _ _ _ _ _ us hl=>args1 hl fun _=>rfl) (fnT (W:=Z5u) F Z0Y Z6u (fun cdv A outer s H E hr =>
  (@jsc _ _ _ _ _ (@jset _ _ _ _ (1) _ _ Z0Y.nd rfl (Or.inl rfl) (@jtup _ _ _ _ _ (@ja _ _ _ _ _ (@ji _ _ _ _) (@ja _ _ _ _ _ (@ji _ _ _ _) (@ja0 _) (star1 rfl)) (star1 rfl))) (by rfl) (by walk_at "f")) (@jsc _ _ _ _ _ (@jset _ _ _ _ (2) _ _ Z0Y.nd rfl (Or.inl rfl) (@jlst _ _ _ _ (@ja _ _ _ _ _ (@jtup _ _ _ _ _ (@ja _ _ _ _ _ (@ji _ _ _ _) (@ja _ _ _ _ _ (@jlst _ _ _ _ (@ja0 _)) (@ja0 _) (star1 rfl)) (star1 rfl))) (@ja0 _) (star1 rfl))) (by rfl) (by walk_at "f")) (@jsc _ _ _ _ _ (@jfor _ _ _ _ _ _ _ _ PassesOwn.never rfl (@jiSeq _ _ _ _ (@jV _ 0 _ _ rfl (by walk_at "v"))) (@jg _ _ (3) _ Z0Y.nd rfl (Or.inl rfl) (by walk_at "f")) (@jsc _ _ _ _ _ (@jown _ _ _ _ (4) _ _ _ Z0Y.nd rfl (Or.inl rfl) (@ja0 _) (by rfl) (by walk_at "f")) (@jsc _ _ _ _ _ (@jfor _ _ _ _ _ _ _ _ PassesOwn.never rfl (@jiSeq _ _ _ _ (@jV _ 2 _ _ rfl (by walk_at "v"))) (@jgt _ _ _ _ _ _ rfl (@jgsc _ _ _ _ _ (@jg _ _ (5) _ Z0Y.nd rfl (Or.inl rfl) (by walk_at "f")) (@jgsc _ _ _ _ _ (@jg _ _ (7) _ Z0Y.nd rfl (Or.inl rfl) (by walk_at "f")) (@jgs0 _) (by rfl)) (by rfl)) (by rfl) (by rfl)) (@jsc _ _ _ _ _ (@jset _ _ _ _ (8) _ _ Z0Y.nd rfl (Or.inl rfl) (@jV _ 3 _ _ rfl (by walk_at "v")) (by rfl) (by walk_at "f")) (@jsc _ _ _ _ _ (@jsif _ _ _ _ _ _ _ _ (@tcmp _ _ _ _ _ _ _ _ c_gt (@jV _ 5 _ _ rfl (by walk_at "v")) (@ji _ _ _ _) (nomark _)) (@js1 _ _ _ (@jset _ _ _ _ (8) _ _ Z0Y.nd rfl (Or.inl rfl) (@jcallC _ _ _ _ _ _ _ _ _ _ Z0A (hr.mono (by omega)) rfl (@ja _ _ _ _ _ (@jV _ 7 _ _ rfl (by walk_at "v")) (@ja _ _ _ _ _ (@jV _ 3 _ _ rfl (by walk_at "v")) (@ja0 _) (star1 rfl)) (star1 rfl)) (by decide) (star1 rfl) (stars rfl)) (by rfl) (by walk_at "f"))) (@js0 _)) (@js1 _ _ _ (@japp _ _ _ _ _ _ _ _ _ (pv 4) (@jtup _ _ _ _ _ (@ja _ _ _ _ _ (@jop _ _ _ _ _ _ _ _ b_add (@jV _ 5 _ _ rfl (by walk_at "v")) (@ji _ _ _ _)) (@ja _ _ _ _ _ (@jV _ 8 _ _ rfl (by walk_at "v")) (@ja0 _) (star1 rfl)) (star1 rfl))) (by rfl) (by rfl) (by rfl) (by rfl) (by rfl) (by rfl))))) (fun _=>rfl)) (@jfrz _ _ 4 _ (@js1 _ _ _ (@jset _ _ _ _ (2) _ _ Z0Y.nd rfl (Or.inl rfl) (@jop _ _ _ _ _ _ _ _ b_cat (@jV _ 2 _ _ rfl (by walk_at "v")) (@jV _ 4 _ _ rfl (by walk_at "v"))) (by rfl) (by walk_at "f")))))) (fun _=>rfl)) (@jsc _ _ _ _ _ (@jfor _ _ _ _ _ _ _ _ PassesOwn.never rfl (@jiSeq _ _ _ _ (@jsl _ _ _ _ _ _ _ _ _ (@jV _ 2 _ _ rfl (by walk_at "v")) (@jo _ _ _ (@ji _ _ _ _)) (@jo0 _))) (@jgt _ _ _ _ _ _ rfl (@jgsc _ _ _ _ _ (@jg _ _ (5) _ Z0Y.nd rfl (Or.inl rfl) (by walk_at "f")) (@jgsc _ _ _ _ _ (@jg _ _ (3) _ Z0Y.nd rfl (Or.inl rfl) (by walk_at "f")) (@jgs0 _) (by rfl)) (by rfl)) (by rfl) (by rfl)) (@jsc _ _ _ _ _ (@jset _ _ _ _ (6) _ _ Z0Y.nd rfl (Or.inl rfl) (@jcallC _ _ _ _ _ _ _ _ _ _ Z0r (hr.mono (by omega)) rfl (@ja _ _ _ _ _ (@jV _ 3 _ _ rfl (by walk_at "v")) (@ja0 _) (star1 rfl)) (by decide) (star1 rfl) (stars rfl)) (by rfl) (by walk_at "f")) (@js1 _ _ _ (@jset _ _ _ _ (1) _ _ Z0Y.nd rfl (Or.inl rfl) (@jcallC _ _ _ _ _ _ _ _ _ _ Z6l (hr.mono (by omega)) rfl (@ja _ _ _ _ _ (@jV _ 1 _ _ rfl (by walk_at "v")) (@ja _ _ _ _ _ (@jtup _ _ _ _ _ (@ja _ _ _ _ _ (@jix _ _ _ _ _ _ (@jlst _ _ _ _ (@ja _ _ _ _ _ (@jop _ _ _ _ _ _ _ _ b_sub (@ji _ _ _ _) (@jix _ _ _ _ _ _ (@jV _ 6 _ _ rfl (by walk_at "v")) (@ji _ _ _ _) (fun _ _=>rfl))) (@ja _ _ _ _ _ (@jix _ _ _ _ _ _ (@jV _ 6 _ _ rfl (by walk_at "v")) (@ji _ _ _ _) (fun _ _=>rfl)) (@ja0 _) (star1 rfl)) (star1 rfl))) (@jop _ _ _ _ _ _ _ _ b_mod (@jop _ _ _ _ _ _ _ _ b_add (@jV _ 5 _ _ rfl (by walk_at "v")) (@ji _ _ _ _)) (@ji _ _ _ _)) (fun _ _=>rfl)) (@ja _ _ _ _ _ (@jix _ _ _ _ _ _ (@jV _ 6 _ _ rfl (by walk_at "v")) (@ji _ _ _ _) (fun _ _=>rfl)) (@ja0 _) (star1 rfl)) (star1 rfl))) (@ja0 _) (star1 rfl)) (star1 rfl)) (by decide) (star1 rfl) (stars rfl)) (by rfl) (by walk_at "f")))) (fun _=>rfl)) (@js1 _ _ _ (@jret _ _ _ _ (@jV _ 1 _ _ rfl (by walk_at "v"))))))))) Z6M)
abbrev Z2z:Stmt:=top 56
theorem Z6C:FnScope ["_law_one", "_law_other"] ["_law_one", "_law_other"] (defScope Z2z):=by walk_at "s"
theorem Z6D{f:Addr}{fd:FuncData} (F:Fun K "_law_under" "_law_under" Z2z f fd) (m:mg "_law_under" = some (.ref f)):Cal P w K mg base 1 "_law_under" ["_law_one", "_law_other"] Z2q :=
 .mk F m (F.binds fun _ _ _ _ _ _ us hl=>args2 hl fun _ _=>rfl) (fnT (W:=Z4I) F Z6C Z63 (fun cdv A outer s H E hr =>
  (@js1 _ _ _ (@jret _ _ _ _ (@jcmp _ _ _ _ _ _ _ _ c_lt (@jop _ _ _ _ _ _ _ _ b_mul (@jix _ _ _ _ _ _ (@jV _ 0 _ _ rfl (by walk_at "v")) (@ji _ _ _ _) (fun _ _=>rfl)) (@jix _ _ _ _ _ _ (@jV _ 1 _ _ rfl (by walk_at "v")) (@ji _ _ _ _) (fun _ _=>rfl))) (@jop _ _ _ _ _ _ _ _ b_mul (@jix _ _ _ _ _ _ (@jV _ 1 _ _ rfl (by walk_at "v")) (@ji _ _ _ _) (fun _ _=>rfl)) (@jix _ _ _ _ _ _ (@jV _ 0 _ _ rfl (by walk_at "v")) (@ji _ _ _ _) (fun _ _=>rfl))) (nomark _))))) Z6o)
abbrev Z2G:Stmt:=top 69
theorem Z2h:FnScope ["_law_sun", "_law_plates", "_law_tips", "_law_at", "_law_face", "_law_found", "_law_parts", "_law_k", "_law_hour_here", "_law_direction", "_law_fewer"] ["_law_sun", "_law_plates", "_law_tips", "_law_at"] (defScope Z2G):=by walk_at "s"
theorem Z6R{f:Addr}{fd:FuncData} (F:Fun K "_law_hour" "_law_hour" Z2G f fd) (m:mg "_law_hour" = some (.ref f)) (Z2N:Cal P w K mg base 1 "_law_yard" ["_law_sun", "_law_plates", "_law_tips"] Z13) (Z0F:Cal P w K mg base 16 "lit_share" ["yard", "hour", "name"] Z06) (Z0D:Cal P w K mg base 1 "_law_cross" ["_law_one", "_law_other"] Z0d) (Z3C:Cal P w K mg base 1 "_law_dot" ["_law_one", "_law_other"] Z2f) (Z1D:Cal P w K mg base 7 "shaded_by" ["plate", "other", "direction"] Z0a) (Z5L:Cal P w K mg base 7 "_law_left" ["_law_parts"] Z2Z) (Z4V:Cal P w K mg base 1 "_law_under" ["_law_one", "_law_other"] Z2q) (z_len:mg "len" = none) (z_range:mg "range" = none):Cal P w K mg base 17 "_law_hour" ["_law_sun", "_law_plates", "_law_tips", "_law_at"] Z2E :=
 .mk F m (F.binds fun _ _ _ _ _ _ us hl=>args4 hl fun _ _ _ _=>rfl) (fnT (W:=Z5v) F Z2h Z6v (fun cdv A outer s H E hr =>
  (@jsc _ _ _ _ _ (@jasg _ _ _ _ _ _ (@jgt _ _ _ _ _ _ rfl (@jgsc _ _ _ _ _ (@jg _ _ (8) _ Z2h.nd rfl (Or.inl rfl) (by walk_at "f")) (@jgsc _ _ _ _ _ (@jg _ _ (9) _ Z2h.nd rfl (Or.inr rfl) (by walk_at "f")) (@jgs0 _) (by rfl)) (by rfl)) (by rfl) (by rfl)) (@jix _ _ _ _ _ _ (@jV _ 0 _ _ rfl (by walk_at "v")) (@jV _ 3 _ _ rfl (by walk_at "v")) (fun _ _=>rfl)) (by rfl) (by rfl) (by rfl)) (@jsc _ _ _ _ _ (@jset _ _ _ _ (4) _ _ Z2h.nd rfl (Or.inr rfl) (@jix _ _ _ _ _ _ (@jV _ 1 _ _ rfl (by walk_at "v")) (@ji _ _ _ _) (fun _ _=>rfl)) (by rfl) (by walk_at "f")) (@jsc _ _ _ _ _ (@jset _ _ _ _ (5) _ _ Z2h.nd rfl (Or.inl rfl) (@jcallC _ _ _ _ _ _ _ _ _ _ Z0F (hr.mono (by omega)) rfl (@ja _ _ _ _ _ (@jcallC _ _ _ _ _ _ _ _ _ _ Z2N (hr.mono (by omega)) rfl (@ja _ _ _ _ _ (@jV _ 0 _ _ rfl (by walk_at "v")) (@ja _ _ _ _ _ (@jV _ 1 _ _ rfl (by walk_at "v")) (@ja _ _ _ _ _ (@jV _ 2 _ _ rfl (by walk_at "v")) (@ja0 _) (star1 rfl)) (star1 rfl)) (star1 rfl)) (by decide) (star1 rfl) (stars rfl)) (@ja _ _ _ _ _ (@jV _ 8 _ _ rfl (by walk_at "v")) (@ja _ _ _ _ _ (@js _ _ _ _) (@ja0 _) (star1 rfl)) (star1 rfl)) (star1 rfl)) (by decide) (star1 rfl) (stars rfl)) (by rfl) (by walk_at "f")) (@jsc _ _ _ _ _ (@jsif _ _ _ _ _ _ _ _ (@jw _ _ _ (@tor _ _ _ _ _ _ _ (@tcmp _ _ _ _ _ _ _ _ c_le (@jix _ _ _ _ _ _ (@jV _ 9 _ _ rfl (by walk_at "v")) (@ji _ _ _ _) (fun _ _=>rfl)) (@ji _ _ _ _) (nomark _)) (@tor1 _ _ _ _ (@tcmp _ _ _ _ _ _ _ _ c_le (@jcallC _ _ _ _ _ _ _ _ _ _ Z3C (hr.mono (by omega)) rfl (@ja _ _ _ _ _ (@jcallC _ _ _ _ _ _ _ _ _ _ Z0D (hr.mono (by omega)) rfl (@ja _ _ _ _ _ (@jix _ _ _ _ _ _ (@jV _ 4 _ _ rfl (by walk_at "v")) (@ji _ _ _ _) (fun _ _=>rfl)) (@ja _ _ _ _ _ (@jix _ _ _ _ _ _ (@jV _ 4 _ _ rfl (by walk_at "v")) (@ji _ _ _ _) (fun _ _=>rfl)) (@ja0 _) (star1 rfl)) (star1 rfl)) (by decide) (star1 rfl) (stars rfl)) (@ja _ _ _ _ _ (@jV _ 9 _ _ rfl (by walk_at "v")) (@ja0 _) (star1 rfl)) (star1 rfl)) (by decide) (star1 rfl) (stars rfl)) (@ji _ _ _ _) (nomark _))))) (@js1 _ _ _ (@jret _ _ _ _ (@jcmp _ _ _ _ _ _ _ _ (c_eq hr) (@jV _ 5 _ _ rfl (by walk_at "v")) (@jtup _ _ _ _ _ (@ja _ _ _ _ _ (@ji _ _ _ _) (@ja _ _ _ _ _ (@ji _ _ _ _) (@ja0 _) (star1 rfl)) (star1 rfl))) (nomark _)))) (@js0 _)) (@jsc _ _ _ _ _ (@jsetc _ _ _ _ _ _ _ (defScope Z2G) (["_law_plate_here"]) (["_law_sun" , "_law_plates" , "_law_tips" , "_law_at" , "_law_face" , "_law_found" , "_law_parts" , "_law_k" , "_law_hour_here" , "_law_direction" , "_law_fewer"]) ([("_law_face" , 4) , ("_law_direction" , 9)]) _ _ _ _ (6) _ _ _ Z2h.nd rfl (Or.inl rfl) rfl rfl rfl (@jiSeq _ _ _ _ (@jsl _ _ _ _ _ _ _ _ _ (@jV _ 1 _ _ rfl (by walk_at "v")) (@jo _ _ _ (@ji _ _ _ _)) (@jo0 _))) rfl rfl (by decide +kernel) (by decide +kernel) (by decide +kernel) (by decide +kernel) (fun cl C s3 H2 ex=>(@jg _ _ (0) _ (show List.Nodup (["_law_plate_here" , "_law_face" , "_law_direction"]:List Str) from by decide +kernel) rfl (Or.inl rfl) (by walk_at "f"))) (fun cl C s3 H2 ex=>(@jts0 _)) (fun cl C s3 H2 ex=>(@jcallC _ _ _ _ _ _ _ _ _ _ Z1D (hr.mono (by omega)) rfl (@ja _ _ _ _ _ (@jV _ 1 _ _ rfl (by walk_at "v")) (@ja _ _ _ _ _ (@jV _ 0 _ _ rfl (by walk_at "v")) (@ja _ _ _ _ _ (@jV _ 2 _ _ rfl (by walk_at "v")) (@ja0 _) (star1 rfl)) (star1 rfl)) (star1 rfl)) (by decide) (star1 rfl) (stars rfl))) (fun _=>rfl) (by rfl) (by walk_at "f")) (@jsc _ _ _ _ _ (@jsif _ _ _ _ _ _ _ _ (@tcmp _ _ _ _ _ _ _ _ (c_ne hr) (@jV _ 5 _ _ rfl (by walk_at "v")) (@jcallC _ _ _ _ _ _ _ _ _ _ Z5L (hr.mono (by omega)) rfl (@ja _ _ _ _ _ (@jV _ 6 _ _ rfl (by walk_at "v")) (@ja0 _) (star1 rfl)) (by decide) (star1 rfl) (stars rfl)) (nomark _)) (@js1 _ _ _ (@jret _ _ _ _ (@jb _ _ _ _))) (@js0 _)) (@jsc _ _ _ _ _ (@jfor _ _ _ _ _ _ _ _ PassesOwn.never rfl (@jiRange2 _ _ _ _ _ _ _ rfl z_range (@ja _ _ _ _ _ (@ji _ _ _ _) (@ja _ _ _ _ _ (@jblt _ _ _ _ _ _ _ _ _ bl_len rfl z_len boot_len (@ja _ _ _ _ _ (@jV _ 1 _ _ rfl (by walk_at "v")) (@ja0 _) (star1 rfl)) (by decide) (by decide) (star1 rfl) (stars rfl)) (@ja0 _) (star1 rfl)) (star1 rfl)) (by rfl) (by rfl)) (@jg _ _ (7) _ Z2h.nd rfl (Or.inl rfl) (by walk_at "f")) (@jsc _ _ _ _ _ (@jset _ _ _ _ (10) _ _ Z2h.nd rfl (Or.inl rfl) (@jcallC _ _ _ _ _ _ _ _ _ _ Z2N (hr.mono (by omega)) rfl (@ja _ _ _ _ _ (@jV _ 0 _ _ rfl (by walk_at "v")) (@ja _ _ _ _ _ (@jop _ _ _ _ _ _ _ _ b_cat (@jsl _ _ _ _ _ _ _ _ _ (@jV _ 1 _ _ rfl (by walk_at "v")) (@jo0 _) (@jo _ _ _ (@jV _ 7 _ _ rfl (by walk_at "v")))) (@jsl _ _ _ _ _ _ _ _ _ (@jV _ 1 _ _ rfl (by walk_at "v")) (@jo _ _ _ (@jop _ _ _ _ _ _ _ _ b_add (@jV _ 7 _ _ rfl (by walk_at "v")) (@ji _ _ _ _))) (@jo0 _))) (@ja _ _ _ _ _ (@jop _ _ _ _ _ _ _ _ b_cat (@jsl _ _ _ _ _ _ _ _ _ (@jV _ 2 _ _ rfl (by walk_at "v")) (@jo0 _) (@jo _ _ _ (@jV _ 7 _ _ rfl (by walk_at "v")))) (@jsl _ _ _ _ _ _ _ _ _ (@jV _ 2 _ _ rfl (by walk_at "v")) (@jo _ _ _ (@jop _ _ _ _ _ _ _ _ b_add (@jV _ 7 _ _ rfl (by walk_at "v")) (@ji _ _ _ _))) (@jo0 _))) (@ja0 _) (star1 rfl)) (star1 rfl)) (star1 rfl)) (by decide) (star1 rfl) (stars rfl)) (by rfl) (by walk_at "f")) (@js1 _ _ _ (@jsif _ _ _ _ _ _ _ _ (@tval _ _ _ (@jcallC _ _ _ _ _ _ _ _ _ _ Z4V (hr.mono (by omega)) rfl (@ja _ _ _ _ _ (@jcallC _ _ _ _ _ _ _ _ _ _ Z0F (hr.mono (by omega)) rfl (@ja _ _ _ _ _ (@jV _ 10 _ _ rfl (by walk_at "v")) (@ja _ _ _ _ _ (@jV _ 8 _ _ rfl (by walk_at "v")) (@ja _ _ _ _ _ (@js _ _ _ _) (@ja0 _) (star1 rfl)) (star1 rfl)) (star1 rfl)) (by decide) (star1 rfl) (stars rfl)) (@ja _ _ _ _ _ (@jV _ 5 _ _ rfl (by walk_at "v")) (@ja0 _) (star1 rfl)) (star1 rfl)) (by decide) (star1 rfl) (stars rfl)) (fun _=>rfl)) (@js1 _ _ _ (@jret _ _ _ _ (@jb _ _ _ _))) (@js0 _)))) (fun _=>rfl)) (@js1 _ _ _ (@jret _ _ _ _ (@jcmp _ _ _ _ _ _ _ _ (c_eq hr) (@jcallC _ _ _ _ _ _ _ _ _ _ Z0F (hr.mono (by omega)) rfl (@ja _ _ _ _ _ (@jtup _ _ _ _ _ (@ja _ _ _ _ _ (@jV _ 0 _ _ rfl (by walk_at "v")) (@ja _ _ _ _ _ (@jlst _ _ _ _ (@ja0 _)) (@ja _ _ _ _ _ (@jlst _ _ _ _ (@ja _ _ _ _ _ (@jtup _ _ _ _ _ (@ja _ _ _ _ _ (@js _ _ _ _) (@ja _ _ _ _ _ (@jV _ 4 _ _ rfl (by walk_at "v")) (@ja _ _ _ _ _ (@jix _ _ _ _ _ _ (@jV _ 2 _ _ rfl (by walk_at "v")) (@ji _ _ _ _) (fun _ _=>rfl)) (@ja0 _) (star1 rfl)) (star1 rfl)) (star1 rfl))) (@ja0 _) (star1 rfl))) (@ja0 _) (star1 rfl)) (star1 rfl)) (star1 rfl))) (@ja _ _ _ _ _ (@jV _ 8 _ _ rfl (by walk_at "v")) (@ja _ _ _ _ _ (@js _ _ _ _) (@ja0 _) (star1 rfl)) (star1 rfl)) (star1 rfl)) (by decide) (star1 rfl) (stars rfl)) (@jtup _ _ _ _ _ (@ja _ _ _ _ _ (@ji _ _ _ _) (@ja _ _ _ _ _ (@ji _ _ _ _) (@ja0 _) (star1 rfl)) (star1 rfl))) (nomark _)))))))))))) Z6N)
abbrev Z2o:Stmt:=top 70
theorem Z1M:FnScope ["_law_script", "_law_cell", "_law_face", "_law_tip_here", "_law_direction", "_law_plates", "_law_tips", "_law_k", "_law_sun", "_law_first", "_law_one"] ["_law_script"] (defScope Z2o):=by walk_at "s"
theorem Z79{f:Addr}{fd:FuncData} (F:Fun K "law" "law" Z2o f fd) (Z3n:Cal P w K mg base 1 "_law_cell_at" ["_law_script", "_law_k"] Z18) (Z34:Cal P w K mg base 4 "_law_plate" ["_law_cell", "_law_k"] Z1t) (Z5M:Cal P w K mg base 3 "_law_tip" ["_law_plate_here", "_law_cell"] Z2L) (Z1v:Cal P w K mg base 3 "_law_triple" ["_law_cell", "_law_k"] Z0P) (Z0x:Cal P w K mg base 1 "_law_draw" ["_law_cell", "_law_k", "_law_many"] Z09) (Z0D:Cal P w K mg base 1 "_law_cross" ["_law_one", "_law_other"] Z0d) (Z2F:Cal P w K mg base 2 "_law_ahead" ["_law_front", "_law_found"] Z1g) (Z3k:Cal P w K mg base 1 "_law_far" ["_law_triples"] Z1L) (Z4W:Cal P w K mg base 5 "_law_about" ["_law_plate_here", "_law_direction", "_law_cell"] Z2r) (Z2N:Cal P w K mg base 1 "_law_yard" ["_law_sun", "_law_plates", "_law_tips"] Z13) (Z0F:Cal P w K mg base 16 "lit_share" ["yard", "hour", "name"] Z06) (Z4x:Cal P w K mg base 17 "_law_hour" ["_law_sun", "_law_plates", "_law_tips", "_law_at"] Z2E) (z_range:mg "range" = none):FnT P w K mg base 18 f fd ["_law_script"] lawSp :=
 fnT (W:=Z6e) F Z1M len_law (fun cdv A outer s H E hr =>
  (@jsc _ _ _ _ _ (@jset _ _ _ _ (1) _ _ Z1M.nd rfl (Or.inl rfl) (@jcallC _ _ _ _ _ _ _ _ _ _ Z3n (hr.mono (by omega)) rfl (@ja _ _ _ _ _ (@jV _ 0 _ _ rfl (by walk_at "v")) (@ja _ _ _ _ _ (@ji _ _ _ _) (@ja0 _) (star1 rfl)) (star1 rfl)) (by decide) (star1 rfl) (stars rfl)) (by rfl) (by walk_at "f")) (@jsc _ _ _ _ _ (@jset _ _ _ _ (2) _ _ Z1M.nd rfl (Or.inl rfl) (@jcallC _ _ _ _ _ _ _ _ _ _ Z34 (hr.mono (by omega)) rfl (@ja _ _ _ _ _ (@jV _ 1 _ _ rfl (by walk_at "v")) (@ja _ _ _ _ _ (@ji _ _ _ _) (@ja0 _) (star1 rfl)) (star1 rfl)) (by decide) (star1 rfl) (stars rfl)) (by rfl) (by walk_at "f")) (@jsc _ _ _ _ _ (@jset _ _ _ _ (3) _ _ Z1M.nd rfl (Or.inl rfl) (@jcallC _ _ _ _ _ _ _ _ _ _ Z5M (hr.mono (by omega)) rfl (@ja _ _ _ _ _ (@jV _ 2 _ _ rfl (by walk_at "v")) (@ja _ _ _ _ _ (@jV _ 1 _ _ rfl (by walk_at "v")) (@ja0 _) (star1 rfl)) (star1 rfl)) (by decide) (star1 rfl) (stars rfl)) (by rfl) (by walk_at "f")) (@jsc _ _ _ _ _ (@jset _ _ _ _ (4) _ _ Z1M.nd rfl (Or.inl rfl) (@jcallC _ _ _ _ _ _ _ _ _ _ Z1v (hr.mono (by omega)) rfl (@ja _ _ _ _ _ (@jV _ 1 _ _ rfl (by walk_at "v")) (@ja _ _ _ _ _ (@ji _ _ _ _) (@ja0 _) (star1 rfl)) (star1 rfl)) (by decide) (star1 rfl) (stars rfl)) (by rfl) (by walk_at "f")) (@jsc _ _ _ _ _ (@jsif _ _ _ _ _ _ _ _ (@tcmp _ _ _ _ _ _ _ _ c_gt (@jcallC _ _ _ _ _ _ _ _ _ _ Z0x (hr.mono (by omega)) rfl (@ja _ _ _ _ _ (@jV _ 1 _ _ rfl (by walk_at "v")) (@ja _ _ _ _ _ (@ji _ _ _ _) (@ja _ _ _ _ _ (@ji _ _ _ _) (@ja0 _) (star1 rfl)) (star1 rfl)) (star1 rfl)) (by decide) (star1 rfl) (stars rfl)) (@ji _ _ _ _) (nomark _)) (@js1 _ _ _ (@jset _ _ _ _ (4) _ _ Z1M.nd rfl (Or.inl rfl) (@jcallC _ _ _ _ _ _ _ _ _ _ Z2F (hr.mono (by omega)) rfl (@ja _ _ _ _ _ (@jcallC _ _ _ _ _ _ _ _ _ _ Z0D (hr.mono (by omega)) rfl (@ja _ _ _ _ _ (@jix _ _ _ _ _ _ (@jV _ 2 _ _ rfl (by walk_at "v")) (@ji _ _ _ _) (fun _ _=>rfl)) (@ja _ _ _ _ _ (@jix _ _ _ _ _ _ (@jV _ 2 _ _ rfl (by walk_at "v")) (@ji _ _ _ _) (fun _ _=>rfl)) (@ja0 _) (star1 rfl)) (star1 rfl)) (by decide) (star1 rfl) (stars rfl)) (@ja _ _ _ _ _ (@jV _ 4 _ _ rfl (by walk_at "v")) (@ja0 _) (star1 rfl)) (star1 rfl)) (by decide) (star1 rfl) (stars rfl)) (by rfl) (by walk_at "f"))) (@js0 _)) (@jsc _ _ _ _ _ (@jsif _ _ _ _ _ _ _ _ (@jw _ _ _ (@tor _ _ _ _ _ _ _ (@tcmp _ _ _ _ _ _ _ _ c_is (@jV _ 3 _ _ rfl (by walk_at "v")) (@jn _ _ _) (nomark _)) (@tor _ _ _ _ _ _ _ (@tcmp _ _ _ _ _ _ _ _ (c_eq hr) (@jV _ 4 _ _ rfl (by walk_at "v")) (@jtup _ _ _ _ _ (@ja _ _ _ _ _ (@ji _ _ _ _) (@ja _ _ _ _ _ (@ji _ _ _ _) (@ja _ _ _ _ _ (@ji _ _ _ _) (@ja0 _) (star1 rfl)) (star1 rfl)) (star1 rfl))) (nomark _)) (@tor1 _ _ _ _ (@tval _ _ _ (@jcallC _ _ _ _ _ _ _ _ _ _ Z3k (hr.mono (by omega)) rfl (@ja _ _ _ _ _ (@jlst _ _ _ _ (@ja _ _ _ _ _ (@jV _ 4 _ _ rfl (by walk_at "v")) (@ja0 _) (star1 rfl))) (@ja0 _) (star1 rfl)) (by decide) (star1 rfl) (stars rfl)) (fun _=>rfl)))))) (@js1 _ _ _ (@jret _ _ _ _ (@jb _ _ _ _))) (@js0 _)) (@jsc _ _ _ _ _ (@jown _ _ _ _ (5) _ _ _ Z1M.nd rfl (Or.inl rfl) (@ja _ _ _ _ _ (@jV _ 2 _ _ rfl (by walk_at "v")) (@ja0 _) (star1 rfl)) (by rfl) (by walk_at "f")) (@jsc _ _ _ _ _ (@jown _ _ _ _ (6) _ _ _ Z1M.nd rfl (Or.inl rfl) (@ja _ _ _ _ _ (@jV _ 3 _ _ rfl (by walk_at "v")) (@ja0 _) (star1 rfl)) (by rfl) (by walk_at "f")) (@jsc _ _ _ _ _ (@jfor _ _ _ _ _ _ _ _ PassesOwn.never rfl (@jiRange1 _ _ _ _ _ _ rfl z_range (@ja _ _ _ _ _ (@jop _ _ _ _ _ _ _ _ b_add (@ji _ _ _ _) (@jcallC _ _ _ _ _ _ _ _ _ _ Z0x (hr.mono (by omega)) rfl (@ja _ _ _ _ _ (@jV _ 1 _ _ rfl (by walk_at "v")) (@ja _ _ _ _ _ (@ji _ _ _ _) (@ja _ _ _ _ _ (@ji _ _ _ _) (@ja0 _) (star1 rfl)) (star1 rfl)) (star1 rfl)) (by decide) (star1 rfl) (stars rfl))) (@ja0 _) (star1 rfl)) (by rfl)) (@jg _ _ (7) _ Z1M.nd rfl (Or.inl rfl) (by walk_at "f")) (@jsc _ _ _ _ _ (@jset _ _ _ _ (10) _ _ Z1M.nd rfl (Or.inl rfl) (@jop _ _ _ _ _ _ _ _ b_add (@jcallC _ _ _ _ _ _ _ _ _ _ Z3n (hr.mono (by omega)) rfl (@ja _ _ _ _ _ (@jV _ 0 _ _ rfl (by walk_at "v")) (@ja _ _ _ _ _ (@jop _ _ _ _ _ _ _ _ b_add (@ji _ _ _ _) (@jop _ _ _ _ _ _ _ _ b_mul (@jV _ 7 _ _ rfl (by walk_at "v")) (@ji _ _ _ _))) (@ja0 _) (star1 rfl)) (star1 rfl)) (by decide) (star1 rfl) (stars rfl)) (@jV _ 7 _ _ rfl (by walk_at "v"))) (by rfl) (by walk_at "f")) (@jsc _ _ _ _ _ (@japp _ _ _ _ _ _ _ _ _ (pv 5) (@jcallC _ _ _ _ _ _ _ _ _ _ Z4W (hr.mono (by omega)) rfl (@ja _ _ _ _ _ (@jV _ 2 _ _ rfl (by walk_at "v")) (@ja _ _ _ _ _ (@jV _ 4 _ _ rfl (by walk_at "v")) (@ja _ _ _ _ _ (@jV _ 10 _ _ rfl (by walk_at "v")) (@ja0 _) (star1 rfl)) (star1 rfl)) (star1 rfl)) (by decide) (star1 rfl) (stars rfl)) (by rfl) (by rfl) (by rfl) (by rfl) (by rfl) (by rfl)) (@js1 _ _ _ (@japp _ _ _ _ _ _ _ _ _ (pv 6) (@jcallC _ _ _ _ _ _ _ _ _ _ Z5M (hr.mono (by omega)) rfl (@ja _ _ _ _ _ (@jixO _ _ _ _ (5) _ _ (pv 5) (@jneg _ _ _ _ (@ji _ _ _ _)) (fun _ _=>rfl)) (@ja _ _ _ _ _ (@jV _ 10 _ _ rfl (by walk_at "v")) (@ja0 _) (star1 rfl)) (star1 rfl)) (by decide) (star1 rfl) (stars rfl)) (by rfl) (by rfl) (by rfl) (by rfl) (by rfl) (by rfl))))) (fun _=>rfl)) (@jsc _ _ _ _ _ (@jset _ _ _ _ (8) _ _ Z1M.nd rfl (Or.inl rfl) (@jlst _ _ _ _ (@ja _ _ _ _ _ (@jtup _ _ _ _ _ (@ja _ _ _ _ _ (@ji _ _ _ _) (@ja _ _ _ _ _ (@jV _ 4 _ _ rfl (by walk_at "v")) (@ja0 _) (star1 rfl)) (star1 rfl))) (@ja _ _ _ _ _ (@jtup _ _ _ _ _ (@ja _ _ _ _ _ (@ji _ _ _ _) (@ja _ _ _ _ _ (@jcallC _ _ _ _ _ _ _ _ _ _ Z2F (hr.mono (by omega)) rfl (@ja _ _ _ _ _ (@jcallC _ _ _ _ _ _ _ _ _ _ Z0D (hr.mono (by omega)) rfl (@ja _ _ _ _ _ (@jix _ _ _ _ _ _ (@jV _ 2 _ _ rfl (by walk_at "v")) (@ji _ _ _ _) (fun _ _=>rfl)) (@ja _ _ _ _ _ (@jix _ _ _ _ _ _ (@jV _ 2 _ _ rfl (by walk_at "v")) (@ji _ _ _ _) (fun _ _=>rfl)) (@ja0 _) (star1 rfl)) (star1 rfl)) (by decide) (star1 rfl) (stars rfl)) (@ja _ _ _ _ _ (@jcallC _ _ _ _ _ _ _ _ _ _ Z1v (hr.mono (by omega)) rfl (@ja _ _ _ _ _ (@jV _ 1 _ _ rfl (by walk_at "v")) (@ja _ _ _ _ _ (@ji _ _ _ _) (@ja0 _) (star1 rfl)) (star1 rfl)) (by decide) (star1 rfl) (stars rfl)) (@ja0 _) (star1 rfl)) (star1 rfl)) (by decide) (star1 rfl) (stars rfl)) (@ja0 _) (star1 rfl)) (star1 rfl))) (@ja0 _) (star1 rfl)) (star1 rfl))) (by rfl) (by walk_at "f")) (@jfrz _ _ 5 _ (@jfrz _ _ 6 _ (@jsc _ _ _ _ _ (@jset _ _ _ _ (9) _ _ Z1M.nd rfl (Or.inl rfl) (@jcallC _ _ _ _ _ _ _ _ _ _ Z0F (hr.mono (by omega)) rfl (@ja _ _ _ _ _ (@jcallC _ _ _ _ _ _ _ _ _ _ Z2N (hr.mono (by omega)) rfl (@ja _ _ _ _ _ (@jV _ 8 _ _ rfl (by walk_at "v")) (@ja _ _ _ _ _ (@jV _ 5 _ _ rfl (by walk_at "v")) (@ja _ _ _ _ _ (@jV _ 6 _ _ rfl (by walk_at "v")) (@ja0 _) (star1 rfl)) (star1 rfl)) (star1 rfl)) (by decide) (star1 rfl) (stars rfl)) (@ja _ _ _ _ _ (@ji _ _ _ _) (@ja _ _ _ _ _ (@js _ _ _ _) (@ja0 _) (star1 rfl)) (star1 rfl)) (star1 rfl)) (by decide) (star1 rfl) (stars rfl)) (by rfl) (by walk_at "f")) (@jsc _ _ _ _ _ (@jsif _ _ _ _ _ _ _ _ (@jw _ _ _ (@tor _ _ _ _ _ _ _ (@tnot _ _ _ _ (@tval _ _ _ (@jcallC _ _ _ _ _ _ _ _ _ _ Z4x (hr.mono (by omega)) rfl (@ja _ _ _ _ _ (@jV _ 8 _ _ rfl (by walk_at "v")) (@ja _ _ _ _ _ (@jV _ 5 _ _ rfl (by walk_at "v")) (@ja _ _ _ _ _ (@jV _ 6 _ _ rfl (by walk_at "v")) (@ja _ _ _ _ _ (@ji _ _ _ _) (@ja0 _) (star1 rfl)) (star1 rfl)) (star1 rfl)) (star1 rfl)) (by decide) (star1 rfl) (stars rfl)) (fun _=>rfl))) (@tor1 _ _ _ _ (@tnot _ _ _ _ (@tval _ _ _ (@jcallC _ _ _ _ _ _ _ _ _ _ Z4x (hr.mono (by omega)) rfl (@ja _ _ _ _ _ (@jV _ 8 _ _ rfl (by walk_at "v")) (@ja _ _ _ _ _ (@jV _ 5 _ _ rfl (by walk_at "v")) (@ja _ _ _ _ _ (@jV _ 6 _ _ rfl (by walk_at "v")) (@ja _ _ _ _ _ (@ji _ _ _ _) (@ja0 _) (star1 rfl)) (star1 rfl)) (star1 rfl)) (star1 rfl)) (by decide) (star1 rfl) (stars rfl)) (fun _=>rfl)))))) (@js1 _ _ _ (@jret _ _ _ _ (@jb _ _ _ _))) (@js0 _)) (@js1 _ _ _ (@jret _ _ _ _ (@jcmp _ _ _ _ _ _ _ _ (c_eq hr) (@jcallC _ _ _ _ _ _ _ _ _ _ Z0F (hr.mono (by omega)) rfl (@ja _ _ _ _ _ (@jcallC _ _ _ _ _ _ _ _ _ _ Z2N (hr.mono (by omega)) rfl (@ja _ _ _ _ _ (@jV _ 8 _ _ rfl (by walk_at "v")) (@ja _ _ _ _ _ (@jV _ 5 _ _ rfl (by walk_at "v")) (@ja _ _ _ _ _ (@jV _ 6 _ _ rfl (by walk_at "v")) (@ja0 _) (star1 rfl)) (star1 rfl)) (star1 rfl)) (by decide) (star1 rfl) (stars rfl)) (@ja _ _ _ _ _ (@ji _ _ _ _) (@ja _ _ _ _ _ (@js _ _ _ _) (@ja0 _) (star1 rfl)) (star1 rfl)) (star1 rfl)) (by decide) (star1 rfl) (stars rfl)) (@jV _ 9 _ _ rfl (by walk_at "v")) (nomark _))))))))))))))))))) Z6Y
end
theorem all_mk{l:PySem.W.OpenLaw}{w:World}{K:PySem.W.Frag}{h:Heap}{mg:Str->Option Value}{fa f0 f1 f2 f3 f4 f5 f6 f7 f8 f9 f10 f11 f12 f13 f14 f15 f16 f17 f18 f19 f20 f21 f22 f23 f24 f25 f26 f27 f28 f29 f30 f31 f32 f33 f34 f35 f36 f37 f38 f39 f40 f41 f42 f43 f44 f45 f46 f47 f48 f49 f50:Addr}(X:K.In h)(G:h.Ns mainGlobals mg) (hfa:mg "law" = some (.ref fa))
  {od0 an0 od1 an1 od2 an2 od3 an3 od4 an4 od5 an5 od6 an6 od7 an7 od8 an8 od9 an9 od10 an10 od11 an11 od12 an12 od13 an13 od14 an14 od15 an15 od16 an16 od17 an17 od18 an18 od19 an19 od20 an20 od21 an21 od22 an22 od23 an23 od24 an24 od25 an25 od26 an26 od27 an27 od28 an28 od29 an29 od30 an30 od31 an31 od32 an32 od33 an33 od34 an34 od35 an35 od36 an36 od37 an37 od38 an38 od39 an39 od40 an40 od41 an41 od42 an42 od43 an43 od44 an44 od45 an45 od46 an46 od47 an47 od48 an48 od49 an49 od50 an50:Option Addr} {sl0 sl1 sl2 sl3 sl4 sl5 sl6 sl7 sl8 sl9 sl10 sl11 sl12 sl13 sl14 sl15 sl16 sl17 sl18 sl19 sl20 sl21 sl22 sl23 sl24 sl25 sl26 sl27 sl28 sl29 sl30 sl31 sl32 sl33 sl34 sl35 sl36 sl37 sl38 sl39 sl40 sl41 sl42 sl43 sl44 sl45 sl46 sl47 sl48 sl49 sl50:Array (Option Value)} {oc0 kV0 dc0 pm0 cd0 ct0 oc1 kV1 dc1 pm1 cd1 ct1 oc2 kV2 dc2 pm2 cd2 ct2 oc3 kV3 dc3 pm3 cd3 ct3 oc4 kV4 dc4 pm4 cd4 ct4 oc5 kV5 dc5 pm5 cd5 ct5 oc6 kV6 dc6 pm6 cd6 ct6 oc7 kV7 dc7 pm7 cd7 ct7 oc8 kV8 dc8 pm8 cd8 ct8 oc9 kV9 dc9 pm9 cd9 ct9 oc10 kV10 dc10 pm10 cd10 ct10 oc11 kV11 dc11 pm11 cd11 ct11 oc12 kV12 dc12 pm12 cd12 ct12 oc13 kV13 dc13 pm13 cd13 ct13 oc14 kV14 dc14 pm14 cd14 ct14 oc15 kV15 dc15 pm15 cd15 ct15 oc16 kV16 dc16 pm16 cd16 ct16 oc17 kV17 dc17 pm17 cd17 ct17 oc18 kV18 dc18 pm18 cd18 ct18 oc19 kV19 dc19 pm19 cd19 ct19 oc20 kV20 dc20 pm20 cd20 ct20 oc21 kV21 dc21 pm21 cd21 ct21 oc22 kV22 dc22 pm22 cd22 ct22 oc23 kV23 dc23 pm23 cd23 ct23 oc24 kV24 dc24 pm24 cd24 ct24 oc25 kV25 dc25 pm25 cd25 ct25 oc26 kV26 dc26 pm26 cd26 ct26 oc27 kV27 dc27 pm27 cd27 ct27 oc28 kV28 dc28 pm28 cd28 ct28 oc29 kV29 dc29 pm29 cd29 ct29 oc30 kV30 dc30 pm30 cd30 ct30 oc31 kV31 dc31 pm31 cd31 ct31 oc32 kV32 dc32 pm32 cd32 ct32 oc33 kV33 dc33 pm33 cd33 ct33 oc34 kV34 dc34 pm34 cd34 ct34 oc35 kV35 dc35 pm35 cd35 ct35 oc36 kV36 dc36 pm36 cd36 ct36 oc37 kV37 dc37 pm37 cd37 ct37 oc38 kV38 dc38 pm38 cd38 ct38 oc39 kV39 dc39 pm39 cd39 ct39 oc40 kV40 dc40 pm40 cd40 ct40 oc41 kV41 dc41 pm41 cd41 ct41 oc42 kV42 dc42 pm42 cd42 ct42 oc43 kV43 dc43 pm43 cd43 ct43 oc44 kV44 dc44 pm44 cd44 ct44 oc45 kV45 dc45 pm45 cd45 ct45 oc46 kV46 dc46 pm46 cd46 ct46 oc47 kV47 dc47 pm47 cd47 ct47 oc48 kV48 dc48 pm48 cd48 ct48 oc49 kV49 dc49 pm49 cd49 ct49 oc50 kV50 dc50 pm50 cd50 ct50:Value}
  (a0:PySem.W.nsIn K mainGlobals "_law_cell_at" = some (some (.ref f0))) (l0:K.lookup f0=some ⟨oc0,od0,.func (PySem.W.fnOf "_law_cell_at" "_law_cell_at" (defArgs Z1U) (defBody Z1U) (defScope Z1U) .none kV0 dc0 pm0 an0 cd0 ct0),sl0⟩) (c0:PySem.W.codeIn K cd0 "_law_cell_at" = true) (k0:PySem.W.keepIn K (.ref f0)=true)
  (a1:PySem.W.nsIn K mainGlobals "_law_draw" = some (some (.ref f1))) (l1:K.lookup f1=some ⟨oc1,od1,.func (PySem.W.fnOf "_law_draw" "_law_draw" (defArgs Z30) (defBody Z30) (defScope Z30) .none kV1 dc1 pm1 an1 cd1 ct1),sl1⟩) (c1:PySem.W.codeIn K cd1 "_law_draw" = true) (k1:PySem.W.keepIn K (.ref f1)=true)
  (a2:PySem.W.nsIn K mainGlobals "_law_number" = some (some (.ref f2))) (l2:K.lookup f2=some ⟨oc2,od2,.func (PySem.W.fnOf "_law_number" "_law_number" (defArgs Z26) (defBody Z26) (defScope Z26) .none kV2 dc2 pm2 an2 cd2 ct2),sl2⟩) (c2:PySem.W.codeIn K cd2 "_law_number" = true) (k2:PySem.W.keepIn K (.ref f2)=true)
  (a3:PySem.W.nsIn K mainGlobals "_law_triple" = some (some (.ref f3))) (l3:K.lookup f3=some ⟨oc3,od3,.func (PySem.W.fnOf "_law_triple" "_law_triple" (defArgs Z27) (defBody Z27) (defScope Z27) .none kV3 dc3 pm3 an3 cd3 ct3),sl3⟩) (c3:PySem.W.codeIn K cd3 "_law_triple" = true) (k3:PySem.W.keepIn K (.ref f3)=true)
  (a4:PySem.W.nsIn K mainGlobals "_law_cross" = some (some (.ref f4))) (l4:K.lookup f4=some ⟨oc4,od4,.func (PySem.W.fnOf "_law_cross" "_law_cross" (defArgs Z2t) (defBody Z2t) (defScope Z2t) .none kV4 dc4 pm4 an4 cd4 ct4),sl4⟩) (c4:PySem.W.codeIn K cd4 "_law_cross" = true) (k4:PySem.W.keepIn K (.ref f4)=true)
  (a5:PySem.W.nsIn K mainGlobals "_law_plate" = some (some (.ref f5))) (l5:K.lookup f5=some ⟨oc5,od5,.func (PySem.W.fnOf "_law_plate" "_law_plate" (defArgs Z2u) (defBody Z2u) (defScope Z2u) .none kV5 dc5 pm5 an5 cd5 ct5),sl5⟩) (c5:PySem.W.codeIn K cd5 "_law_plate" = true) (k5:PySem.W.keepIn K (.ref f5)=true)
  (a6:PySem.W.nsIn K mainGlobals "_law_dot" = some (some (.ref f6))) (l6:K.lookup f6=some ⟨oc6,od6,.func (PySem.W.fnOf "_law_dot" "_law_dot" (defArgs Z3I) (defBody Z3I) (defScope Z3I) .none kV6 dc6 pm6 an6 cd6 ct6),sl6⟩) (c6:PySem.W.codeIn K cd6 "_law_dot" = true) (k6:PySem.W.keepIn K (.ref f6)=true)
  (a7:PySem.W.nsIn K mainGlobals "_law_ahead" = some (some (.ref f7))) (l7:K.lookup f7=some ⟨oc7,od7,.func (PySem.W.fnOf "_law_ahead" "_law_ahead" (defArgs Z29) (defBody Z29) (defScope Z29) .none kV7 dc7 pm7 an7 cd7 ct7),sl7⟩) (c7:PySem.W.codeIn K cd7 "_law_ahead" = true) (k7:PySem.W.keepIn K (.ref f7)=true)
  (a8:PySem.W.nsIn K mainGlobals "_law_sum" = some (some (.ref f8))) (l8:K.lookup f8=some ⟨oc8,od8,.func (PySem.W.fnOf "_law_sum" "_law_sum" (defArgs Z3h) (defBody Z3h) (defScope Z3h) .none kV8 dc8 pm8 an8 cd8 ct8),sl8⟩) (c8:PySem.W.codeIn K cd8 "_law_sum" = true) (k8:PySem.W.keepIn K (.ref f8)=true)
  (a9:PySem.W.nsIn K mainGlobals "_law_far" = some (some (.ref f9))) (l9:K.lookup f9=some ⟨oc9,od9,.func (PySem.W.fnOf "_law_far" "_law_far" (defArgs Z3i) (defBody Z3i) (defScope Z3i) .none kV9 dc9 pm9 an9 cd9 ct9),sl9⟩) (c9:PySem.W.codeIn K cd9 "_law_far" = true) (k9:PySem.W.keepIn K (.ref f9)=true)
  (a10:PySem.W.nsIn K mainGlobals "_law_tip" = some (some (.ref f10))) (l10:K.lookup f10=some ⟨oc10,od10,.func (PySem.W.fnOf "_law_tip" "_law_tip" (defArgs Z3j) (defBody Z3j) (defScope Z3j) .none kV10 dc10 pm10 an10 cd10 ct10),sl10⟩) (c10:PySem.W.codeIn K cd10 "_law_tip" = true) (k10:PySem.W.keepIn K (.ref f10)=true)
  (a11:PySem.W.nsIn K mainGlobals "_law_about" = some (some (.ref f11))) (l11:K.lookup f11=some ⟨oc11,od11,.func (PySem.W.fnOf "_law_about" "_law_about" (defArgs Z2w) (defBody Z2w) (defScope Z2w) .none kV11 dc11 pm11 an11 cd11 ct11),sl11⟩) (c11:PySem.W.codeIn K cd11 "_law_about" = true) (k11:PySem.W.keepIn K (.ref f11)=true)
  (a12:PySem.W.nsIn K mainGlobals "_law_yard" = some (some (.ref f12))) (l12:K.lookup f12=some ⟨oc12,od12,.func (PySem.W.fnOf "_law_yard" "_law_yard" (defArgs Z35) (defBody Z35) (defScope Z35) .none kV12 dc12 pm12 an12 cd12 ct12),sl12⟩) (c12:PySem.W.codeIn K cd12 "_law_yard" = true) (k12:PySem.W.keepIn K (.ref f12)=true)
  (a13:PySem.W.nsIn K mainGlobals "is_whole" = some (some (.ref f13))) (l13:K.lookup f13=some ⟨oc13,od13,.func (PySem.W.fnOf "is_whole" "is_whole" (defArgs Z1w) (defBody Z1w) (defScope Z1w) .none kV13 dc13 pm13 an13 cd13 ct13),sl13⟩) (c13:PySem.W.codeIn K cd13 "is_whole" = true) (k13:PySem.W.keepIn K (.ref f13)=true)
  (a14:PySem.W.nsIn K mainGlobals "direction_at" = some (some (.ref f14))) (l14:K.lookup f14=some ⟨oc14,od14,.func (PySem.W.fnOf "direction_at" "direction_at" (defArgs Z0J) (defBody Z0J) (defScope Z0J) .none kV14 dc14 pm14 an14 cd14 ct14),sl14⟩) (c14:PySem.W.codeIn K cd14 "direction_at" = true) (k14:PySem.W.keepIn K (.ref f14)=true)
  (a15:PySem.W.nsIn K mainGlobals "dial_of" = some (some (.ref f15))) (l15:K.lookup f15=some ⟨oc15,od15,.func (PySem.W.fnOf "dial_of" "dial_of" (defArgs Z1V) (defBody Z1V) (defScope Z1V) .none kV15 dc15 pm15 an15 cd15 ct15),sl15⟩) (c15:PySem.W.codeIn K cd15 "dial_of" = true) (k15:PySem.W.keepIn K (.ref f15)=true)
  (a16:PySem.W.nsIn K mainGlobals "is_up" = some (some (.ref f16))) (l16:K.lookup f16=some ⟨oc16,od16,.func (PySem.W.fnOf "is_up" "is_up" (defArgs Z2x) (defBody Z2x) (defScope Z2x) .none kV16 dc16 pm16 an16 cd16 ct16),sl16⟩) (c16:PySem.W.codeIn K cd16 "is_up" = true) (k16:PySem.W.keepIn K (.ref f16)=true)
  (a17:PySem.W.nsIn K mainGlobals "cross_of" = some (some (.ref f17))) (l17:K.lookup f17=some ⟨oc17,od17,.func (PySem.W.fnOf "cross_of" "cross_of" (defArgs Z1x) (defBody Z1x) (defScope Z1x) .none kV17 dc17 pm17 an17 cd17 ct17),sl17⟩) (c17:PySem.W.codeIn K cd17 "cross_of" = true) (k17:PySem.W.keepIn K (.ref f17)=true)
  (a18:PySem.W.nsIn K mainGlobals "front_of" = some (some (.ref f18))) (l18:K.lookup f18=some ⟨oc18,od18,.func (PySem.W.fnOf "front_of" "front_of" (defArgs Z1y) (defBody Z1y) (defScope Z1y) .none kV18 dc18 pm18 an18 cd18 ct18),sl18⟩) (c18:PySem.W.codeIn K cd18 "front_of" = true) (k18:PySem.W.keepIn K (.ref f18)=true)
  (a19:PySem.W.nsIn K mainGlobals "dot_of" = some (some (.ref f19))) (l19:K.lookup f19=some ⟨oc19,od19,.func (PySem.W.fnOf "dot_of" "dot_of" (defArgs Z2b) (defBody Z2b) (defScope Z2b) .none kV19 dc19 pm19 an19 cd19 ct19),sl19⟩) (c19:PySem.W.codeIn K cd19 "dot_of" = true) (k19:PySem.W.keepIn K (.ref f19)=true)
  (a20:PySem.W.nsIn K mainGlobals "comes_from_ahead" = some (some (.ref f20))) (l20:K.lookup f20=some ⟨oc20,od20,.func (PySem.W.fnOf "comes_from_ahead" "comes_from_ahead" (defArgs Z0i) (defBody Z0i) (defScope Z0i) .none kV20 dc20 pm20 an20 cd20 ct20),sl20⟩) (c20:PySem.W.codeIn K cd20 "comes_from_ahead" = true) (k20:PySem.W.keepIn K (.ref f20)=true)
  (a21:PySem.W.nsIn K mainGlobals "greatest_factor" = some (some (.ref f21))) (l21:K.lookup f21=some ⟨oc21,od21,.func (PySem.W.fnOf "greatest_factor" "greatest_factor" (defArgs Z0o) (defBody Z0o) (defScope Z0o) .none kV21 dc21 pm21 an21 cd21 ct21),sl21⟩) (c21:PySem.W.codeIn K cd21 "greatest_factor" = true) (k21:PySem.W.keepIn K (.ref f21)=true)
  (a22:PySem.W.nsIn K mainGlobals "ratio_of" = some (some (.ref f22))) (l22:K.lookup f22=some ⟨oc22,od22,.func (PySem.W.fnOf "ratio_of" "ratio_of" (defArgs Z1z) (defBody Z1z) (defScope Z1z) .none kV22 dc22 pm22 an22 cd22 ct22),sl22⟩) (c22:PySem.W.codeIn K cd22 "ratio_of" = true) (k22:PySem.W.keepIn K (.ref f22)=true)
  (a23:PySem.W.nsIn K mainGlobals "ratio_times" = some (some (.ref f23))) (l23:K.lookup f23=some ⟨oc23,od23,.func (PySem.W.fnOf "ratio_times" "ratio_times" (defArgs Z0T) (defBody Z0T) (defScope Z0T) .none kV23 dc23 pm23 an23 cd23 ct23),sl23⟩) (c23:PySem.W.codeIn K cd23 "ratio_times" = true) (k23:PySem.W.keepIn K (.ref f23)=true)
  (a24:PySem.W.nsIn K mainGlobals "ratio_sum" = some (some (.ref f24))) (l24:K.lookup f24=some ⟨oc24,od24,.func (PySem.W.fnOf "ratio_sum" "ratio_sum" (defArgs Z1h) (defBody Z1h) (defScope Z1h) .none kV24 dc24 pm24 an24 cd24 ct24),sl24⟩) (c24:PySem.W.codeIn K cd24 "ratio_sum" = true) (k24:PySem.W.keepIn K (.ref f24)=true)
  (a25:PySem.W.nsIn K mainGlobals "number_at" = some (some (.ref f25))) (l25:K.lookup f25=some ⟨oc25,od25,.func (PySem.W.fnOf "number_at" "number_at" (defArgs Z1i) (defBody Z1i) (defScope Z1i) .none kV25 dc25 pm25 an25 cd25 ct25),sl25⟩) (c25:PySem.W.codeIn K cd25 "number_at" = true) (k25:PySem.W.keepIn K (.ref f25)=true)
  (a26:PySem.W.nsIn K mainGlobals "point_of" = some (some (.ref f26))) (l26:K.lookup f26=some ⟨oc26,od26,.func (PySem.W.fnOf "point_of" "point_of" (defArgs Z1b) (defBody Z1b) (defScope Z1b) .none kV26 dc26 pm26 an26 cd26 ct26),sl26⟩) (c26:PySem.W.codeIn K cd26 "point_of" = true) (k26:PySem.W.keepIn K (.ref f26)=true)
  (a27:PySem.W.nsIn K mainGlobals "ratio_less" = some (some (.ref f27))) (l27:K.lookup f27=some ⟨oc27,od27,.func (PySem.W.fnOf "ratio_less" "ratio_less" (defArgs Z14) (defBody Z14) (defScope Z14) .none kV27 dc27 pm27 an27 cd27 ct27),sl27⟩) (c27:PySem.W.codeIn K cd27 "ratio_less" = true) (k27:PySem.W.keepIn K (.ref f27)=true)
  (a28:PySem.W.nsIn K mainGlobals "point_less" = some (some (.ref f28))) (l28:K.lookup f28=some ⟨oc28,od28,.func (PySem.W.fnOf "point_less" "point_less" (defArgs Z0Q) (defBody Z0Q) (defScope Z0Q) .none kV28 dc28 pm28 an28 cd28 ct28),sl28⟩) (c28:PySem.W.codeIn K cd28 "point_less" = true) (k28:PySem.W.keepIn K (.ref f28)=true)
  (a29:PySem.W.nsIn K mainGlobals "point_dot" = some (some (.ref f29))) (l29:K.lookup f29=some ⟨oc29,od29,.func (PySem.W.fnOf "point_dot" "point_dot" (defArgs Z0Z) (defBody Z0Z) (defScope Z0Z) .none kV29 dc29 pm29 an29 cd29 ct29),sl29⟩) (c29:PySem.W.codeIn K cd29 "point_dot" = true) (k29:PySem.W.keepIn K (.ref f29)=true)
  (a30:PySem.W.nsIn K mainGlobals "ratio_by" = some (some (.ref f30))) (l30:K.lookup f30=some ⟨oc30,od30,.func (PySem.W.fnOf "ratio_by" "ratio_by" (defArgs Z1A) (defBody Z1A) (defScope Z1A) .none kV30 dc30 pm30 an30 cd30 ct30),sl30⟩) (c30:PySem.W.codeIn K cd30 "ratio_by" = true) (k30:PySem.W.keepIn K (.ref f30)=true)
  (a31:PySem.W.nsIn K mainGlobals "meeting_of" = some (some (.ref f31))) (l31:K.lookup f31=some ⟨oc31,od31,.func (PySem.W.fnOf "meeting_of" "meeting_of" (defArgs Z15) (defBody Z15) (defScope Z15) .none kV31 dc31 pm31 an31 cd31 ct31),sl31⟩) (c31:PySem.W.codeIn K cd31 "meeting_of" = true) (k31:PySem.W.keepIn K (.ref f31)=true)
  (a32:PySem.W.nsIn K mainGlobals "place_between" = some (some (.ref f32))) (l32:K.lookup f32=some ⟨oc32,od32,.func (PySem.W.fnOf "place_between" "place_between" (defArgs Z0l) (defBody Z0l) (defScope Z0l) .none kV32 dc32 pm32 an32 cd32 ct32),sl32⟩) (c32:PySem.W.codeIn K cd32 "place_between" = true) (k32:PySem.W.keepIn K (.ref f32)=true)
  (a33:PySem.W.nsIn K mainGlobals "cut_at_nought" = some (some (.ref f33))) (l33:K.lookup f33=some ⟨oc33,od33,.func (PySem.W.fnOf "cut_at_nought" "cut_at_nought" (defArgs Z0z) (defBody Z0z) (defScope Z0z) .none kV33 dc33 pm33 an33 cd33 ct33),sl33⟩) (c33:PySem.W.codeIn K cd33 "cut_at_nought" = true) (k33:PySem.W.keepIn K (.ref f33)=true)
  (a34:PySem.W.nsIn K mainGlobals "share_of" = some (some (.ref f34))) (l34:K.lookup f34=some ⟨oc34,od34,.func (PySem.W.fnOf "share_of" "share_of" (defArgs Z1B) (defBody Z1B) (defScope Z1B) .none kV34 dc34 pm34 an34 cd34 ct34),sl34⟩) (c34:PySem.W.codeIn K cd34 "share_of" = true) (k34:PySem.W.keepIn K (.ref f34)=true)
  (a35:PySem.W.nsIn K mainGlobals "turn_of" = some (some (.ref f35))) (l35:K.lookup f35=some ⟨oc35,od35,.func (PySem.W.fnOf "turn_of" "turn_of" (defArgs Z19) (defBody Z19) (defScope Z19) .none kV35 dc35 pm35 an35 cd35 ct35),sl35⟩) (c35:PySem.W.codeIn K cd35 "turn_of" = true) (k35:PySem.W.keepIn K (.ref f35)=true)
  (a36:PySem.W.nsIn K mainGlobals "is_under" = some (some (.ref f36))) (l36:K.lookup f36=some ⟨oc36,od36,.func (PySem.W.fnOf "is_under" "is_under" (defArgs Z1C) (defBody Z1C) (defScope Z1C) .none kV36 dc36 pm36 an36 cd36 ct36),sl36⟩) (c36:PySem.W.codeIn K cd36 "is_under" = true) (k36:PySem.W.keepIn K (.ref f36)=true)
  (a37:PySem.W.nsIn K mainGlobals "is_lower_place" = some (some (.ref f37))) (l37:K.lookup f37=some ⟨oc37,od37,.func (PySem.W.fnOf "is_lower_place" "is_lower_place" (defArgs Z0v) (defBody Z0v) (defScope Z0v) .none kV37 dc37 pm37 an37 cd37 ct37),sl37⟩) (c37:PySem.W.codeIn K cd37 "is_lower_place" = true) (k37:PySem.W.keepIn K (.ref f37)=true)
  (a38:PySem.W.nsIn K mainGlobals "begun_lowest" = some (some (.ref f38))) (l38:K.lookup f38=some ⟨oc38,od38,.func (PySem.W.fnOf "begun_lowest" "begun_lowest" (defArgs Z0K) (defBody Z0K) (defScope Z0K) .none kV38 dc38 pm38 an38 cd38 ct38),sl38⟩) (c38:PySem.W.codeIn K cd38 "begun_lowest" = true) (k38:PySem.W.keepIn K (.ref f38)=true)
  (a39:PySem.W.nsIn K mainGlobals "part_round" = some (some (.ref f39))) (l39:K.lookup f39=some ⟨oc39,od39,.func (PySem.W.fnOf "part_round" "part_round" (defArgs Z0R) (defBody Z0R) (defScope Z0R) .none kV39 dc39 pm39 an39 cd39 ct39),sl39⟩) (c39:PySem.W.codeIn K cd39 "part_round" = true) (k39:PySem.W.keepIn K (.ref f39)=true)
  (a40:PySem.W.nsIn K mainGlobals "both_of" = some (some (.ref f40))) (l40:K.lookup f40=some ⟨oc40,od40,.func (PySem.W.fnOf "both_of" "both_of" (defArgs Z1r) (defBody Z1r) (defScope Z1r) .none kV40 dc40 pm40 an40 cd40 ct40),sl40⟩) (c40:PySem.W.codeIn K cd40 "both_of" = true) (k40:PySem.W.keepIn K (.ref f40)=true)
  (a41:PySem.W.nsIn K mainGlobals "shaded_by" = some (some (.ref f41))) (l41:K.lookup f41=some ⟨oc41,od41,.func (PySem.W.fnOf "shaded_by" "shaded_by" (defArgs Z0j) (defBody Z0j) (defScope Z0j) .none kV41 dc41 pm41 an41 cd41 ct41),sl41⟩) (c41:PySem.W.codeIn K cd41 "shaded_by" = true) (k41:PySem.W.keepIn K (.ref f41)=true)
  (a42:PySem.W.nsIn K mainGlobals "parts_shaded" = some (some (.ref f42))) (l42:K.lookup f42=some ⟨oc42,od42,.func (PySem.W.fnOf "parts_shaded" "parts_shaded" (defArgs Z0b) (defBody Z0b) (defScope Z0b) .none kV42 dc42 pm42 an42 cd42 ct42),sl42⟩) (c42:PySem.W.codeIn K cd42 "parts_shaded" = true) (k42:PySem.W.keepIn K (.ref f42)=true)
  (a43:PySem.W.nsIn K mainGlobals "joint_share" = some (some (.ref f43))) (l43:K.lookup f43=some ⟨oc43,od43,.func (PySem.W.fnOf "joint_share" "joint_share" (defArgs Z0s) (defBody Z0s) (defScope Z0s) .none kV43 dc43 pm43 an43 cd43 ct43),sl43⟩) (c43:PySem.W.codeIn K cd43 "joint_share" = true) (k43:PySem.W.keepIn K (.ref f43)=true)
  (a44:PySem.W.nsIn K mainGlobals "lit_share" = some (some (.ref f44))) (l44:K.lookup f44=some ⟨oc44,od44,.func (PySem.W.fnOf "lit_share" "lit_share" (defArgs Z1k) (defBody Z1k) (defScope Z1k) .none kV44 dc44 pm44 an44 cd44 ct44),sl44⟩) (c44:PySem.W.codeIn K cd44 "lit_share" = true) (k44:PySem.W.keepIn K (.ref f44)=true)
  (a45:PySem.W.nsIn K mainGlobals "_law_low" = some (some (.ref f45))) (l45:K.lookup f45=some ⟨oc45,od45,.func (PySem.W.fnOf "_law_low" "_law_low" (defArgs Z3J) (defBody Z3J) (defScope Z3J) .none kV45 dc45 pm45 an45 cd45 ct45),sl45⟩) (c45:PySem.W.codeIn K cd45 "_law_low" = true) (k45:PySem.W.keepIn K (.ref f45)=true)
  (a46:PySem.W.nsIn K mainGlobals "_law_add" = some (some (.ref f46))) (l46:K.lookup f46=some ⟨oc46,od46,.func (PySem.W.fnOf "_law_add" "_law_add" (defArgs Z3K) (defBody Z3K) (defScope Z3K) .none kV46 dc46 pm46 an46 cd46 ct46),sl46⟩) (c46:PySem.W.codeIn K cd46 "_law_add" = true) (k46:PySem.W.keepIn K (.ref f46)=true)
  (a47:PySem.W.nsIn K mainGlobals "_law_left" = some (some (.ref f47))) (l47:K.lookup f47=some ⟨oc47,od47,.func (PySem.W.fnOf "_law_left" "_law_left" (defArgs Z37) (defBody Z37) (defScope Z37) .none kV47 dc47 pm47 an47 cd47 ct47),sl47⟩) (c47:PySem.W.codeIn K cd47 "_law_left" = true) (k47:PySem.W.keepIn K (.ref f47)=true)
  (a48:PySem.W.nsIn K mainGlobals "_law_under" = some (some (.ref f48))) (l48:K.lookup f48=some ⟨oc48,od48,.func (PySem.W.fnOf "_law_under" "_law_under" (defArgs Z2z) (defBody Z2z) (defScope Z2z) .none kV48 dc48 pm48 an48 cd48 ct48),sl48⟩) (c48:PySem.W.codeIn K cd48 "_law_under" = true) (k48:PySem.W.keepIn K (.ref f48)=true)
  (a49:PySem.W.nsIn K mainGlobals "_law_hour" = some (some (.ref f49))) (l49:K.lookup f49=some ⟨oc49,od49,.func (PySem.W.fnOf "_law_hour" "_law_hour" (defArgs Z2G) (defBody Z2G) (defScope Z2G) .none kV49 dc49 pm49 an49 cd49 ct49),sl49⟩) (c49:PySem.W.codeIn K cd49 "_law_hour" = true) (k49:PySem.W.keepIn K (.ref f49)=true)
  (a50:PySem.W.nsIn K mainGlobals "law" = some (some (.ref f50))) (l50:K.lookup f50=some ⟨oc50,od50,.func (PySem.W.fnOf "law" "law" (defArgs Z2o) (defBody Z2o) (defScope Z2o) .none kV50 dc50 pm50 an50 cd50 ct50),sl50⟩) (c50:PySem.W.codeIn K cd50 "law" = true) (k50:PySem.W.keepIn K (.ref f50)=true)
  (z0:PySem.W.nsIn K mainGlobals "len" = some none)
  (z1:PySem.W.nsIn K mainGlobals "range" = some none)
  (z2:PySem.W.nsIn K mainGlobals "int" = some none)
  (z3:PySem.W.nsIn K mainGlobals "zip" = some none)
  (z4:PySem.W.nsIn K mainGlobals "tuple" = some none)
  (z5:PySem.W.nsIn K mainGlobals "max" = some none)
  (z6:PySem.W.nsIn K mainGlobals "min" = some none)
  (z7:PySem.W.nsIn K mainGlobals "isinstance" = some none)
  (z8:PySem.W.nsIn K mainGlobals "bool" = some none)
  (z9:PySem.W.nsIn K mainGlobals "str" = some none)
  (z10:PySem.W.nsIn K mainGlobals "abs" = some none)
  (z11:PySem.W.nsIn K mainGlobals "enumerate" = some none)
  (z12:PySem.W.nsIn K mainGlobals "all" = some none)
  (z13:PySem.W.nsIn K mainGlobals "reversed" = some none)
  (z14:PySem.W.nsIn K mainGlobals "list" = some none)
  {nt0_0_0_0 nt0_0_0_1 nt0_0_1_0 nt0_0_1_1 nt0_1_0_0 nt0_1_0_1 nt0_1_1_0 nt0_1_1_1 nt0_2_0_0 nt0_2_0_1 nt0_2_1_0 nt0_2_1_1 nt0_3_0_0 nt0_3_0_1 nt0_3_1_0 nt0_3_1_1:Tok} {np0 np0_0 np0_0_0 np0_0_1 np0_1 np0_1_0 np0_1_1 np0_2 np0_2_0 np0_2_1 np0_3 np0_3_0 np0_3_1:Addr} {no0 no0_0 no0_0_0 no0_0_1 no0_1 no0_1_0 no0_1_1 no0_2 no0_2_0 no0_2_1 no0_3 no0_3_0 no0_3_1:Option Addr} {nn0 nn0_0 nn0_0_0 nn0_0_1 nn0_1 nn0_1_0 nn0_1_1 nn0_2 nn0_2_0 nn0_2_1 nn0_3 nn0_3_0 nn0_3_1:Nat} {ns0 ns0_0 ns0_0_0 ns0_0_1 ns0_1 ns0_1_0 ns0_1_1 ns0_2 ns0_2_0 ns0_2_1 ns0_3 ns0_3_0 ns0_3_1:Array (Option Value)} (cg0:PySem.W.nsIn K mainGlobals "WHOLE" = some (some (.ref np0))) (nh0:K.lookup np0=some ⟨.type "tuple", no0,.seq #[.ref np0_0,.ref np0_1,.ref np0_2,.ref np0_3] nn0,ns0⟩) (nh0_0:K.lookup np0_0=some ⟨.type "tuple", no0_0,.seq #[.ref np0_0_0,.ref np0_0_1] nn0_0,ns0_0⟩) (nh0_0_0:K.lookup np0_0_0=some ⟨.type "tuple", no0_0_0,.seq #[.int (0) nt0_0_0_0,.int (1) nt0_0_0_1] nn0_0_0,ns0_0_0⟩) (nh0_0_1:K.lookup np0_0_1=some ⟨.type "tuple", no0_0_1,.seq #[.int (0) nt0_0_1_0,.int (1) nt0_0_1_1] nn0_0_1,ns0_0_1⟩) (nh0_1:K.lookup np0_1=some ⟨.type "tuple", no0_1,.seq #[.ref np0_1_0,.ref np0_1_1] nn0_1,ns0_1⟩) (nh0_1_0:K.lookup np0_1_0=some ⟨.type "tuple", no0_1_0,.seq #[.int (1) nt0_1_0_0,.int (1) nt0_1_0_1] nn0_1_0,ns0_1_0⟩) (nh0_1_1:K.lookup np0_1_1=some ⟨.type "tuple", no0_1_1,.seq #[.int (0) nt0_1_1_0,.int (1) nt0_1_1_1] nn0_1_1,ns0_1_1⟩) (nh0_2:K.lookup np0_2=some ⟨.type "tuple", no0_2,.seq #[.ref np0_2_0,.ref np0_2_1] nn0_2,ns0_2⟩) (nh0_2_0:K.lookup np0_2_0=some ⟨.type "tuple", no0_2_0,.seq #[.int (1) nt0_2_0_0,.int (1) nt0_2_0_1] nn0_2_0,ns0_2_0⟩) (nh0_2_1:K.lookup np0_2_1=some ⟨.type "tuple", no0_2_1,.seq #[.int (1) nt0_2_1_0,.int (1) nt0_2_1_1] nn0_2_1,ns0_2_1⟩) (nh0_3:K.lookup np0_3=some ⟨.type "tuple", no0_3,.seq #[.ref np0_3_0,.ref np0_3_1] nn0_3,ns0_3⟩) (nh0_3_0:K.lookup np0_3_0=some ⟨.type "tuple", no0_3_0,.seq #[.int (0) nt0_3_0_0,.int (1) nt0_3_0_1] nn0_3_0,ns0_3_0⟩) (nh0_3_1:K.lookup np0_3_1=some ⟨.type "tuple", no0_3_1,.seq #[.int (1) nt0_3_1_0,.int (1) nt0_3_1_1] nn0_3_1,ns0_3_1⟩)
  {ctk1:Tok} (cg1:PySem.W.nsIn K mainGlobals "MOST_SHADING" = some (some (.int 6 ctk1)))
  : ∃fd:FuncData,(∀(s:Shared)(v:Value),BindsTo s fd ⟨[v],[]⟩ [("_law_script", v)])/\∀base:Heap,K.In base->base.Ns mainGlobals mg->FnOk l.prog w K mg base CX0 18 fa fd ["_law_script"] (spT K 1 lawSp):=by
 have e:=hfa.symm.trans (PySem.W.mg_of X G a50)
 cases e
 have F0:=fun_mk (st:=Z1U) l0 c0 k0
 have F1:=fun_mk (st:=Z30) l1 c1 k1
 have F2:=fun_mk (st:=Z26) l2 c2 k2
 have F3:=fun_mk (st:=Z27) l3 c3 k3
 have F4:=fun_mk (st:=Z2t) l4 c4 k4
 have F5:=fun_mk (st:=Z2u) l5 c5 k5
 have F6:=fun_mk (st:=Z3I) l6 c6 k6
 have F7:=fun_mk (st:=Z29) l7 c7 k7
 have F8:=fun_mk (st:=Z3h) l8 c8 k8
 have F9:=fun_mk (st:=Z3i) l9 c9 k9
 have F10:=fun_mk (st:=Z3j) l10 c10 k10
 have F11:=fun_mk (st:=Z2w) l11 c11 k11
 have F12:=fun_mk (st:=Z35) l12 c12 k12
 have F13:=fun_mk (st:=Z1w) l13 c13 k13
 have F14:=fun_mk (st:=Z0J) l14 c14 k14
 have F15:=fun_mk (st:=Z1V) l15 c15 k15
 have F16:=fun_mk (st:=Z2x) l16 c16 k16
 have F17:=fun_mk (st:=Z1x) l17 c17 k17
 have F18:=fun_mk (st:=Z1y) l18 c18 k18
 have F19:=fun_mk (st:=Z2b) l19 c19 k19
 have F20:=fun_mk (st:=Z0i) l20 c20 k20
 have F21:=fun_mk (st:=Z0o) l21 c21 k21
 have F22:=fun_mk (st:=Z1z) l22 c22 k22
 have F23:=fun_mk (st:=Z0T) l23 c23 k23
 have F24:=fun_mk (st:=Z1h) l24 c24 k24
 have F25:=fun_mk (st:=Z1i) l25 c25 k25
 have F26:=fun_mk (st:=Z1b) l26 c26 k26
 have F27:=fun_mk (st:=Z14) l27 c27 k27
 have F28:=fun_mk (st:=Z0Q) l28 c28 k28
 have F29:=fun_mk (st:=Z0Z) l29 c29 k29
 have F30:=fun_mk (st:=Z1A) l30 c30 k30
 have F31:=fun_mk (st:=Z15) l31 c31 k31
 have F32:=fun_mk (st:=Z0l) l32 c32 k32
 have F33:=fun_mk (st:=Z0z) l33 c33 k33
 have F34:=fun_mk (st:=Z1B) l34 c34 k34
 have F35:=fun_mk (st:=Z19) l35 c35 k35
 have F36:=fun_mk (st:=Z1C) l36 c36 k36
 have F37:=fun_mk (st:=Z0v) l37 c37 k37
 have F38:=fun_mk (st:=Z0K) l38 c38 k38
 have F39:=fun_mk (st:=Z0R) l39 c39 k39
 have F40:=fun_mk (st:=Z1r) l40 c40 k40
 have F41:=fun_mk (st:=Z0j) l41 c41 k41
 have F42:=fun_mk (st:=Z0b) l42 c42 k42
 have F43:=fun_mk (st:=Z0s) l43 c43 k43
 have F44:=fun_mk (st:=Z1k) l44 c44 k44
 have F45:=fun_mk (st:=Z3J) l45 c45 k45
 have F46:=fun_mk (st:=Z3K) l46 c46 k46
 have F47:=fun_mk (st:=Z37) l47 c47 k47
 have F48:=fun_mk (st:=Z2z) l48 c48 k48
 have F49:=fun_mk (st:=Z2G) l49 c49 k49
 have F50:=fun_mk (st:=Z2o) l50 c50 k50
 have z_len:=PySem.W.mg_none_of X G z0
 have z_range:=PySem.W.mg_none_of X G z1
 have z_int:=PySem.W.mg_none_of X G z2
 have z_zip:=PySem.W.mg_none_of X G z3
 have z_tuple:=PySem.W.mg_none_of X G z4
 have z_max:=PySem.W.mg_none_of X G z5
 have z_min:=PySem.W.mg_none_of X G z6
 have z_isinstance:=PySem.W.mg_none_of X G z7
 have z_bool:=PySem.W.mg_none_of X G z8
 have z_str:=PySem.W.mg_none_of X G z9
 have z_abs:=PySem.W.mg_none_of X G z10
 have z_enumerate:=PySem.W.mg_none_of X G z11
 have z_all:=PySem.W.mg_none_of X G z12
 have z_reversed:=PySem.W.mg_none_of X G z13
 have z_list:=PySem.W.mg_none_of X G z14
 have g_WHOLE:GlC K mg "WHOLE" c_WHOLE:=⟨_,PySem.W.mg_of X G cg0,.ref _,rfl,fun H=>rep_tup.mpr ⟨_,[.ref np0_0,.ref np0_1,.ref np0_2,.ref np0_3],rfl,.inr ⟨_,_,_,nh0,rfl,rfl,few (show 4<=1000 by decide),.cons rfl (.cons rfl (.cons rfl (.cons rfl (.nil))))⟩,.cons (rep_tup.mpr ⟨_,[.ref np0_0_0,.ref np0_0_1],rfl,.inr ⟨_,_,_,nh0_0,rfl,rfl,few (show 2<=1000 by decide),.cons rfl (.cons rfl (.nil))⟩,.cons (rep_tup.mpr ⟨_,[.int (0),.int (1)],rfl,.inr ⟨_,_,_,nh0_0_0,rfl,rfl,few (show 2<=1000 by decide),.cons ⟨_,rfl⟩ (.cons ⟨_,rfl⟩ (.nil))⟩,.cons (rep_int.mpr rfl) (.cons (rep_int.mpr rfl) (reps_nil.mpr rfl))⟩) (.cons (rep_tup.mpr ⟨_,[.int (0),.int (1)],rfl,.inr ⟨_,_,_,nh0_0_1,rfl,rfl,few (show 2<=1000 by decide),.cons ⟨_,rfl⟩ (.cons ⟨_,rfl⟩ (.nil))⟩,.cons (rep_int.mpr rfl) (.cons (rep_int.mpr rfl) (reps_nil.mpr rfl))⟩) (reps_nil.mpr rfl))⟩) (.cons (rep_tup.mpr ⟨_,[.ref np0_1_0,.ref np0_1_1],rfl,.inr ⟨_,_,_,nh0_1,rfl,rfl,few (show 2<=1000 by decide),.cons rfl (.cons rfl (.nil))⟩,.cons (rep_tup.mpr ⟨_,[.int (1),.int (1)],rfl,.inr ⟨_,_,_,nh0_1_0,rfl,rfl,few (show 2<=1000 by decide),.cons ⟨_,rfl⟩ (.cons ⟨_,rfl⟩ (.nil))⟩,.cons (rep_int.mpr rfl) (.cons (rep_int.mpr rfl) (reps_nil.mpr rfl))⟩) (.cons (rep_tup.mpr ⟨_,[.int (0),.int (1)],rfl,.inr ⟨_,_,_,nh0_1_1,rfl,rfl,few (show 2<=1000 by decide),.cons ⟨_,rfl⟩ (.cons ⟨_,rfl⟩ (.nil))⟩,.cons (rep_int.mpr rfl) (.cons (rep_int.mpr rfl) (reps_nil.mpr rfl))⟩) (reps_nil.mpr rfl))⟩) (.cons (rep_tup.mpr ⟨_,[.ref np0_2_0,.ref np0_2_1],rfl,.inr ⟨_,_,_,nh0_2,rfl,rfl,few (show 2<=1000 by decide),.cons rfl (.cons rfl (.nil))⟩,.cons (rep_tup.mpr ⟨_,[.int (1),.int (1)],rfl,.inr ⟨_,_,_,nh0_2_0,rfl,rfl,few (show 2<=1000 by decide),.cons ⟨_,rfl⟩ (.cons ⟨_,rfl⟩ (.nil))⟩,.cons (rep_int.mpr rfl) (.cons (rep_int.mpr rfl) (reps_nil.mpr rfl))⟩) (.cons (rep_tup.mpr ⟨_,[.int (1),.int (1)],rfl,.inr ⟨_,_,_,nh0_2_1,rfl,rfl,few (show 2<=1000 by decide),.cons ⟨_,rfl⟩ (.cons ⟨_,rfl⟩ (.nil))⟩,.cons (rep_int.mpr rfl) (.cons (rep_int.mpr rfl) (reps_nil.mpr rfl))⟩) (reps_nil.mpr rfl))⟩) (.cons (rep_tup.mpr ⟨_,[.ref np0_3_0,.ref np0_3_1],rfl,.inr ⟨_,_,_,nh0_3,rfl,rfl,few (show 2<=1000 by decide),.cons rfl (.cons rfl (.nil))⟩,.cons (rep_tup.mpr ⟨_,[.int (0),.int (1)],rfl,.inr ⟨_,_,_,nh0_3_0,rfl,rfl,few (show 2<=1000 by decide),.cons ⟨_,rfl⟩ (.cons ⟨_,rfl⟩ (.nil))⟩,.cons (rep_int.mpr rfl) (.cons (rep_int.mpr rfl) (reps_nil.mpr rfl))⟩) (.cons (rep_tup.mpr ⟨_,[.int (1),.int (1)],rfl,.inr ⟨_,_,_,nh0_3_1,rfl,rfl,few (show 2<=1000 by decide),.cons ⟨_,rfl⟩ (.cons ⟨_,rfl⟩ (.nil))⟩,.cons (rep_int.mpr rfl) (.cons (rep_int.mpr rfl) (reps_nil.mpr rfl))⟩) (reps_nil.mpr rfl))⟩) (reps_nil.mpr rfl))))⟩⟩
 have g_MOST_SHADING:GlC K mg "MOST_SHADING" c_MOST_SHADING:=⟨_,PySem.W.mg_of X G cg1,.int _,⟨_,rfl⟩,fun H=>rep_int.mpr rfl⟩
 refine⟨PySem.W.fnOf "law" "law" (defArgs Z2o) (defBody Z2o) (defScope Z2o) .none kV50 dc50 pm50 an50 cd50 ct50,fun s v=>.of_eq rfl,fun base _ _=>?_⟩
 have Z3n:=Z5V (P:=l.prog) (w:=w) (base:=base) F0 (PySem.W.mg_of X G a0) z_len
 have Z0x:=Z6O (P:=l.prog) (w:=w) (base:=base) F1 (PySem.W.mg_of X G a1) z_range
 have Z32:=Z6f (P:=l.prog) (w:=w) (base:=base) F2 (PySem.W.mg_of X G a2) Z0x
 have Z1v:=Z6h (P:=l.prog) (w:=w) (base:=base) F3 (PySem.W.mg_of X G a3) Z32
 have Z0D:=Z6w (P:=l.prog) (w:=w) (base:=base) F4 (PySem.W.mg_of X G a4)
 have Z34:=Z6x (P:=l.prog) (w:=w) (base:=base) F5 (PySem.W.mg_of X G a5) Z1v Z0D
 have Z3C:=Z70 (P:=l.prog) (w:=w) (base:=base) F6 (PySem.W.mg_of X G a6)
 have Z2F:=Z6y (P:=l.prog) (w:=w) (base:=base) F7 (PySem.W.mg_of X G a7) Z3C z_int z_zip z_tuple
 have Z2V:=Z72 (P:=l.prog) (w:=w) (base:=base) F8 (PySem.W.mg_of X G a8) z_zip z_tuple
 have Z3k:=Z74 (P:=l.prog) (w:=w) (base:=base) F9 (PySem.W.mg_of X G a9) z_max z_min
 have Z5M:=Z75 (P:=l.prog) (w:=w) (base:=base) F10 (PySem.W.mg_of X G a10) Z0D Z0x Z2F Z2V Z3k z_range z_tuple
 have Z4W:=Z6z (P:=l.prog) (w:=w) (base:=base) F11 (PySem.W.mg_of X G a11) Z0x Z2V Z34 Z0D Z3k
 have Z2N:=Z6P (P:=l.prog) (w:=w) (base:=base) F12 (PySem.W.mg_of X G a12) z_len z_range
 have Z1n:=Z5y (P:=l.prog) (w:=w) (base:=base) F13 (PySem.W.mg_of X G a13) z_isinstance z_int z_bool
 have Z0S:=Z4i (P:=l.prog) (w:=w) (base:=base) F14 (PySem.W.mg_of X G a14) Z1n
 have Z3Y:=Z5W (P:=l.prog) (w:=w) (base:=base) F15 (PySem.W.mg_of X G a15) z_isinstance z_str
 have Z4U:=Z6B (P:=l.prog) (w:=w) (base:=base) F16 (PySem.W.mg_of X G a16) Z0S
 have Z1o:=Z5A (P:=l.prog) (w:=w) (base:=base) F17 (PySem.W.mg_of X G a17)
 have Z0X:=Z5C (P:=l.prog) (w:=w) (base:=base) F18 (PySem.W.mg_of X G a18) Z1o
 have Z2y:=Z6j (P:=l.prog) (w:=w) (base:=base) F19 (PySem.W.mg_of X G a19)
 have Z1G:=Z3F (P:=l.prog) (w:=w) (base:=base) F20 (PySem.W.mg_of X G a20) Z0X Z2y
 have Z1S:=Z3N (P:=l.prog) (w:=w) (base:=base) F21 (PySem.W.mg_of X G a21) z_abs
 have Z0q:=Z5D (P:=l.prog) (w:=w) (base:=base) F22 (PySem.W.mg_of X G a22) Z1n Z1S
 have Z04:=Z4t (P:=l.prog) (w:=w) (base:=base) F23 (PySem.W.mg_of X G a23) Z0q
 have Z05:=Z5b (P:=l.prog) (w:=w) (base:=base) F24 (PySem.W.mg_of X G a24) Z0q
 have Z3m:=Z5c (P:=l.prog) (w:=w) (base:=base) F25 (PySem.W.mg_of X G a25) Z04 Z05
 have Z3H:=Z5F (P:=l.prog) (w:=w) (base:=base) F26 (PySem.W.mg_of X G a26) Z3m z_range z_tuple
 have Z02:=Z4P (P:=l.prog) (w:=w) (base:=base) F27 (PySem.W.mg_of X G a27) Z0q
 have Z1j:=Z4R (P:=l.prog) (w:=w) (base:=base) F28 (PySem.W.mg_of X G a28) Z02 z_range z_tuple
 have Z1c:=Z5d (P:=l.prog) (w:=w) (base:=base) F29 (PySem.W.mg_of X G a29) Z04 Z05 z_range
 have Z1q:=Z5H (P:=l.prog) (w:=w) (base:=base) F30 (PySem.W.mg_of X G a30) Z0q
 have Z2Y:=Z4S (P:=l.prog) (w:=w) (base:=base) F31 (PySem.W.mg_of X G a31) Z0X Z2y Z1j Z1o Z1c Z1q
 have Z2c:=Z47 (P:=l.prog) (w:=w) (base:=base) F32 (PySem.W.mg_of X G a32) Z02 Z04 Z05 z_range z_tuple
 have Z0L:=Z48 (P:=l.prog) (w:=w) (base:=base) F33 (PySem.W.mg_of X G a33) Z02 Z1q Z2c z_enumerate
 have Z0r:=Z5I (P:=l.prog) (w:=w) (base:=base) F34 (PySem.W.mg_of X G a34) Z04 Z02 Z05 z_enumerate
 have Z2d:=Z5X (P:=l.prog) (w:=w) (base:=base) F35 (PySem.W.mg_of X G a35) Z02 Z04 z_range
 have Z2M:=Z5K (P:=l.prog) (w:=w) (base:=base) F36 (PySem.W.mg_of X G a36)
 have Z1Y:=Z3X (P:=l.prog) (w:=w) (base:=base) F37 (PySem.W.mg_of X G a37) Z2M
 have Z2m:=Z4j (P:=l.prog) (w:=w) (base:=base) F38 (PySem.W.mg_of X G a38) Z1Y z_enumerate
 have Z2X:=Z4T (P:=l.prog) (w:=w) (base:=base) F39 (PySem.W.mg_of X G a39) Z2d Z2m z_enumerate z_len
 have Z0A:=Z5Y (P:=l.prog) (w:=w) (base:=base) F40 (PySem.W.mg_of X G a40) Z2d Z0L Z2X z_enumerate
 have Z1D:=Z5e (P:=l.prog) (w:=w) (base:=base) F41 (PySem.W.mg_of X G a41) Z3H Z1j Z0X Z1c Z2Y Z0L Z0r Z0A z_all z_reversed z_list g_WHOLE
 have Z2n:=Z4k (P:=l.prog) (w:=w) (base:=base) F42 (PySem.W.mg_of X G a42) Z1D
 have Z1s:=Z4u (P:=l.prog) (w:=w) (base:=base) F43 (PySem.W.mg_of X G a43) Z0A Z0r Z02 Z05 z_enumerate
 have Z0F:=Z5f (P:=l.prog) (w:=w) (base:=base) F44 (PySem.W.mg_of X G a44) Z0S Z3Y Z4U Z1G Z2n Z1s Z02 z_len g_MOST_SHADING
 have Z6k:=Z76 (P:=l.prog) (w:=w) (base:=base) F45 (PySem.W.mg_of X G a45) z_abs
 have Z6l:=Z78 (P:=l.prog) (w:=w) (base:=base) F46 (PySem.W.mg_of X G a46) Z6k
 have Z5L:=Z6Q (P:=l.prog) (w:=w) (base:=base) F47 (PySem.W.mg_of X G a47) Z0A Z0r Z6l
 have Z4V:=Z6D (P:=l.prog) (w:=w) (base:=base) F48 (PySem.W.mg_of X G a48)
 have Z4x:=Z6R (P:=l.prog) (w:=w) (base:=base) F49 (PySem.W.mg_of X G a49) Z2N Z0F Z0D Z3C Z1D Z5L Z4V z_len z_range
 exact(Z79 (P:=l.prog) (w:=w) (base:=base) F50 Z3n Z34 Z5M Z1v Z0x Z0D Z2F Z3k Z4W Z2N Z0F Z4x z_range).ok
end TL
open PySem PySem.W PyProof.Rows
def PySem.W.Fast.tw3297215428322929842:Nat:=0
def PySem.W.Fast.tw11737261380198717313:Nat:=0
def PySem.W.Fast.tw16473312376491457609:Nat:=0
def PySem.W.Fast.tw15053340667190017831:Nat:=0
def PySem.W.Fast.tw7359079232943716548:Nat:=0
def PySem.W.Fast.tw3262218046755703941:Nat:=0
def PySem.W.Fast.tw1137391397201312370:Nat:=0
def PySem.W.Fast.tw15731795437759920919:Nat:=0
def PySem.W.Fast.tw5358568219349961187:Nat:=0
def PySem.W.Fast.tw2456568095725356642:Nat:=0
def PySem.W.Fast.tw16203149868612490959:Nat:=0
def PySem.W.Fast.tw14526324441406514956:Nat:=0
def PySem.W.Fast.tw8790167935566313280:Nat:=0
def PySem.W.Fast.tw14555231875707652496:Nat:=0
def PySem.W.Fast.tw11796872621987141171:Nat:=0
def PySem.W.Fast.tw9092403932353954466:Nat:=0
def PySem.W.Fast.tw876129968896079241:Nat:=0
def PySem.W.Fast.tw4644117622790266832:Nat:=0
def PySem.W.Fast.tw8329955400531490439:Nat:=0
def PySem.W.Fast.tw3856754218512692323:Nat:=0
def PySem.W.Fast.tw6784246932975767879:Nat:=0
def PySem.W.Fast.tw4666940984777468308:Nat:=0
def PySem.W.Fast.tw11323324799927728467:Nat:=0
def PySem.W.Fast.tw7596784917691676202:Nat:=0
def PySem.W.Fast.tw9640757975141281414:Nat:=0
def PySem.W.Fast.tw5451520461669320747:Nat:=0
def PySem.W.Fast.tw7868108941821136881:Nat:=0
def PySem.W.Fast.tw13257578870456757608:Nat:=0
def PySem.W.Fast.tw8752168117477217867:Nat:=0
def PySem.W.Fast.tw6404186433535728029:Nat:=0
def PySem.W.Fast.tw10952235942270903773:Nat:=0
def PySem.W.Fast.tw11705944314890650597:Nat:=0
def PySem.W.Fast.tw5388784503486292719:Nat:=0
def PySem.W.Fast.tw9277094263754880174:Nat:=0
def PySem.W.Fast.tw12797723970039772606:Nat:=0
def PySem.W.Fast.tw15664284090167442504:Nat:=0
def PySem.W.Fast.tw16376727439907331505:Nat:=0
def PySem.W.Fast.tw12338466838995289269:Nat:=0
def PySem.W.Fast.tw10165279448384335909:Nat:=0
def PySem.W.Fast.tw8563772958032809107:Nat:=0
def PySem.W.Fast.tw8853314538731026579:Nat:=0
def PySem.W.Fast.tw18393737562811995940:Nat:=0
def PySem.W.Fast.tw743044111923305651:Nat:=0
def PySem.W.Fast.tw13728575703319672683:Nat:=0
def PySem.W.Fast.tw15728159914396304794:Nat:=0
def PySem.W.Fast.tw3167541575651955888:Nat:=0
def PySem.W.Fast.tw6283335519380875602:Nat:=0
def PySem.W.Fast.tw14989299665762302295:Nat:=0
def PySem.W.Fast.tw9247389026136948717:Nat:=0
def PySem.W.Fast.tw15005184537818720187:Nat:=0
def PySem.W.Fast.tw15817166511949921430:Nat:=0
def PySem.W.Fast.tw4050676598646026460:Nat:=0
def PySem.W.Fast.tw17344089803031295337:Nat:=0
def PySem.W.Fast.tw15103412209008761602:Nat:=0
def PySem.W.Fast.tw6292939594232975783:Nat:=0
def PySem.W.Fast.tw3847413723203966644:Nat:=0
def PySem.W.Fast.tw17966003792085944368:Nat:=0
def PySem.W.Fast.tw10494645803420542168:Nat:=0
def PySem.W.Fast.tw11013484586129235588:Nat:=0
def PySem.W.Fast.tw7598003922076432810:Nat:=0
def PySem.W.Fast.tw1826107242154824249:Nat:=0
def PySem.W.Fast.tw16227745440994619319:Nat:=0
def PySem.W.Fast.tw3836097367555407879:Nat:=0
def PySem.W.Fast.tw11509449711379002740:Nat:=0
def PySem.W.Fast.tw14178166106829235874:Nat:=0
def PySem.W.Fast.tw8887453342683914409:Nat:=0
def PySem.W.Fast.tw3444899509561651756:Nat:=0
def PySem.W.Fast.tw6155855264206775164:Nat:=0
def PySem.W.Fast.tw17055012253441663555:Nat:=0
def PySem.W.Fast.tw18227342701503084434:Nat:=0
def PySem.W.Fast.tw215412890977445738:Nat:=0
def PySem.W.Fast.tw342527026775752165:Nat:=0
def PySem.W.Fast.tw10596876044924210641:Nat:=0
def PySem.W.Fast.tw17459699940853710423:Nat:=0
def PySem.W.Fast.tw3419711221092412464:Nat:=0
def PySem.W.Fast.tw815016994946293849:Nat:=0
def PySem.W.Fast.tw6559188203469959907:Nat:=0
def PySem.W.Fast.tw929493970269472960:Nat:=0
def PySem.W.Fast.tw16927341506743226745:Nat:=0
def PySem.W.Fast.tw7774115043843088183:Nat:=0
def PySem.W.Fast.tw11938079457142758904:Nat:=0
def PySem.W.Fast.tw2657650452547876460:Nat:=0
set_option maxRecDepth 100000 in
set_option maxHeartbeats 0 in
theorem PySem.Challenge.cw_dialyard_k77_whole_lit_by_parts_holds : PySem.Challenge.rw_dialyard_k77_whole_lit_by_parts.Holds := by
 w_on;o_law;k_head;(case hw=>w_witness2)
 k_fill
 refine TL.walk (l:=PySem.Challenge.rw_dialyard_k77_whole_lit_by_parts) (x := "_law_script") (k:=18) rfl rfl ⟨rfl,by decide,by decide⟩ (fun w h Y=>PySem.W.kIn_of Y) ?F
 case F =>
  intro w mg fa h KX G hmg
  refine' TL.all_mk KX G hmg ?a0 ?l0 ?c0 ?k0 ?a1 ?l1 ?c1 ?k1 ?a2 ?l2 ?c2 ?k2 ?a3 ?l3 ?c3 ?k3 ?a4 ?l4 ?c4 ?k4 ?a5 ?l5 ?c5 ?k5 ?a6 ?l6 ?c6 ?k6 ?a7 ?l7 ?c7 ?k7 ?a8 ?l8 ?c8 ?k8 ?a9 ?l9 ?c9 ?k9 ?a10 ?l10 ?c10 ?k10 ?a11 ?l11 ?c11 ?k11 ?a12 ?l12 ?c12 ?k12 ?a13 ?l13 ?c13 ?k13 ?a14 ?l14 ?c14 ?k14 ?a15 ?l15 ?c15 ?k15 ?a16 ?l16 ?c16 ?k16 ?a17 ?l17 ?c17 ?k17 ?a18 ?l18 ?c18 ?k18 ?a19 ?l19 ?c19 ?k19 ?a20 ?l20 ?c20 ?k20 ?a21 ?l21 ?c21 ?k21 ?a22 ?l22 ?c22 ?k22 ?a23 ?l23 ?c23 ?k23 ?a24 ?l24 ?c24 ?k24 ?a25 ?l25 ?c25 ?k25 ?a26 ?l26 ?c26 ?k26 ?a27 ?l27 ?c27 ?k27 ?a28 ?l28 ?c28 ?k28 ?a29 ?l29 ?c29 ?k29 ?a30 ?l30 ?c30 ?k30 ?a31 ?l31 ?c31 ?k31 ?a32 ?l32 ?c32 ?k32 ?a33 ?l33 ?c33 ?k33 ?a34 ?l34 ?c34 ?k34 ?a35 ?l35 ?c35 ?k35 ?a36 ?l36 ?c36 ?k36 ?a37 ?l37 ?c37 ?k37 ?a38 ?l38 ?c38 ?k38 ?a39 ?l39 ?c39 ?k39 ?a40 ?l40 ?c40 ?k40 ?a41 ?l41 ?c41 ?k41 ?a42 ?l42 ?c42 ?k42 ?a43 ?l43 ?c43 ?k43 ?a44 ?l44 ?c44 ?k44 ?a45 ?l45 ?c45 ?k45 ?a46 ?l46 ?c46 ?k46 ?a47 ?l47 ?c47 ?k47 ?a48 ?l48 ?c48 ?k48 ?a49 ?l49 ?c49 ?k49 ?a50 ?l50 ?c50 ?k50 ?z0 ?z1 ?z2 ?z3 ?z4 ?z5 ?z6 ?z7 ?z8 ?z9 ?z10 ?z11 ?z12 ?z13 ?z14 ?cg0 ?nh0 ?nh0_0 ?nh0_0_0 ?nh0_0_1 ?nh0_1 ?nh0_1_0 ?nh0_1_1 ?nh0_2 ?nh0_2_0 ?nh0_2_1 ?nh0_3 ?nh0_3_0 ?nh0_3_1 ?cg1
  (case a0=>k_is)
  (case l0=>k_is)
  (case c0=>k_is)
  (case k0=>k_is)
  (case a1=>k_is)
  (case l1=>k_is)
  (case c1=>k_is)
  (case k1=>k_is)
  (case a2=>k_is)
  (case l2=>k_is)
  (case c2=>k_is)
  (case k2=>k_is)
  (case a3=>k_is)
  (case l3=>k_is)
  (case c3=>k_is)
  (case k3=>k_is)
  (case a4=>k_is)
  (case l4=>k_is)
  (case c4=>k_is)
  (case k4=>k_is)
  (case a5=>k_is)
  (case l5=>k_is)
  (case c5=>k_is)
  (case k5=>k_is)
  (case a6=>k_is)
  (case l6=>k_is)
  (case c6=>k_is)
  (case k6=>k_is)
  (case a7=>k_is)
  (case l7=>k_is)
  (case c7=>k_is)
  (case k7=>k_is)
  (case a8=>k_is)
  (case l8=>k_is)
  (case c8=>k_is)
  (case k8=>k_is)
  (case a9=>k_is)
  (case l9=>k_is)
  (case c9=>k_is)
  (case k9=>k_is)
  (case a10=>k_is)
  (case l10=>k_is)
  (case c10=>k_is)
  (case k10=>k_is)
  (case a11=>k_is)
  (case l11=>k_is)
  (case c11=>k_is)
  (case k11=>k_is)
  (case a12=>k_is)
  (case l12=>k_is)
  (case c12=>k_is)
  (case k12=>k_is)
  (case a13=>k_is)
  (case l13=>k_is)
  (case c13=>k_is)
  (case k13=>k_is)
  (case a14=>k_is)
  (case l14=>k_is)
  (case c14=>k_is)
  (case k14=>k_is)
  (case a15=>k_is)
  (case l15=>k_is)
  (case c15=>k_is)
  (case k15=>k_is)
  (case a16=>k_is)
  (case l16=>k_is)
  (case c16=>k_is)
  (case k16=>k_is)
  (case a17=>k_is)
  (case l17=>k_is)
  (case c17=>k_is)
  (case k17=>k_is)
  (case a18=>k_is)
  (case l18=>k_is)
  (case c18=>k_is)
  (case k18=>k_is)
  (case a19=>k_is)
  (case l19=>k_is)
  (case c19=>k_is)
  (case k19=>k_is)
  (case a20=>k_is)
  (case l20=>k_is)
  (case c20=>k_is)
  (case k20=>k_is)
  (case a21=>k_is)
  (case l21=>k_is)
  (case c21=>k_is)
  (case k21=>k_is)
  (case a22=>k_is)
  (case l22=>k_is)
  (case c22=>k_is)
  (case k22=>k_is)
  (case a23=>k_is)
  (case l23=>k_is)
  (case c23=>k_is)
  (case k23=>k_is)
  (case a24=>k_is)
  (case l24=>k_is)
  (case c24=>k_is)
  (case k24=>k_is)
  (case a25=>k_is)
  (case l25=>k_is)
  (case c25=>k_is)
  (case k25=>k_is)
  (case a26=>k_is)
  (case l26=>k_is)
  (case c26=>k_is)
  (case k26=>k_is)
  (case a27=>k_is)
  (case l27=>k_is)
  (case c27=>k_is)
  (case k27=>k_is)
  (case a28=>k_is)
  (case l28=>k_is)
  (case c28=>k_is)
  (case k28=>k_is)
  (case a29=>k_is)
  (case l29=>k_is)
  (case c29=>k_is)
  (case k29=>k_is)
  (case a30=>k_is)
  (case l30=>k_is)
  (case c30=>k_is)
  (case k30=>k_is)
  (case a31=>k_is)
  (case l31=>k_is)
  (case c31=>k_is)
  (case k31=>k_is)
  (case a32=>k_is)
  (case l32=>k_is)
  (case c32=>k_is)
  (case k32=>k_is)
  (case a33=>k_is)
  (case l33=>k_is)
  (case c33=>k_is)
  (case k33=>k_is)
  (case a34=>k_is)
  (case l34=>k_is)
  (case c34=>k_is)
  (case k34=>k_is)
  (case a35=>k_is)
  (case l35=>k_is)
  (case c35=>k_is)
  (case k35=>k_is)
  (case a36=>k_is)
  (case l36=>k_is)
  (case c36=>k_is)
  (case k36=>k_is)
  (case a37=>k_is)
  (case l37=>k_is)
  (case c37=>k_is)
  (case k37=>k_is)
  (case a38=>k_is)
  (case l38=>k_is)
  (case c38=>k_is)
  (case k38=>k_is)
  (case a39=>k_is)
  (case l39=>k_is)
  (case c39=>k_is)
  (case k39=>k_is)
  (case a40=>k_is)
  (case l40=>k_is)
  (case c40=>k_is)
  (case k40=>k_is)
  (case a41=>k_is)
  (case l41=>k_is)
  (case c41=>k_is)
  (case k41=>k_is)
  (case a42=>k_is)
  (case l42=>k_is)
  (case c42=>k_is)
  (case k42=>k_is)
  (case a43=>k_is)
  (case l43=>k_is)
  (case c43=>k_is)
  (case k43=>k_is)
  (case a44=>k_is)
  (case l44=>k_is)
  (case c44=>k_is)
  (case k44=>k_is)
  (case a45=>k_is)
  (case l45=>k_is)
  (case c45=>k_is)
  (case k45=>k_is)
  (case a46=>k_is)
  (case l46=>k_is)
  (case c46=>k_is)
  (case k46=>k_is)
  (case a47=>k_is)
  (case l47=>k_is)
  (case c47=>k_is)
  (case k47=>k_is)
  (case a48=>k_is)
  (case l48=>k_is)
  (case c48=>k_is)
  (case k48=>k_is)
  (case a49=>k_is)
  (case l49=>k_is)
  (case c49=>k_is)
  (case k49=>k_is)
  (case a50=>k_is)
  (case l50=>k_is)
  (case c50=>k_is)
  (case k50=>k_is)
  (case z0=>k_is)
  (case z1=>k_is)
  (case z2=>k_is)
  (case z3=>k_is)
  (case z4=>k_is)
  (case z5=>k_is)
  (case z6=>k_is)
  (case z7=>k_is)
  (case z8=>k_is)
  (case z9=>k_is)
  (case z10=>k_is)
  (case z11=>k_is)
  (case z12=>k_is)
  (case z13=>k_is)
  (case z14=>k_is)
  (case cg0=>k_is)
  (case nh0=>k_is)
  (case nh0_0=>k_is)
  (case nh0_0_0=>k_is)
  (case nh0_0_1=>k_is)
  (case nh0_1=>k_is)
  (case nh0_1_0=>k_is)
  (case nh0_1_1=>k_is)
  (case nh0_2=>k_is)
  (case nh0_2_0=>k_is)
  (case nh0_2_1=>k_is)
  (case nh0_3=>k_is)
  (case nh0_3_0=>k_is)
  (case nh0_3_1=>k_is)
  (case cg1=>k_is)
