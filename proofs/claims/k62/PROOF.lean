import PyProof.Rows.All
import Wide.All
import OpenK.AllK
import Wide.FinOn
import Lean
import PyProof.EqAt
import PyProof.EqKinds
import PyProof.TupleCall
import PySem.Challenge.RW_oathduel_k62_bad_steps
set_option Elab.async false
set_option linter.all false
set_option maxRecDepth 100000
namespace L2
open PySem PySem.Spec PyProof.Rows
abbrev bG:=Sum Int Str
def gC:bG->Value->Bool
 |.inl k,v=>Value.isInt k v
 |.inr x,v=>Value.isStrOf x v
def ve (w:World):bG->Int
 |.inl k=>hashInt k
 |.inr x=>hashStr w x
theorem bA:∀ {k:bG} {v:Value},gC k v=true->(∃ i t,k=Sum.inl i/\v=Value.int i t)\/(∃ x t,k=Sum.inr x/\v=Value.str x t)
 |.inl i,v,h=>by
  obtain⟨t,e⟩:=Value.isInt_shape (k:=i) (v:=v) h
  exact .inl ⟨i,t,rfl,e⟩
 |.inr x,v,h=>by
  obtain⟨t,e⟩:=Value.isStrOf_shape (x:=x) (v:=v) h
  exact .inr ⟨x,t,rfl,e⟩
theorem lY (i:Int)(t:Tok):gC (.inl i) (.int i t)=true:=by simp [gC,Value.isInt]
theorem lZ (x:Str)(t:Tok):gC (.inr x) (.str x t)=true:=by simp [gC,Value.isStrOf]
theorem sf (a b:Int):decide ((Sum.inl a:bG)=Sum.inl b)=(a == b):=by
 by_cases e:a=b
 ·subst e;simp
 ·have h:¬ (Sum.inl a:bG)=Sum.inl b:=fun q=>e (Sum.inl.inj q)
  rw[decide_eq_false h]
  exact (beq_eq_false_iff_ne.mpr e).symm
theorem sh (a b:Str):decide ((Sum.inr a:bG)=Sum.inr b)=decide (a=b):=by
 by_cases e:a=b
 ·subst e;simp
 ·have h:¬ (Sum.inr a:bG)=Sum.inr b:=fun q=>e (Sum.inr.inj q)
  rw[decide_eq_false h,decide_eq_false e]
theorem si (a:Int)(b:Str):decide ((Sum.inl a:bG)=Sum.inr b)=false:=decide_eq_false (fun q=>nomatch q)
theorem sj (a:Str)(b:Int):decide ((Sum.inr a:bG)=Sum.inl b)=false:=decide_eq_false (fun q=>nomatch q)
def br (prog:Program)(w:World):PySem.KeyKind prog w bG where
 is:=gC
 hash:=ve w
 inj:=fun v a b ha hb=>by
  rcases bA ha with⟨i,t,rfl,rfl⟩|⟨x,t,rfl,rfl⟩
  ·rcases bA hb with⟨j,u,rfl,e⟩|⟨y,u,rfl,e⟩
   ·injection e with e1 _;rw[e1]
   ·exact nomatch e
  ·rcases bA hb with⟨j,u,rfl,e⟩|⟨y,u,rfl,e⟩
   ·exact nomatch e
   ·injection e with e1 _;rw[e1]
 byValue:=fun k v h=>by
  rcases bA h with⟨i,t,rfl,rfl⟩|⟨x,t,rfl,rfl⟩<;>rfl
 pyHash:=fun hv h=>by
  rcases bA hv with⟨i,t,rfl,rfl⟩|⟨x,t,rfl,rfl⟩
  ·exact wpAny_pyHash_int h
  ·exact wpAny_pyHash_str h
 eqBool:=fun hu hv h=>by
  rcases bA hu with⟨i,t,rfl,rfl⟩|⟨x,t,rfl,rfl⟩
  ·rcases bA hv with⟨j,u,rfl,rfl⟩|⟨y,u,rfl,rfl⟩
   ·rw[sf] at h;exact wpAny_eqBool_int h
   ·rw[si] at h;exact SeqAt.EqAt.int_str i t y u _ _ _ _ h
  ·rcases bA hv with⟨j,u,rfl,rfl⟩|⟨y,u,rfl,rfl⟩
   ·rw[sj] at h;exact SeqAt.EqAt.str_int x t j u _ _ _ _ h
   ·rw[sh] at h;exact wpAny_eqBool_str h
 «strs»:=fun k x t v h=>by
  rcases bA h with⟨i,u,rfl,e⟩|⟨y,u,rfl,e⟩
  ·exact nomatch e
  ·injection e with e1 _
   subst e1
   cases v<;>rfl
theorem iR (prog:Program)(w:World)(i:Int)(t:Tok):(br prog w).is (.inl i) (.int i t)=true:=lY i t
theorem iS (prog:Program)(w:World)(x:Str)(t:Tok):(br prog w).is (.inr x) (.str x t)=true:=lZ x t
end L2
namespace L2
open PySem PySem.Spec PyProof.Rows
inductive V where
 |non|bl (b:Bool)|int (i:Int)|str (x:Str)|byt (b:Array UInt8)|flt (b:UInt64)|ref (a:Addr)|ty (n:String)
 deriving DecidableEq
def RelV:V->Value->Prop
 |.non,u=>u=Value.none
 |.bl b,u=>u=Value.bool b
 |.int i,u=>∃ t,u=Value.int i t
 |.str x,u=>∃ t,u=Value.str x t
 |.byt b,u=>∃ t,u=Value.bytes b t
 |.flt b,u=>∃ t,u=Value.float b t
 |.ref a,u=>u=Value.ref a
 |.ty n,u=>u=Value.type n
abbrev Vals:List V->List Value->Prop:=Paired RelV
theorem Vals.length {xs:List V}{us:List Value}(r:Vals xs us):xs.length=us.length:=Paired.length r
theorem Vals.get:∀ {xs:List V} {us:List Value} {i:Nat} {x:V},Vals xs us->xs[i]? =some x->∃ u,us[i]? =some u/\RelV x u
 |_,_,_,_,.nil,e=>by simp at e
 |_,_,0,_,.cons r _,e=>by simp at e;subst e;exact⟨_,rfl,r⟩
 |_,_,i+1,x,.cons _ t,e=>by
  obtain⟨u,h1,h2⟩:=Vals.get (i:=i) (x:=x) t (by simpa using e)
  exact⟨u,by simpa using h1,h2⟩
theorem Vals.append:∀ {xs ys:List V} {us ws:List Value},Vals xs us->Vals ys ws->Vals (xs++ys) (us++ws)
 |_,_,_,_,.nil,s=>s
 |_,_,_,_,.cons r t,s=>.cons r (Vals.append t s)
theorem Vals.take:∀ {xs:List V} {us:List Value} (n:Nat),Vals xs us->Vals (xs.take n) (us.take n)
 |_,_,0,_=>.nil
 |_,_,_+1,.nil=>.nil
 |_,_,n+1,.cons r t=>.cons r (Vals.take n t)
theorem Vals.drop:∀ {xs:List V} {us:List Value} (n:Nat),Vals xs us->Vals (xs.drop n) (us.drop n)
 |_,_,0,r=>r
 |_,_,_+1,.nil=>.nil
 |_,_,n+1,.cons _ t=>Vals.drop n t
theorem Vals.none_of:∀ {xs:List V} {us:List Value} {i:Nat},Vals xs us->xs[i]? =none->us[i]? =none:=fun {xs us i} r e=>by
 have h1:=r.length
 have h2:xs.length<=i:=List.getElem?_eq_none_iff.mp e
 exact List.getElem?_eq_none_iff.mpr (by omega)
def RelO:Option V->Option Value->Prop
 |some v,some u=>RelV v u
 |none,none=>True
 |_,_=>False
def KV {κ:Type}:List (κ×V)->List (κ×Value)->Prop:=Paired fun (p:κ×V) (q:κ×Value)=>p.1=q.1/\RelV p.2 q.2
def kV:bG->V
 |.inl i=>.int i
 |.inr x=>.str x
inductive HO where
 |lst (xs:List V)
 |tup (xs:List V)
 |dK (kvs:List (bG×V))|dT (kvs:List (List bG×V))
 |set (S:Int->Bool) (n:Nat)
 |ins (C dx:Addr) (fs:List (Str×V))
 |own (x:Addr)
 |xd (fs:List (Str×V))
 |met (f x:Addr)
 |rng (lo hi:Int)
 |frz (o:Obj) (u:HO)
 |tbl (ps:Array Value)
 |ext (φ:Heap->Prop)
abbrev Hp:=Addr->Option HO
def upd (H:Hp)(a:Addr)(o:HO):Hp:=fun b=>if b=a then some o else H b
theorem ad {H:Hp}{a:Addr}{o:HO}:upd H a o a=some o:=by unfold upd;rw[if_pos rfl]
theorem ay {H:Hp}{a b:Addr}{o:HO}(h:b≠a):upd H a o b=H b:=by unfold upd;rw[if_neg h]
theorem fA {H:Hp}{a:Addr}{o u:HO}:upd (upd H a o) a u=upd H a u:=by
 funext b;unfold upd;split<;>rfl
theorem re {H:Hp}{a b:Addr}{o u:HO}(h:H a=some o)(h':H b=some u)(d:o≠u):a≠b:=by
 intro e;subst e;rw[h] at h';exact d (Option.some.inj h')
theorem am {H:Hp}{a b:Addr}{o:HO}(h:H a=some o)(h':H b=none):a≠b:=by
 intro e;subst e;rw[h] at h';cases h'
section
variable (P:Program)(w:World)
def ObjOk (H:Hp)(h:Heap)(a:Addr):HO->Prop
 |.lst xs=>xs.length<=sizeLine/\∃ (its:List Value) (n:Nat),Vals xs its/\h.get? a=some {cls:=.type "list",data:=.seq its.toArray n}
 |.tup xs=>xs.length<=sizeLine/\∃ its:List Value,Vals xs its/\IsTup h a its.toArray
 |.dK kvs=>kvs.length<=sizeLine/\(a == sysModules)=false/\∃ vs,KV kvs vs/\h.DictOf (br P w) a vs
 |.dT kvs=>kvs.length<=sizeLine/\(a == sysModules)=false/\∃ xs:List (List bG×Addr×Value),
   Paired (fun (p:List bG×V) (q:List bG×Addr×Value)=>p.1=q.1/\H q.2.1=some (.tup (p.1.map kV))/\RelV p.2 q.2.2) kvs xs/\
   ∃ o es ep,h.get? a=some o/\o.ExactDict/\o.data=.dict es ep/\es.toList=xs.map (entryOfKey (tupleKind (br P w)))/\(xs.map (·.1)).Nodup
 |.set S n=>h.SetOf (intKind P w) a S n
 |.ins C dx fs=>H dx=some (.own a)/\fs.length<=1000/\dx≠a/\h.get? a=some (PySem.W.instObj C dx)/\
   ∃ mA,h.Ns1 dx mA/\(∀ f,RelO (fs.lookup f) (mA f))/\PySem.Within mA (fs.map (·.1))
 |.own _=>∃ o,h.get? a=some o
 |.xd fs=>∃ mA,h.Ns1 a mA/\∀ f,RelO (fs.lookup f) (mA f)
 |.rng lo hi=>∃ t u v,h.get? a=some {cls:=.type "range",data:=.fields #[.int lo t,.int hi u,.int 1 v]}
 |.frz o u=>h.get? a=some o/\ObjOk H h a u
 |.tbl ps=>h.get? a=some {cls:=.none,data:=.fields ps}
 |.met f x=>h.get? a=some (PySem.W.methodObj (.ref f) (.ref x))
 |.ext φ=>φ h/\(∃ o,h.get? a=some o)/\∀ h1 h2:Heap,φ h1->(∀ o,h1.get? a=some o->h2.get? a=some o)->φ h2
def HOk (H:Hp)(h:Heap):Prop:=∀ a o,H a=some o->ObjOk P w H h a o
end
section
variable {P:Program}{w:World}{H H':Hp}{h h':Heap}{a:Addr}{o:HO}
theorem ObjOk.lt (x:ObjOk P w H h a o):a < h.objs.size:=by
 cases o with
 |lst xs=>obtain⟨_,_,_,_,e⟩:=x;exact Heap.lt_size e
 |tup xs=>obtain⟨_,_,_,p⟩:=x;exact p.lt
 |dK kvs=>obtain⟨_,_,_,_,o,_,_,e,_⟩:=x;exact Heap.lt_size e
 |dT kvs=>obtain⟨_,_,_,_,o,_,_,e,_⟩:=x;exact Heap.lt_size e
 |set S n=>obtain⟨o,_,_,_,e,_⟩:=x;exact Heap.lt_size e
 |ins C dx fs=>obtain⟨_,_,_,e,_⟩:=x;exact Heap.lt_size e
 |own y=>obtain⟨_,e⟩:=x;exact Heap.lt_size e
 |xd fs=>obtain⟨_,⟨_,_,_,e,_⟩,_⟩:=x;exact Heap.lt_size e
 |rng lo hi=>obtain⟨_,_,_,e⟩:=x;exact Heap.lt_size e
 |frz ob u=>obtain⟨e,_⟩:=x;exact Heap.lt_size e
 |tbl ps=>exact Heap.lt_size (show h.get? a=some _ from x)
 |met f y=>exact Heap.lt_size (show h.get? a=some _ from x)
 |ext φ=>obtain⟨_,⟨_,e⟩,_⟩:=x;exact Heap.lt_size e
theorem Paired.mapP {α β:Type}{F G:α->β->Prop}:∀ {l₁:List α} {l₂:List β},Paired F l₁ l₂->(∀ a b,F a b->G a b)->Paired G l₁ l₂
 |_,_,.nil,_=>.nil
 |_,_,.cons r t,f=>.cons (f _ _ r) (Paired.mapP t f)
theorem ObjOk.stay (x:ObjOk P w H h a o)(k:∀ b u,(b=a\/H b=some (.own a))->h.get? b=some u->h'.get? b=some u)
  (ho:∀ b,H b=some (.own a)->H' b=some (.own a)) (ht:∀ b xs,H b=some (.tup xs)->H' b=some (.tup xs)):ObjOk P w H' h' a o:=by
 induction o with
 |lst xs=>obtain⟨z,its,n,r,e⟩:=x;exact⟨z,its,n,r,k _ _ (.inl rfl) e⟩
 |tup xs=>obtain⟨z,its,r,ob,e,c⟩:=x;exact⟨z,its,r,ob,k _ _ (.inl rfl) e,c⟩
 |dK kvs=>obtain⟨z,y,vs,r,ob,es,ep,e,c⟩:=x;exact⟨z,y,vs,r,ob,es,ep,k _ _ (.inl rfl) e,c⟩
 |dT kvs=>
  obtain⟨z,y,xs,r,ob,es,ep,e,c⟩:=x
  exact⟨z,y,xs,Paired.mapP r fun p q z=>⟨z.1,ht _ _ z.2.1,z.2.2⟩,ob,es,ep,k _ _ (.inl rfl) e,c⟩
 |set S n=>obtain⟨ob,es,ep,t,e,c⟩:=x;exact⟨ob,es,ep,t,k _ _ (.inl rfl) e,c⟩
 |ins C dx fs=>
  obtain⟨d,z,ne,e,mA,⟨od,es,ep,e2,c⟩,r⟩:=x
  exact⟨ho _ d,z,ne,k _ _ (.inl rfl) e,mA,⟨od,es,ep,k _ _ (.inr d) e2,c⟩,r⟩
 |own y=>obtain⟨ob,e⟩:=x;exact⟨ob,k _ _ (.inl rfl) e⟩
 |xd fs=>obtain⟨mA,⟨od,es,ep,e,c⟩,r⟩:=x;exact⟨mA,⟨od,es,ep,k _ _ (.inl rfl) e,c⟩,r⟩
 |rng lo hi=>obtain⟨t,u,v,e⟩:=x;exact⟨t,u,v,k _ _ (.inl rfl) e⟩
 |frz ob u ih=>obtain⟨e,q⟩:=x;exact⟨k _ _ (.inl rfl) e,ih q⟩
 |tbl ps=>
  have e:h.get? a=some {cls:=.none,data:=.fields ps}:=x
  show h'.get? a=some {cls:=.none,data:=.fields ps}
  exact k a _ (.inl rfl) e
 |met f y=>
  have e:h.get? a=some (PySem.W.methodObj (.ref f) (.ref y)):=x
  show h'.get? a=some (PySem.W.methodObj (.ref f) (.ref y))
  exact k a _ (.inl rfl) e
 |ext φ=>obtain⟨p,⟨o,e⟩,st⟩:=x;exact⟨st _ _ p fun o q=>k _ _ (.inl rfl) q,⟨o,k _ _ (.inl rfl) e⟩,st⟩
theorem HOk.lt (x:HOk P w H h)(e:H a=some o):a < h.objs.size:=(x a o e).lt
theorem HOk.fresh (x:HOk P w H h)(e:h.objs.size<=a):H a=none:=by
 cases q:H a with
 |none=>rfl
 |some u=>exact absurd (Nat.lt_of_lt_of_le (x.lt q) e) (Nat.lt_irrefl _)
theorem HOk.kept (x:HOk P w H h)(k:∀ b u,h.get? b=some u->h'.get? b=some u):HOk P w H h':=fun a o e=>
 (x a o e).stay (fun b u _ q=>k b u q) (fun _ q=>q) fun _ _ q=>q
theorem HOk.laid (x:HOk P w H h)(k:∀ b u,h.get? b=some u->h'.get? b=some u)(hp:h.objs.size<=a)(new:ObjOk P w (upd H a o) h' a o):HOk P w (upd H a o) h':=fun b u e=>by
 have hn:=x.fresh hp
 by_cases hb:b=a
 ·subst hb;rw[ad] at e;cases e;exact new
 ·rw[ay hb] at e
  exact (x b u e).stay (fun c v _ q=>k c v q) (fun c q=>by rw[ay (am q hn)];exact q) fun c xs q=>by rw[ay (am q hn)];exact q
end
def Rd (H:Hp)(a:Addr)(u:HO):Prop:=H a=some u\/∃ o,H a=some (.frz o u)
theorem Rd.ok {P:Program}{w:World}{H:Hp}{h:Heap}{a:Addr}{u:HO}(r:Rd H a u)(x:HOk P w H h):ObjOk P w H h a u:=by
 rcases r with r|⟨o,r⟩
 ·exact x a u r
 ·obtain⟨_,q⟩:=x a _ r
  exact q
def t0:Option HO->Prop
 |some (.lst _)=>True
 |some (.dK _)=>True
 |some (.dT _)=>True
 |some (.set _ _)=>True
 |some (.ins _ _ _)=>True
 |some (.ext _)=>True
 |_=>False
section
variable {P:Program}{w:World}{H:Hp}{h h':Heap}{x e:Addr}{o':HO}
theorem HOk.write (ok:HOk P w H h)(mu:t0 (H x))(he:e=x\/H e=some (.own x))(k:∀ b u,b≠e->h.get? b=some u->h'.get? b=some u)(heo:∃ u,h'.get? e=some u)
  (new:ObjOk P w (upd H x o') h' x o'):HOk P w (upd H x o') h':=fun b u q=>by
 have nown:∀ c y,H c=some (.own y)->c≠x:=fun c y r z=>by subst z;rw[r] at mu;exact mu
 have ntup:∀ c xs,H c=some (.tup xs)->c≠x:=fun c xs r z=>by subst z;rw[r] at mu;exact mu
 by_cases hb:b=x
 ·subst hb;rw[ad] at q;cases q;exact new
 ·rw[ay hb] at q
  by_cases hbe:b=e
  ·have q':H b=some (.own x):=by
    rcases he with z|z
    ·exact absurd (hbe.trans z) hb
    ·rw[hbe];exact z
   rw[q] at q';cases q'
   obtain⟨v,hv⟩:=heo
   exact⟨v,by rw[hbe];exact hv⟩
  ·refine (ok b u q).stay (fun c v hc r=>k c v ?_ r) (fun c r=>by rw[ay (nown c b r)];exact r) fun c xs r=>by rw[ay (ntup c xs r)];exact r
   rcases hc with rfl|hc
   ·exact hbe
   ·rintro rfl
    rcases he with z|z
    ·exact nown c b hc z
    ·rw[hc] at z;cases z;exact hb rfl
end
structure Un (fs ex:List Addr)(H H':Hp)(h h':Heap):Prop where
 keep:∀ b o,h.get? b=some o->H b=none->b∉fs->b∉ex->h'.get? b=some o
 slot:∀ b o,h.get? b=some o->H b=none->b∈fs->b∉ex->∃ sl,h'.get? b=some {o with slots:=sl}
 free:∀ b o,h.get? b=some o->H b=none->b∉ex->H' b=none
 there:∀ b o,h.get? b=some o->b∉ex->∃ o',h'.get? b=some o'
 tups:∀ b xs,H b=some (.tup xs)->H' b=some (.tup xs)
 frzs:∀ b o u,H b=some (.frz o u)->H' b=some (.frz o u)
 tbls:∀ b ps,H b=some (.tbl ps)->∃ more,H' b=some (.tbl (ps++more))
section
variable {fs fs' ex ex':List Addr}{H H1 H2:Hp}{h h1 h2 h':Heap}{a x e:Addr}{o:HO}
theorem Un.any (u:Un fs ex H H1 h h1){b:Addr}{ob:Obj}(q:h.get? b=some ob)(n:H b=none)(hx:b∉ex):∃ sl,h1.get? b=some {ob with slots:=sl}:=by
 by_cases hb:b∈fs
 ·exact u.slot b ob q n hb hx
 ·exact⟨ob.slots,u.keep b ob q n hb hx⟩
theorem Un.kept (k:∀ b u,h.get? b=some u->h'.get? b=some u):Un fs ex H H h h':=
 ⟨fun b ob q _ _ _=>k b ob q,fun b ob q _ _ _=>⟨ob.slots,k b ob q⟩,fun _ _ _ n _=>n,fun b ob q _=>⟨ob,k b ob q⟩,fun _ _ q=>q,fun _ _ _ q=>q,fun _ ps q=>⟨#[],by rw[q];simp⟩⟩
theorem Un.refl:Un fs ex H H h h:=Un.kept fun _ _ q=>q
theorem Un.laid (k:∀ b u,h.get? b=some u->h'.get? b=some u)(hp:h.objs.size<=a)(hn:H a=none):Un fs ex H (upd H a o) h h' where
 keep:=fun b u q _ _ _=>k b u q
 slot:=fun b u q _ _ _=>⟨u.slots,k b u q⟩
 free:=fun b u q n _=>by rw[ay (Nat.ne_of_lt (Nat.lt_of_lt_of_le (Heap.lt_size q) hp))];exact n
 there:=fun b u q _=>⟨u,k b u q⟩
 tups:=fun b xs q=>by rw[ay (am q hn)];exact q
 frzs:=fun b u xs q=>by rw[ay (am q hn)];exact q
 tbls:=fun b ps q=>⟨#[],by rw[ay (am q hn),q];simp⟩
theorem Un.write (mu:t0 (H x))(he:e=x\/H e=some (.own x))(k:∀ b u,b≠e->h.get? b=some u->h'.get? b=some u)(heo:∃ u,h'.get? e=some u):Un fs ex H (upd H x o) h h':=by
 have hx:∀ b,H b=none->b≠x:=fun b n z=>by subst z;rw[n] at mu;exact mu
 have hb:∀ b,H b=none->b≠e:=fun b n z=>by
  subst z
  rcases he with r|r
  ·exact hx b n r
  ·rw[n] at r;cases r
 have hm:∀ b u,H b=some u->¬ t0 (some u)->b≠x:=fun b u q nm z=>by subst z;rw[q] at mu;exact nm mu
 refine⟨fun b u q n _ _=>k b u (hb b n) q,fun b u q n _ _=>⟨u.slots,k b u (hb b n) q⟩,fun b u q n _=>by rw[ay (hx b n)];exact n,fun b u q _=>?_,
  fun b xs q=>by rw[ay (hm b _ q fun z=>z)];exact q,fun b u xs q=>by rw[ay (hm b _ q fun z=>z)];exact q,fun b ps q=>⟨#[],by rw[ay (hm b _ q fun z=>z),q];simp⟩⟩
 by_cases hbe:b=e
 ·subst hbe;exact heo
 ·exact⟨u,k b u hbe q⟩
end
def u4 (h:Heap)(H:Hp):List Addr:=(List.range h.objs.size).filter fun a=>(H a).isSome
def h_ (h:Heap)(H:Hp):Heap:=PySem.W.hideAll h (u4 h H)
theorem l8 (h:Heap)(H:Hp):(h_ h H).objs.size=h.objs.size:=PySem.W.hideAll_size _ _
theorem m9 {h:Heap}{H:Hp}{b:Addr}{o:Obj}(e:h.get? b=some o)(n:H b=none):(h_ h H).get? b=some o:=
 PySem.W.hideAll_get _ e fun hm=>by
  have q:(H b).isSome=true:=(List.mem_filter.mp hm).2
  rw[n] at q;simp at q
theorem pW {h:Heap}{H:Hp}{b:Addr}{o:Obj}(e:(h_ h H).get? b=some o):h.get? b=some o/\H b=none:=by
 have e':h.get? b=some o:=PySem.W.of_hideAll (u4 h H) e
 refine⟨e',?_⟩
 cases q:H b with
 |none=>rfl
 |some x=>
  have hm:b∈u4 h H:=List.mem_filter.mpr ⟨List.mem_range.mpr (Heap.lt_size e'),by simp [q]⟩
  have z:(h_ h H).get? b=none:=PySem.W.hideAll_none (u4 h H) hm
  rw[z] at e;cases e
end L2
namespace L2
open PySem PySem.Spec PyProof.Rows
structure Mod (K:PySem.W.Frag)(mg:Str->Option Value)(base:Heap):Prop where
 kin:K.In base
 glob:base.Ns mainGlobals mg
 blt:∃ mb,base.Ns builtinsNs mb/\∀ x:Str,x≠"__name__"->mb x=bootBuiltins x
 nolimit:base.NoLimit
structure Cx where
 prog:Program
 w:World
 K:PySem.W.Frag
 mg:Str->Option Value
 base:Heap
 A:Around
 N:List Str
 s₀:Shared
 H₀:Hp
 env:Env
 outer:List Env
 stack:List Env
 ex:List Addr
 fn:Str->Bool
 calm:Bool
 pn:List (Addr×Obj)
 xe:Value->Shared->Prop
def dR (l:List Env):List Addr:=l.filterMap (·.frame)
abbrev Cx.fs (X:Cx):List Addr:=dR X.outer
def vf (sc:Scope)(x:Str):Prop:=sc.names.lookup x=some .local\/sc.names.lookup x=some .cell\/sc.names.lookup x=some .free
def u5 (sc:Scope)(x:Str):Prop:=sc.names.lookup x=some .local\/sc.names.lookup x=some .cell
def vg (env:Env)(h:Heap)(m:Str->Option Value)(x:Str)(u:Value):Prop:=
 (env.kindOf x=some .local/\m x=some u)\/((env.kindOf x=some .cell\/env.kindOf x=some .free)/\∃ c,env.cells.lookup x=some c/\h.IsCell c (some u))
structure Cx.Ok (X:Cx):Prop where
 mod:Mod X.K X.mg X.base
 kind:X.env.scope.kind=.function
 glob:X.env.globals=mainGlobals
 blt:X.env.builtins=builtinsNs
 above:X.s₀.heap.objs.size<=X.env.locals
 inj:∀ x y c,X.env.cells.lookup x=some c->X.env.cells.lookup y=some c->x=y
 has:∀ x,(X.env.kindOf x=some .cell\/X.env.kindOf x=some .free)->∃ c,X.env.cells.lookup x=some c
 cab:∀ x c,X.fn x=true->X.env.cells.lookup x=some c->X.s₀.heap.objs.size<=c
 hd:X.calm=true->X.A.handled=none
 frames:X.A.frames=some X.stack
 stk:X.stack=X.outer\/(X.stack=X.env::X.outer/\X.env.frame=some X.env.locals)
 exf:∀ b∈X.ex,b≠X.env.locals/\∀ x c,X.env.cells.lookup x=some c->c≠b
 bs:∀ b o,X.base.get? b=some o->X.s₀.heap.get? b=some o/\X.H₀ b=none
 bsz:X.base.objs.size<=X.s₀.heap.objs.size
 noex:∀ b o,X.base.get? b=some o->b∉X.ex
 exfs:∀ b∈X.ex,b∉X.fs
 funs:X.s₀.heap.FunFrames X.base X.outer
 frf:∀ b∈X.fs,X.H₀ b=none
structure Inv (X:Cx)(pins:List (Addr×Obj))(σ:List (Option V))(H:Hp)(s:Shared):Prop where
 ok:X.Ok
 os:s.os=X.s₀.os
 bare:AllBare s.gens
 base:Un X.fs X.ex X.H₀ H X.s₀.heap s.heap
 loc:∃ m,s.heap.Ns X.env.locals m/\∀ (i:Nat) (x:Str) (v:V),X.N[i]? =some x->σ[i]? =some (some v)->vf X.env.scope x->∃ u,RelV v u/\vg X.env s.heap m x u
 cell:∀ x c,X.env.cells.lookup x=some c->∃ v,s.heap.IsCell c v
 free:H X.env.locals=none
 freeC:∀ x c,X.env.cells.lookup x=some c->H c=none
 pin:∀ p∈X.pn++pins,s.heap.get? p.1=some p.2/\H p.1=none/\p.1≠X.env.locals/\p.1∉X.fs/\∀ v,p.2.data≠.cell v
 hok:HOk X.prog X.w H s.heap
 len:σ.length=X.N.length
section
variable {X:Cx}{pins:List (Addr×Obj)}{σ:List (Option V)}{H H':Hp}{s:Shared}{h':Heap}
theorem Cx.Ok.nofr (ok:X.Ok){b:Addr}{o:Obj}(e:X.base.get? b=some o):b∉X.fs:=fun hb=>by
 have:=(ok.funs.mem hb).1
 rw[e] at this;cases this
theorem Inv.bs (I:Inv X pins σ H s):∀ b o,X.base.get? b=some o->s.heap.get? b=some o/\H b=none:=fun b o e=>
 ⟨I.base.keep b o (I.ok.bs b o e).1 (I.ok.bs b o e).2 (I.ok.nofr e) (I.ok.noex b o e),I.base.free b o (I.ok.bs b o e).1 (I.ok.bs b o e).2 (I.ok.noex b o e)⟩
theorem Inv.bk (I:Inv X pins σ H s):∀ b o,X.base.get? b=some o->s.heap.get? b=some o:=fun b o e=>(I.bs b o e).1
theorem Inv.mod (I:Inv X pins σ H s):Mod X.K X.mg X.base:=I.ok.mod
theorem Inv.kIn (I:Inv X pins σ H s):X.K.In s.heap:=I.ok.mod.kin.keeps I.bk
theorem Inv.lt (I:Inv X pins σ H s):X.env.locals < s.heap.objs.size:=let ⟨_,hn,_⟩:=I.loc;hn.lt
theorem Inv.sz (I:Inv X pins σ H s):X.s₀.heap.objs.size<=s.heap.objs.size:=Nat.le_trans I.ok.above (Nat.le_of_lt I.lt)
theorem Inv.nofs (I:Inv X pins σ H s){a:Addr}(h:s.heap.objs.size<=a):a∉X.fs:=fun hb=>by
 obtain⟨_,o,ho,_⟩:=I.ok.funs.mem hb
 exact absurd (Nat.lt_of_lt_of_le (Heap.lt_size ho) (Nat.le_trans I.sz h)) (Nat.lt_irrefl _)
theorem Inv.cne (I:Inv X pins σ H s):∀ x c,X.env.cells.lookup x=some c->c≠X.env.locals:=fun x c e z=>by
 obtain⟨v,o,ho,hd⟩:=I.cell x c e
 obtain⟨m,⟨o',es,ep,ho',hd',_⟩,_⟩:=I.loc
 rw[z,ho'] at ho;cases ho;rw[hd'] at hd;cases hd
theorem Inv.funs (I:Inv X pins σ H s):s.heap.FunFrames X.base X.outer:=by
 have all:∀ (l:List Env),(∀ b∈dR l,b∈X.fs)->X.s₀.heap.FunFrames X.base l->s.heap.FunFrames X.base l:=by
  intro l
  induction l with
  |nil=>intro _ _;trivial
  |cons env r ih=>
   intro hs hl
   obtain⟨hk,⟨L,o,hf,hn,ho,hd⟩,hr⟩:=hl
   have hL:L∈X.fs:=hs L (by unfold dR;rw[List.filterMap_cons,hf];exact List.mem_cons_self)
   obtain⟨sl,e⟩:=I.base.slot L o ho (I.ok.frf L hL) hL fun z=>I.ok.exfs L z hL
   exact⟨hk,⟨L,_,hf,hn,e,hd⟩,ih (fun b hb=>hs b (by unfold dR;rw[List.filterMap_cons,hf];exact List.mem_cons_of_mem _ hb)) hr⟩
 exact all X.outer (fun _ hb=>hb) I.ok.funs
theorem Inv.stack (I:Inv X pins σ H s):s.heap.FunFrames X.base X.stack:=by
 rcases I.ok.stk with e|⟨e,hf⟩
 ·rw[e];exact I.funs
 ·rw[e]
  obtain⟨m,hn,_⟩:=I.loc
  refine .cons (by rw[I.ok.kind];decide) hf hn ?_ I.funs
  exact Heap.get?_none_of_le (Nat.le_trans I.ok.bsz I.ok.above)
theorem Inv.stkSub (I:Inv X pins σ H s):∀ b∈dR X.stack,b∈X.env.locals::X.fs:=fun b hb=>by
 rcases I.ok.stk with e|⟨e,hf⟩
 ·rw[e] at hb;exact List.mem_cons_of_mem _ hb
 ·rw[e] at hb
  unfold dR at hb
  rw[List.filterMap_cons,hf] at hb
  exact hb
theorem Inv.stkFree (I:Inv X pins σ H s):∀ b∈dR X.stack,H b=none:=fun b hb=>by
 rcases List.mem_cons.mp (I.stkSub b hb) with e|hb
 ·rw[e];exact I.free
 ·obtain⟨_,o,ho,_⟩:=I.ok.funs.mem hb
  exact I.base.free b o ho (I.ok.frf b hb) fun z=>I.ok.exfs b z hb
theorem Inv.step {g':Array GenState}{t':Nat}{d':Drawn}{ch:List Addr}(I:Inv X pins σ H s)
  (hch:∀ b∈ch,(b∈X.ex\/X.s₀.heap.objs.size<=b)/\b≠X.env.locals/\(∀ x c,X.env.cells.lookup x=some c->c≠b)/\∀ p∈X.pn++pins,p.1≠b)
  (keep:∀ b o,b≠X.env.locals->b∉X.fs->b∉ch->s.heap.get? b=some o->H b=none->h'.get? b=some o)
  (slot:∀ b o,b≠X.env.locals->b∈X.fs->b∉ch->s.heap.get? b=some o->H b=none->∃ sl,h'.get? b=some {o with slots:=sl}) (free:∀ b o,b∉ch->s.heap.get? b=some o->H b=none->H' b=none)
  (there:∀ b o,b∉ch->s.heap.get? b=some o->∃ o',h'.get? b=some o')
  (tups:∀ b xs,H b=some (.tup xs)->H' b=some (.tup xs)) (frzs:∀ b o u,H b=some (.frz o u)->H' b=some (.frz o u)) (tbls:∀ b ps,H b=some (.tbl ps)->∃ more,H' b=some (.tbl (ps++more)))
  (ns:∀ m,s.heap.Ns X.env.locals m->h'.Ns X.env.locals m) (hok:HOk X.prog X.w H' h') (hg:AllBare g'):
  Inv X pins σ H' {s with heap:=h',gens:=g',drawn:=d',toks:=t'}:=by
 have neL:∀ b o,X.s₀.heap.get? b=some o->b≠X.env.locals:=fun b o e=>Nat.ne_of_lt (Nat.lt_of_lt_of_le (Heap.lt_size e) I.ok.above)
 have neC:∀ b o,X.s₀.heap.get? b=some o->b∉X.ex->b∉ch:=fun b o e hx hb=>by
  rcases (hch b hb).1 with z|z
  ·exact hx z
  ·exact absurd (Nat.lt_of_lt_of_le (Heap.lt_size e) z) (Nat.lt_irrefl _)
 have cellK:∀ x c,X.env.cells.lookup x=some c->∀ v,s.heap.IsCell c v->h'.IsCell c v:=fun x c e v ⟨o,ho,hd⟩=>by
  have nch:c∉ch:=fun z=>(hch c z).2.2.1 x c e rfl
  by_cases hc:c∈X.fs
  ·obtain⟨sl,q⟩:=slot c o (I.cne x c e) hc nch ho (I.freeC x c e)
   exact⟨_,q,hd⟩
  ·exact⟨o,keep c o (I.cne x c e) hc nch ho (I.freeC x c e),hd⟩
 refine⟨I.ok,I.os,hg,⟨fun b o e n hb hx=>?_,fun b o e n hb hx=>?_,fun b o e n hx=>?_,fun b o e hx=>?_,fun b xs e=>tups b xs (I.base.tups b xs e),fun b o xs e=>frzs b o xs (I.base.frzs b o xs e),fun b ps e=>?_⟩,?_,fun x c e=>?_,?_,fun x c e=>?_,fun p hp=>?_,hok,I.len⟩
 ·exact keep b o (neL b o e) hb (neC b o e hx) (I.base.keep b o e n hb hx) (I.base.free b o e n hx)
 ·obtain⟨sl,e1⟩:=I.base.slot b o e n hb hx
  obtain⟨sl',e2⟩:=slot b _ (neL b o e) hb (neC b o e hx) e1 (I.base.free b o e n hx)
  exact⟨sl',e2⟩
 ·obtain⟨o',e1⟩:=I.base.there b o e hx
  exact free b o' (neC b o e hx) e1 (I.base.free b o e n hx)
 ·obtain⟨o',e1⟩:=I.base.there b o e hx
  exact there b o' (neC b o e hx) e1
 ·obtain⟨m1,e1⟩:=I.base.tbls b ps e
  obtain⟨m2,e2⟩:=tbls b _ e1
  exact⟨m1++m2,by rw[e2,Array.append_assoc]⟩
 ·obtain⟨m,hn,hl⟩:=I.loc
  refine⟨m,ns m hn,fun i x v e1 e2 e3=>?_⟩
  obtain⟨u,r,l⟩:=hl i x v e1 e2 e3
  refine⟨u,r,?_⟩
  rcases l with l|⟨k,c,e,z⟩
  ·exact .inl l
  ·exact .inr ⟨k,c,e,cellK x c e _ z⟩
 ·obtain⟨v,z⟩:=I.cell x c e
  exact⟨v,cellK x c e v z⟩
 ·obtain⟨m,⟨o,_,_,ho,_⟩,_⟩:=I.loc
  exact free _ o (fun z=>(hch _ z).2.1 rfl) ho I.free
 ·obtain⟨v,o,ho,hd⟩:=I.cell x c e
  exact free c o (fun z=>(hch c z).2.2.1 x c e rfl) ho (I.freeC x c e)
 ·obtain⟨e,n,ne,nf,d⟩:=I.pin p hp
  have nch:p.1∉ch:=fun z=>(hch p.1 z).2.2.2 p hp rfl
  exact⟨keep p.1 p.2 ne nf nch e n,free p.1 p.2 nch e n,ne,nf,d⟩
theorem Inv.un {t':Nat}(I:Inv X pins σ H s)(u:Un X.fs [] H H' s.heap h')(hok:HOk X.prog X.w H' h'):Inv X pins σ H' {s with heap:=h',toks:=t'}:=by
 obtain⟨m,⟨o,es,ep,ho,r⟩,_⟩:=id I.loc
 obtain⟨sl,hL⟩:=u.any ho I.free (by simp)
 exact I.step (g':=s.gens) (d':=s.drawn) (ch:=[]) (fun _ z=>nomatch z) (fun b o _ hb _ e n=>u.keep b o e n hb (by simp)) (fun b o _ hb _ e n=>u.slot b o e n hb (by simp)) (fun b o _ e n=>u.free b o e n (by simp)) (fun b o _ e=>u.there b o e (by simp)) u.tups u.frzs u.tbls (fun m' hm=>by
  obtain⟨o',es',ep',ho',r'⟩:=hm
  rw[ho] at ho';cases ho'
  exact⟨_,es',ep',hL,r'⟩) hok I.bare
theorem Inv.call {g':Array GenState}{t':Nat}{d':Drawn}{ch:List Addr}(I:Inv X pins σ H s)(u:Un (dR X.stack) ch H H' s.heap h')(hok:HOk X.prog X.w H' h')(hg:AllBare g')
  (hch:∀ b∈ch,(b∈X.ex\/X.s₀.heap.objs.size<=b)/\b≠X.env.locals/\(∀ x c,X.env.cells.lookup x=some c->c≠b)/\∀ p∈X.pn++pins,p.1≠b):
  Inv X pins σ H' {s with heap:=h',gens:=g',drawn:=d',toks:=t'}:=by
 obtain⟨m,⟨o,es,ep,ho,r⟩,_⟩:=id I.loc
 obtain⟨sl,hL⟩:=u.any ho I.free fun z=>(hch _ z).2.1 rfl
 exact I.step (ch:=ch) hch (fun b o hL hb hc e n=>u.keep b o e n (fun z=>(List.mem_cons.mp (I.stkSub b z)).elim hL hb) hc) (fun b o _ _ hc e n=>u.any e n hc) (fun b o hc e n=>u.free b o e n hc) (fun b o hc e=>u.there b o e hc) u.tups u.frzs u.tbls (fun m' hm=>by
  obtain⟨o',es',ep',ho',r'⟩:=hm
  rw[ho] at ho';cases ho'
  exact⟨_,es',ep',hL,r'⟩) hok hg
theorem Inv.turned {t':Nat}{it:Addr}(I:Inv X pins σ H s)(k:∀ b o,b≠it->s.heap.get? b=some o->h'.get? b=some o)(hn:H it=none)(hL:it≠X.env.locals)
  (h1:it∈X.ex\/X.s₀.heap.objs.size<=it) (h2:∀ x c,X.env.cells.lookup x=some c->c≠it) (h3:∀ p∈X.pn++pins,p.1≠it):Inv X pins σ H {s with heap:=h',toks:=t'}:=by
 have nit:∀ b u,H b=some u->b≠it:=fun b u e z=>by rw[z,hn] at e;cases e
 refine I.step (g':=s.gens) (d':=s.drawn) (ch:=[it]) (fun b hb=>?_) (fun b o _ _ hc e _=>k b o (fun z=>hc (by simp [z])) e) (fun b o _ _ hc e _=>⟨o.slots,k b o (fun z=>hc (by simp [z])) e⟩) (fun _ _ _ _ n=>n)
  (fun b o hc e=>⟨o,k b o (fun z=>hc (by simp [z])) e⟩) (fun _ _ e=>e) (fun _ _ _ e=>e) (fun b ps e=>⟨#[],by rw[e];simp⟩) (fun m hm=>?_) (fun b u e=>?_) I.bare
 ·have e:b=it:=by simpa using hb
  subst e
  exact⟨h1,hL,h2,h3⟩
 ·obtain⟨o,es,ep,ho,r⟩:=hm
  exact⟨o,es,ep,k _ o (Ne.symm hL) ho,r⟩
 ·refine (I.hok b u e).stay (fun c v hc q=>k c v ?_ q) (fun _ q=>q) fun _ _ q=>q
  rcases hc with z|z
  ·rw[z];exact nit b u e
  ·exact nit c _ z
theorem Inv.tok (I:Inv X pins σ H s)(t:Nat):Inv X pins σ H {s with toks:=t}:=I.un (h':=s.heap) (t':=t) Un.refl I.hok
theorem Inv.kept {t':Nat}(I:Inv X pins σ H s)(k:∀ b u,s.heap.get? b=some u->h'.get? b=some u):Inv X pins σ H {s with heap:=h',toks:=t'}:=I.un (Un.kept k) (I.hok.kept k)
theorem Inv.laid {a:Addr}{o:HO}{t':Nat}(I:Inv X pins σ H s)(k:∀ b u,s.heap.get? b=some u->h'.get? b=some u)(hp:s.heap.objs.size<=a)(new:ObjOk X.prog X.w (upd H a o) h' a o):
  Inv X pins σ (upd H a o) {s with heap:=h',toks:=t'}:=I.un (Un.laid k hp (I.hok.fresh hp)) (I.hok.laid k hp new)
theorem Inv.write {x e:Addr}{o:HO}{t':Nat}(I:Inv X pins σ H s)(mu:t0 (H x))(he:e=x\/H e=some (.own x))(k:∀ b u,b≠e->s.heap.get? b=some u->h'.get? b=some u)(heo:∃ u,h'.get? e=some u)
  (new:ObjOk X.prog X.w (upd H x o) h' x o):Inv X pins σ (upd H x o) {s with heap:=h',toks:=t'}:=I.un (Un.write mu he k heo) (I.hok.write mu he k heo new)
theorem Inv.pins_of {pins':List (Addr×Obj)}(I:Inv X pins σ H s)(h:∀ p∈pins',s.heap.get? p.1=some p.2/\H p.1=none/\p.1≠X.env.locals/\p.1∉X.fs/\∀ v,p.2.data≠.cell v):Inv X pins' σ H s:=
 ⟨I.ok,I.os,I.bare,I.base,I.loc,I.cell,I.free,I.freeC,fun p hp=>(List.mem_append.mp hp).elim (fun z=>I.pin p (List.mem_append_left _ z)) (h p),I.hok,I.len⟩
theorem fM {N:List Str}(hN:N.Nodup){i j:Nat}{x:Str}(a:N[i]? =some x) (b:N[j]? =some x):i=j:=by
 obtain⟨h1,e1⟩:=List.getElem?_eq_some_iff.mp a
 obtain⟨h2,e2⟩:=List.getElem?_eq_some_iff.mp b
 exact (List.getElem_inj hN).mp (e1.trans e2.symm)
theorem gE {M:Model}{A:Around}{E:Value->Shared->Prop}{i:Nat}{x:Str}{v:V}{u:Value}{Q:Unit->Shared->Prop}(I:Inv X pins σ H s)(hN:X.N.Nodup)(hi:X.N[i]? =some x) (hx:u5 X.env.scope x) (r:RelV v u)
  (h:∀ s',Inv X pins (σ.set i (some v)) H s'->(∃ a,Heap.SameBut a s.heap s'.heap/\(a=X.env.locals\/X.env.cells.lookup x=some a))->Q () s') (hf:X.fn x=true\/X.env.scope.names.lookup x=some .local:=by first|exact .inl rfl|exact .inr rfl|assumption):wpAny M A (storeName X.env x u) Q E s:=by
 obtain⟨m,hn,hl⟩:=id I.loc
 have hcls:(X.env.scope.kind == .class || (X.env.scope.kind == .module&&X.env.locals != X.env.globals))=false:=by rw[I.ok.kind];rfl
 have hiσ:i < σ.length:=by rw[I.len];exact (List.getElem?_eq_some_iff.mp hi).1
 have cne:=I.cne
 have tracked:∀ {a:Addr} {h':Heap},(∃ o,s.heap.get? a=some o/\H a=none)->Heap.SameBut a s.heap h'->HOk X.prog X.w H h':=fun {a h'} ha hs b ob e=>by
  obtain⟨_,_,hfree⟩:=ha
  refine (I.hok b ob e).stay (fun c w' hc q=>(hs.2 c ?_).trans q) (fun _ q=>q) fun _ _ q=>q
  rintro rfl
  rcases hc with rfl|hc
  ·rw[hfree] at e;cases e
  ·rw[hfree] at hc;cases hc
 rcases hx with hk|hk
 ·refine wpAny_storeName_local hk hn (fun h' hn' hs=>?_) hcls
  obtain⟨oL,_,_,hoL,_⟩:=id hn
  refine h _ ⟨I.ok,I.os,I.bare,⟨fun b o e n hb hx=>?_,fun b o e n hb hx=>?_,I.base.free,fun b o e hx=>?_,I.base.tups,I.base.frzs,I.base.tbls⟩,⟨_,hn',fun j y v' e1 e2 e3=>?_⟩,fun y c e=>?_,I.free,I.freeC,fun p hp=>?_,tracked ⟨oL,hoL,I.free⟩ hs,by simpa using I.len⟩ ⟨_,hs,.inl rfl⟩
  ·exact (hs.2 b (Nat.ne_of_lt (Nat.lt_of_lt_of_le (Heap.lt_size e) I.ok.above))).trans (I.base.keep b o e n hb hx)
  ·obtain⟨sl,e1⟩:=I.base.slot b o e n hb hx
   exact⟨sl,(hs.2 b (Nat.ne_of_lt (Nat.lt_of_lt_of_le (Heap.lt_size e) I.ok.above))).trans e1⟩
  ·obtain⟨o',e1⟩:=I.base.there b o e hx
   exact⟨o',(hs.2 b (Nat.ne_of_lt (Nat.lt_of_lt_of_le (Heap.lt_size e) I.ok.above))).trans e1⟩
  ·by_cases hj:j=i
   ·subst hj
    rw[hi] at e1;cases e1
    rw[List.getElem?_set_self hiσ] at e2
    cases e2
    exact⟨u,r,.inl ⟨hk,by simp⟩⟩
   ·rw[List.getElem?_set_ne (Ne.symm hj)] at e2
    obtain⟨u',r',q⟩:=hl j y v' e1 e2 e3
    refine⟨u',r',?_⟩
    rcases q with⟨k,e⟩|⟨k,c,e,z⟩
    ·refine .inl ⟨k,?_⟩
     have:y≠x:=fun e=>hj (fM hN e1 (e▸hi))
     simp [this,e]
    ·exact .inr ⟨k,c,e,z.sameBut hs (cne y c e)⟩
  ·obtain⟨w',z⟩:=I.cell y c e
   exact⟨w',z.sameBut hs (cne y c e)⟩
  ·obtain⟨e,n,ne,nf,d⟩:=I.pin p hp
   exact⟨(hs.2 p.1 ne).trans e,n,ne,nf,d⟩
 ·have hfn:X.fn x=true:=by
   rcases hf with z|z
   ·exact z
   ·rw[z] at hk;cases hk
  obtain⟨c,hc⟩:=I.ok.has x (.inl hk)
  obtain⟨w',z⟩:=I.cell x c hc
  refine wpAny_storeName_cell I.ok.kind hk hc z (fun h' hc' hs=>?_)
  obtain⟨oc,hoc,hocd⟩:=id z
  refine h {s with heap:=h'} ⟨I.ok,I.os,I.bare,⟨fun b o e n hb hx=>?_,fun b o e n hb hx=>?_,I.base.free,fun b o e hx=>?_,I.base.tups,I.base.frzs,I.base.tbls⟩,⟨m,hn.sameBut hs (Ne.symm (cne x c hc)),fun j y v' e1 e2 e3=>?_⟩,fun y c' e=>?_,I.free,I.freeC,fun p hp=>?_,tracked ⟨oc,hoc,I.freeC x c hc⟩ hs,by simpa using I.len⟩ ⟨c,hs,.inr hc⟩
  ·exact (hs.2 b (Nat.ne_of_lt (Nat.lt_of_lt_of_le (Heap.lt_size e) (I.ok.cab x c hfn hc)))).trans (I.base.keep b o e n hb hx)
  ·obtain⟨sl,e1⟩:=I.base.slot b o e n hb hx
   exact⟨sl,(hs.2 b (Nat.ne_of_lt (Nat.lt_of_lt_of_le (Heap.lt_size e) (I.ok.cab x c hfn hc)))).trans e1⟩
  ·obtain⟨o',e1⟩:=I.base.there b o e hx
   exact⟨o',(hs.2 b (Nat.ne_of_lt (Nat.lt_of_lt_of_le (Heap.lt_size e) (I.ok.cab x c hfn hc)))).trans e1⟩
  ·by_cases hj:j=i
   ·subst hj
    rw[hi] at e1;cases e1
    rw[List.getElem?_set_self hiσ] at e2
    cases e2
    exact⟨u,r,.inr ⟨.inl hk,c,hc,hc'⟩⟩
   ·rw[List.getElem?_set_ne (Ne.symm hj)] at e2
    obtain⟨u',r',q⟩:=hl j y v' e1 e2 e3
    refine⟨u',r',?_⟩
    rcases q with q|⟨k,c',e,z'⟩
    ·exact .inl q
    ·refine .inr ⟨k,c',e,z'.sameBut hs ?_⟩
     rintro rfl
     exact hj (fM hN e1 (I.ok.inj _ _ _ e hc▸hi))
  ·by_cases hcc:c'=c
   ·subst hcc;exact⟨_,hc'⟩
   ·obtain⟨w2,z2⟩:=I.cell y c' e
    exact⟨w2,z2.sameBut hs hcc⟩
  ·obtain⟨e,n,ne,nf,d⟩:=I.pin p hp
   refine⟨(hs.2 p.1 ?_).trans e,n,ne,nf,d⟩
   intro q
   rw[q,hoc] at e
   have q':oc=p.2:=Option.some.inj e
   exact d w' (by rw[← q'];exact hocd)
theorem fN {M:Model}{A:Around}{E:Value->Shared->Prop}{i:Nat}{x:Str}{v:V}{u:Value}{Q:Unit->Shared->Prop}(I:Inv X pins σ H s)(hN:X.N.Nodup)(hi:X.N[i]? =some x) (hx:u5 X.env.scope x) (r:RelV v u)
  (h:∀ s',Inv X pins (σ.set i (some v)) H s'->Q () s') (hf:X.fn x=true\/X.env.scope.names.lookup x=some .local:=by first|exact .inl rfl|exact .inr rfl|assumption):wpAny M A (storeName X.env x u) Q E s:=
 gE I hN hi hx r (fun s' I' _=>h s' I') hf
theorem Inv.call' {s':Shared}{ch:List Addr}(I:Inv X pins σ H s)(ho:s'.os=s.os)(u:Un (dR X.stack) ch H H' s.heap s'.heap)(hok:HOk X.prog X.w H' s'.heap)(hg:AllBare s'.gens)
  (hch:∀ b∈ch,(b∈X.ex\/X.s₀.heap.objs.size<=b)/\b≠X.env.locals/\(∀ x c,X.env.cells.lookup x=some c->c≠b)/\∀ p∈X.pn++pins,p.1≠b):Inv X pins σ H' s':=by
 obtain⟨h',g',d',t',o'⟩:=s'
 have e:o'=s.os:=ho
 subst e
 exact I.call (g':=g') (t':=t') (d':=d') u hok hg hch
end
abbrev XK:=Value->Option Addr->Hp->Prop
abbrev St:=List (Option V)
abbrev VK:=V->Hp->Prop
abbrev TE:=St->Hp->VK->Prop
abbrev TT:=St->Hp->(Bool->Hp->Prop)->Prop
abbrev TA:=St->Hp->(List V->Hp->Prop)->Prop
structure gw where
 nx:St->Hp->Prop
 rt:VK
 bk:St->Hp->Prop:=fun _ _=>False
 ct:St->Hp->Prop:=fun _ _=>False
abbrev TS:=gw->St->Hp->Prop
def EP (X:Cx)(pins:List (Addr×Obj))(σ:St)(Q:VK)(u:Value)(s':Shared):Prop:=∃ v H',Inv X pins σ H' s'/\RelV v u/\Q v H'
def TP (X:Cx)(pins:List (Addr×Obj))(σ:St)(Q:Bool->Hp->Prop)(b:Bool)(s':Shared):Prop:=∃ H',Inv X pins σ H' s'/\Q b H'
def AP (X:Cx)(pins:List (Addr×Obj))(σ:St)(Q:List V->Hp->Prop)(us:List Value)(s':Shared):Prop:=∃ vs H',Inv X pins σ H' s'/\Vals vs us/\Q vs H'
def SP (X:Cx)(pins:List (Addr×Obj))(D:gw)(f:Flow)(s':Shared):Prop:=
 match f with
 |.next=>∃ σ' H',Inv X pins σ' H' s'/\D.nx σ' H'
 |.brk=>∃ σ' H',Inv X pins σ' H' s'/\D.bk σ' H'
 |.cont=>∃ σ' H',Inv X pins σ' H' s'/\D.ct σ' H'
 |.ret u=>∃ v σ' H',Inv X pins σ' H' s'/\RelV v u/\D.rt v H'
def PE (X:Cx)(e:Expr)(t:TE):Prop:=
 ∀ (pins:List (Addr×Obj)) (s:Shared) (σ:St) (H:Hp) (Q:VK),Inv X pins σ H s->t σ H Q->wpAny (model X.prog X.w) X.A (eval e X.env) (EP X pins σ Q) X.xe s
def PT (X:Cx)(e:Expr)(t:TT):Prop:=
 ∀ (pins:List (Addr×Obj)) (s:Shared) (σ:St) (H:Hp) (Q:Bool->Hp->Prop),Inv X pins σ H s->t σ H Q->wpAny (model X.prog X.w) X.A (isTrue e X.env (eval e X.env)) (TP X pins σ Q) X.xe s
def PW (X:Cx)(e:Expr)(t:TT):Prop:=
 ∀ (whole:Sem Value) (pins:List (Addr×Obj)) (s:Shared) (σ:St) (H:Hp) (Q:Bool->Hp->Prop),Inv X pins σ H s->t σ H Q->wpAny (model X.prog X.w) X.A (isTrue e X.env whole) (TP X pins σ Q) X.xe s
theorem PW.pt {X:Cx}{e:Expr}{t:TT}(h:PW X e t):PT X e t:=h _
def PA (X:Cx)(es:List Expr)(t:TA):Prop:=
 ∀ (pos:Pos) (pins:List (Addr×Obj)) (s:Shared) (σ:St) (H:Hp) (Q:List V->Hp->Prop),Inv X pins σ H s->t σ H Q->wpAny (model X.prog X.w) X.A (spliced (backTo pos (starEach es X.env))) (AP X pins σ Q) X.xe s
def PS (X:Cx)(st:Stmt)(t:TS):Prop:=
 ∀ (pins:List (Addr×Obj)) (s:Shared) (σ:St) (H:Hp) (D:gw),Inv X pins σ H s->t D σ H->wpAny (model X.prog X.w) X.A (exec st X.env) (SP X pins D) X.xe s
def PSs (X:Cx)(st:List Stmt)(t:TS):Prop:=
 ∀ (pins:List (Addr×Obj)) (s:Shared) (σ:St) (H:Hp) (D:gw),Inv X pins σ H s->t D σ H->wpAny (model X.prog X.w) X.A (execs st X.env) (SP X pins D) X.xe s
theorem bH {α:Type}{t:Sem α}{Q Q':α->Shared->Prop}{M:Model}{A:Around}{E:Value->Shared->Prop}{s:Shared}(h:wpAny M A t Q E s)(hQ:∀ a s,Q a s->Q' a s):wpAny M A t Q' E s:=wpAny_mono h hQ fun _ _ x=>x
end L2
namespace L2
open PySem PySem.Spec PyProof.Rows
section
variable {X:Cx}
inductive rf (i:Nat)(σ:St)(H:Hp)(Q:VK):Prop
 |mk (v:V)(h:σ[i]? =some (some v)) (q:Q v H):rf i σ H Q
def t1 (i:Nat):TE:=fun σ H Q=>rf i σ H Q
def tC (v:V):TE:=fun _ H Q=>Q v H
theorem sk {i:Nat}{x:Str}{pos:Pos}(hN:X.N[i]? =some x) (hv:vf X.env.scope x) (hd:(x == ("__debug__":Str))=false:=by decide) (hcd:(x == ("__classdict__":Str))=false:=by decide):PE X (.Name x pos) (t1 i):=by
 intro pins s σ H Q I h
 obtain⟨v,e,h⟩:=h
 obtain⟨m,hn,hl⟩:=I.loc
 obtain⟨u,r,l⟩:=hl i x v hN e hv
 have fin:EP X pins σ Q u s:=⟨v,H,I,r,h⟩
 rcases l with⟨hk,hm⟩|⟨hk,c,hc,hcell⟩
 ·exact wpAny_Name (wpAny_loadName_local I.ok.kind hk hn hm fin) hd
 ·rcases hk with hk|hk
  ·exact wpAny_Name (wpAny_loadName_cell I.ok.kind hk hc hcell fin) hd
  ·exact wpAny_Name (wpAny_loadName_free I.ok.kind hk hc hcell fin hcd) hd
theorem af {i j pos}:PE X (.Constant (.int i) j pos) (tC (.int i)):=fun _ _ _ H _ I h=>wpAny_Constant_int ⟨.int i,H,I.tok _,⟨_,rfl⟩,h⟩
theorem cq {b j pos}:PE X (.Constant (.bool b) j pos) (tC (.bl b)):=fun _ _ _ H _ I h=>Constant_bool ⟨.bl b,H,I,rfl,h⟩
theorem a_ {j pos}:PE X (.Constant .none j pos) (tC .non):=fun _ _ _ H _ I h=>Constant_none ⟨.non,H,I,rfl,h⟩
theorem az {x j pos}:PE X (.Constant (.str x) j pos) (tC (.str x)):=fun _ _ _ H _ I h=>Calls.Constant_str ⟨.str x,H,I.tok _,⟨_,rfl⟩,h⟩
def Gl (X:Cx)(x:Str):Prop:=X.env.kindOf x=some .globalImplicit
theorem dL {E:Value->Shared->Prop}{pins:List (Addr×Obj)}{s:Shared}{σ:St}{H:Hp}{x:Str}{u:Value}{pos:Pos}{Q:Value->Shared->Prop}(I:Inv X pins σ H s)(hg:Gl X x)(hm:X.mg x=some u)(h:Q u s)
  (hd:(x == ("__debug__":Str))=false:=by decide):wpAny (model X.prog X.w) X.A (eval (.Name x pos) X.env) Q E s:=
 Calls.Name_function_global I.ok.kind hg (Calls.loadGlobal_global (by rw[I.ok.glob];exact I.mod.glob.keeps I.bk) hm h) hd
theorem eR {E:Value->Shared->Prop}{pins:List (Addr×Obj)}{s:Shared}{σ:St}{H:Hp}{x:Str}{u:Value}{pos:Pos}{Q:Value->Shared->Prop}(I:Inv X pins σ H s)(hg:Gl X x)(hm:X.mg x=none)(hv:bootBuiltins x=some u)(h:Q u s)
  (hn:x≠"__name__":=by decide) (hd:(x == ("__debug__":Str))=false:=by decide):wpAny (model X.prog X.w) X.A (eval (.Name x pos) X.env) Q E s:=by
 obtain⟨mb,h1,h2⟩:=I.mod.blt
 exact Calls.Name_function_global I.ok.kind hg (Calls.loadGlobal_builtin (by rw[I.ok.glob];exact I.mod.glob.keeps I.bk) hm (by rw[I.ok.blt];exact h1.keeps I.bk) ((h2 x hn).trans hv) h) hd
theorem pX {x:Str}{v:V}{u:Value}{pos:Pos}(hg:Gl X x)(hm:X.mg x=some u)(r:RelV v u)(hd:(x == ("__debug__":Str))=false:=by decide):PE X (.Name x pos) (tC v):=
 fun _ _ _ H _ I h=>dL I hg hm ⟨v,H,I,r,h⟩ hd
theorem cD {x:Str}{v:V}{u:Value}{pos:Pos}(hg:Gl X x)(hm:X.mg x=none)(hv:bootBuiltins x=some u)(r:RelV v u)(hn:x≠"__name__":=by decide)(hd:(x == ("__debug__":Str))=false:=by decide):PE X (.Name x pos) (tC v):=
 fun _ _ _ H _ I h=>eR I hg hm hv ⟨v,H,I,r,h⟩ hn hd
variable {a b:Expr}{ta tb:TE}{pos:Pos}
inductive sm (x:V)(Q:Bool->Hp->Prop)(H:Hp):Prop
 |mk (c:Bool)(h:x=.bl c)(q:Q c H):sm x Q H
def tB (t:TE):TT:=fun σ H Q=>t σ H fun x H1=>sm x Q H1
theorem aL {e:Expr}{t:TE}(h:PE X e t)(he:∀ whole,isTrue e X.env whole=(do let v ← whole;standAt e.pos;holding [v] (truthy v)):=by intro _;rfl):PT X e (tB t):=by
 intro pins s σ H Q I hw
 refine isTrue_plain (bH (h pins s σ H _ I hw) fun v s1 ⟨x,H1,I1,r1,q1⟩=>?_) (he _)
 obtain⟨d,rfl,q⟩:=q1
 cases r1
 exact wpAny_truthy_bool ⟨H1,I1,q⟩
variable {tA tB':TT}{rest:List Expr}
def vh (t u:TT):TT:=fun σ H Q=>t σ H fun c H1=>if c=true then u σ H1 Q else Q false H1
def wc (t u:TT):TT:=fun σ H Q=>t σ H fun c H1=>if c=true then Q true H1 else u σ H1 Q
def vi (t:TT):TT:=fun σ H Q=>t σ H fun c H1=>Q (!c) H1
theorem cg (ha:PT X a tA):PW X (.BoolOp .And [a] pos) tA:=by
 intro wh pins s σ H Q I h
 refine isTrue_and (bH (ha pins s σ H Q I h) fun c s1 e=>?_)
 cases c with
 |true=>exact isTrue_and_nil e
 |false=>exact e
theorem bT (ha:PT X a tA):PW X (.BoolOp .Or [a] pos) tA:=by
 intro wh pins s σ H Q I h
 refine isTrue_or (bH (ha pins s σ H Q I h) fun c s1 e=>?_)
 cases c with
 |false=>exact isTrue_or_nil e
 |true=>exact e
theorem b_ (ha:PT X a tA)(hb:PW X (.BoolOp .And (b::rest) pos) tB'):PW X (.BoolOp .And (a::b::rest) pos) (vh tA tB'):=by
 intro wh pins s σ H Q I h
 refine isTrue_and (bH (ha pins s σ H _ I h) fun c s1 ⟨H1,I1,q1⟩=>?_)
 cases c with
 |true=>exact hb wh pins s1 σ H1 Q I1 q1
 |false=>exact⟨H1,I1,q1⟩
theorem bK (ha:PT X a tA)(hb:PW X (.BoolOp .Or (b::rest) pos) tB'):PW X (.BoolOp .Or (a::b::rest) pos) (wc tA tB'):=by
 intro wh pins s σ H Q I h
 refine isTrue_or (bH (ha pins s σ H _ I h) fun c s1 ⟨H1,I1,q1⟩=>?_)
 cases c with
 |true=>exact⟨H1,I1,q1⟩
 |false=>exact hb wh pins s1 σ H1 Q I1 q1
theorem bh (ha:PT X a tA):PT X (.UnaryOp .Not a pos) (vi tA):=by
 intro pins s σ H Q I h
 exact isTrue_not (ha pins s σ H (fun c H1=>Q (!c) H1) I h)
def t2 (ta tb:TE):TE:=fun σ H Q=>ta σ H fun x H1=>∃ c,x=.bl c/\if c=true then tb σ H1 Q else Q (.bl false) H1
def t3 (ta:TE):TE:=fun σ H Q=>ta σ H fun x H1=>∃ c,x=.bl c/\Q (.bl (!c)) H1
theorem eS {op}{t:TE}(h:PE X a t):PE X (.BoolOp op [a] pos) t:=fun pins s σ H Q I hw=>BoolOp_one (h pins s σ H Q I hw)
theorem dj (ha:PE X a ta)(hb:PE X (.BoolOp .And (b::rest) pos) tb):PE X (.BoolOp .And (a::b::rest) pos) (t2 ta tb):=by
 intro pins s σ H Q I h
 refine BoolOp_and (bH (ha pins s σ H _ I h) fun v s1 ⟨x,H1,I1,r1,q1⟩=>?_)
 obtain⟨c,rfl,q1⟩:=q1
 cases r1
 refine wpAny_truthy_bool ?_
 cases c with
 |true=>exact hb pins s1 σ H1 Q I1 q1
 |false=>exact⟨.bl false,H1,I1,rfl,q1⟩
theorem m_ (ha:PE X a ta):PE X (.UnaryOp .Not a pos) (t3 ta):=by
 intro pins s σ H Q I h
 refine UnaryOp_ (bH (ha pins s σ H _ I h) fun v s1 ⟨x,H1,I1,r1,q1⟩=>?_)
 obtain⟨c,rfl,q1⟩:=q1
 cases r1
 exact not_of (wpAny_truthy_bool ⟨.bl (!c),H1,I1,rfl,q1⟩)
def we (t:TT)(ta tb:TE):TE:=fun σ H Q=>t σ H fun c H1=>if c=true then ta σ H1 Q else tb σ H1 Q
theorem fO {c:Expr}(hc:PT X c tA)(ha:PE X a ta)(hb:PE X b tb):PE X (.IfExp c a b pos) (we tA ta tb):=by
 intro pins s σ H Q I h
 refine wpAny_IfExp (bH (hc pins s σ H _ I h) fun d s1 ⟨H1,I1,q1⟩=>?_)
 cases d with
 |true=>exact ha pins s1 σ H1 Q I1 q1
 |false=>exact hb pins s1 σ H1 Q I1 q1
end
end L2
namespace L2
open PySem PySem.Spec PyProof.Rows
def SqL (K:PySem.W.Frag)(H:Hp)(a:Addr)(xs:List V):Prop:=
 Rd H a (.lst xs)\/
  ∃ (o:Obj) (its:Array Value) (n:Nat),K.lookup a=some o/\o.cls=.type "list"/\o.dict=none/\o.data=.seq its n/\its.size<=sizeLine/\Vals xs its.toList
def SqT (K:PySem.W.Frag)(H:Hp)(a:Addr)(xs:List V):Prop:=
 Rd H a (.tup xs)\/
  ∃ (o:Obj) (its:Array Value) (n:Nat),K.lookup a=some o/\o.cls=.type "tuple"/\o.data=.seq its n/\its.size<=sizeLine/\Vals xs its.toList
def vj:Value->Option V
 |.none=>some .non
 |.bool b=>some (.bl b)
 |.int i _=>some (.int i)
 |.str x _=>some (.str x)
 |.bytes b _=>some (.byt b)
 |.float b _=>some (.flt b)
 |.ref a=>some (.ref a)
 |.type n=>some (.ty n)
 |_=>none
theorem RelV.abs {x:V}{u:Value}(r:RelV x u):vj u=some x:=by
 cases x with
 |non=>cases r;rfl
 |bl _=>cases r;rfl
 |int _=>obtain⟨t,rfl⟩:=r;rfl
 |str _=>obtain⟨t,rfl⟩:=r;rfl
 |byt _=>obtain⟨t,rfl⟩:=r;rfl
 |flt _=>obtain⟨t,rfl⟩:=r;rfl
 |ref _=>cases r;rfl
 |ty _=>cases r;rfl
theorem RelV.inj {x y:V}{u:Value}(r:RelV x u)(q:RelV y u):x=y:=Option.some.inj (r.abs.symm.trans q.abs)
theorem Vals.inj:∀ {xs ys:List V} {us:List Value},Vals xs us->Vals ys us->xs=ys
 |_,_,_,.nil,.nil=>rfl
 |_,_,_,.cons r t,.cons r' t'=>by rw[r.inj r',Vals.inj t t']
section
variable {X:Cx}{pins:List (Addr×Obj)}{σ:St}{H:Hp}{s:Shared}{a:Addr}{xs ys:List V}
theorem SqL.of {K:PySem.W.Frag}(h:H a=some (.lst xs)):SqL K H a xs:=.inl (.inl h)
theorem SqT.of {K:PySem.W.Frag}(h:H a=some (.tup xs)):SqT K H a xs:=.inl (.inl h)
theorem Inv.list (I:Inv X pins σ H s)(h:SqL X.K H a xs):∃ its:List Value,Vals xs its/\PlainL s.heap a its.toArray/\xs.length<=sizeLine:=by
 rcases h with h|⟨o,its,n,hk,hc,hd,hs,hz,r⟩
 ·obtain⟨z,its,n,r,e⟩:=h.ok I.hok
  exact⟨its,r,⟨_,n,e,rfl,rfl,rfl⟩,z⟩
 ·refine⟨its.toList,r,⟨o,n,I.kIn a o hk,hc,hd,by simpa using hs⟩,?_⟩
  have e:=r.length
  simp only [Array.length_toList] at e
  omega
theorem Inv.tuple (I:Inv X pins σ H s)(h:SqT X.K H a xs):∃ its:List Value,Vals xs its/\IsTup s.heap a its.toArray/\xs.length<=sizeLine:=by
 rcases h with h|⟨o,its,n,hk,hc,hs,hz,r⟩
 ·obtain⟨z,its,r,p⟩:=h.ok I.hok
  exact⟨its,r,p,z⟩
 ·refine⟨its.toList,r,⟨o,I.kIn a o hk,hc,n,by simpa using hs⟩,?_⟩
  have e:=r.length
  simp only [Array.length_toList] at e
  omega
theorem Inv.list_inj (I:Inv X pins σ H s)(h:SqL X.K H a xs)(h':SqL X.K H a ys):xs=ys:=by
 obtain⟨its,r,⟨o,n,e,_,_,d⟩,_⟩:=I.list h
 obtain⟨its',r',⟨o',n',e',_,_,d'⟩,_⟩:=I.list h'
 rw[e] at e';cases e'
 rw[d] at d'
 injection d' with d1 _
 have:its=its':=by simpa using congrArg Array.toList d1
 subst this
 exact r.inj r'
theorem Inv.tuple_inj (I:Inv X pins σ H s)(h:SqT X.K H a xs)(h':SqT X.K H a ys):xs=ys:=by
 obtain⟨its,r,⟨o,e,_,n,d⟩,_⟩:=I.tuple h
 obtain⟨its',r',⟨o',e',_,n',d'⟩,_⟩:=I.tuple h'
 rw[e] at e';cases e'
 rw[d] at d'
 injection d' with d1 _
 have:its=its':=by simpa using congrArg Array.toList d1
 subst this
 exact r.inj r'
end
abbrev Cx.wish (X:Cx)(E:Value->Shared->Prop):Cx:={X with xe:=E}
abbrev Cx.nox (X:Cx):Cx:=X.wish fun _ _=>False
theorem Cx.Ok.wish {X:Cx}(ok:X.Ok)(E:Value->Shared->Prop):(X.wish E).Ok:=
 ⟨ok.mod,ok.kind,ok.glob,ok.blt,ok.above,ok.inj,ok.has,ok.cab,ok.hd,ok.frames,ok.stk,ok.exf,ok.bs,ok.bsz,ok.noex,ok.exfs,ok.funs,ok.frf⟩
theorem Cx.Ok.unwish {X:Cx}{E:Value->Shared->Prop}(ok:(X.wish E).Ok):X.Ok:=
 ⟨ok.mod,ok.kind,ok.glob,ok.blt,ok.above,ok.inj,ok.has,ok.cab,ok.hd,ok.frames,ok.stk,ok.exf,ok.bs,ok.bsz,ok.noex,ok.exfs,ok.funs,ok.frf⟩
section
variable {X:Cx}{pins:List (Addr×Obj)}{σ:St}{H:Hp}{s:Shared}{E:Value->Shared->Prop}
theorem Inv.wish (I:Inv X pins σ H s)(E:Value->Shared->Prop):Inv (X.wish E) pins σ H s:=⟨I.ok.wish E,I.os,I.bare,I.base,I.loc,I.cell,I.free,I.freeC,I.pin,I.hok,I.len⟩
theorem Inv.unwish (I:Inv (X.wish E) pins σ H s):Inv X pins σ H s:=⟨I.ok.unwish,I.os,I.bare,I.base,I.loc,I.cell,I.free,I.freeC,I.pin,I.hok,I.len⟩
theorem SP.unwish {D:gw}{f:Flow}{s':Shared}(h:SP (X.wish E) pins D f s'):SP X pins D f s':=by
 cases f with
 |next=>obtain⟨σ',H',I,q⟩:=h;exact⟨σ',H',I.unwish,q⟩
 |brk=>obtain⟨σ',H',I,q⟩:=h;exact⟨σ',H',I.unwish,q⟩
 |cont=>obtain⟨σ',H',I,q⟩:=h;exact⟨σ',H',I.unwish,q⟩
 |ret u=>obtain⟨v,σ',H',I,r,q⟩:=h;exact⟨v,σ',H',I.unwish,r,q⟩
theorem PSs.nox {st:List Stmt}{t:TS}(h:PSs X.nox st t):PSs X st t:=fun pins s σ H D I hw=>
 wpAny_mono (h pins s σ H D (I.wish _) hw) (fun _ _ q=>q.unwish) fun _ _ z=>False.elim z
end
section
variable {X:Cx}{st:Stmt}{rest:List Stmt}{t u:TS}{e:Expr}{te:TE}{pos:Pos}
def t4:TS:=fun D σ H=>D.nx σ H
def gx (t u:TS):TS:=fun D σ H=>t {D with nx:=u D} σ H
theorem au:PSs X [] t4:=fun _ _ σ H _ I h=>wpAny_execs_nil ⟨σ,H,I,h⟩
theorem ag (h1:PS X st t)(h2:PSs X rest u):PSs X (st::rest) (gx t u):=by
 intro pins s σ H D I h
 refine wpAny_execs_cons (bH (h1 pins s σ H {D with nx:=u D} I h) fun f s1 q=>?_)
 cases f with
 |next=>
  obtain⟨σ',H',I',q⟩:=q
  exact h2 pins s1 σ' H' D I' q
 |ret v=>exact q
 |brk=>exact q
 |cont=>exact q
theorem ah (h1:PS X st t):PSs X [st] t:=by
 intro pins s σ H D I h
 refine wpAny_execs_cons (bH (h1 pins s σ H D I h) fun f s1 q=>?_)
 cases f with
 |next=>exact wpAny_execs_nil q
 |ret v=>exact q
 |brk=>exact q
 |cont=>exact q
theorem Inv.quiet {pins:List (Addr×Obj)}{σ:St}{H:Hp}{s:Shared}(I:Inv X pins σ H s):interactive X.env=false:=by simp [interactive,I.ok.kind]
def t5 (te:TE):TS:=fun D σ H=>te σ H fun _ H1=>D.nx σ H1
theorem cY (he:PE X e te)(hs:swapsWith e none pos.line X.env=pure false:=by rfl):PS X (.Expr e pos) (t5 te):=by
 intro pins s σ H D I h
 exact wpAny_Expr_any (bH (he pins s σ H _ I h) fun v s1 ⟨x,H1,I1,r1,q1⟩=>⟨σ,H1,I1,q1⟩) I.quiet hs
def vk (te:TE):TS:=fun D σ H=>te σ H D.rt
theorem al (he:PE X e te):PS X (.Return (some e) pos) (vk te):=by
 intro pins s σ H D I h
 exact wpAny_Return_some (bH (he pins s σ H _ I h) fun v s1 ⟨x,H1,I1,r1,q1⟩=>⟨x,σ,H1,I1,r1,q1⟩)
def vn (c:TT)(t u:TS):TS:=fun D σ H=>c σ H fun b H1=>if b=true then t D σ H1 else u D σ H1
theorem aJ {c:Expr}{a b:List Stmt}{tc:TT}(hc:PT X c tc)(ha:PSs X a t)(hb:PSs X b u):PS X (.If c a b pos) (vn tc t u):=by
 intro pins s σ H D I h
 refine wpAny_If (bH (hc pins s σ H _ I h) fun d s1 ⟨H1,I1,q1⟩=>?_)
 cases d with
 |true=>exact ha pins s1 σ H1 D I1 q1
 |false=>exact hb pins s1 σ H1 D I1 q1
def so:TS:=fun _ _ _=>False
theorem nb:PS X st so:=fun _ _ _ _ _ _ h=>h.elim
end
abbrev TG:=V->St->Hp->(St->Hp->Prop)->Prop
abbrev sq:=List V->St->Hp->(St->Hp->Prop)->Prop
def PG (X:Cx)(target:Expr)(t:TG):Prop:=
 ∀ (pins:List (Addr×Obj)) (s:Shared) (σ:St) (H:Hp) (v:V) (u:Value) (Q:St->Hp->Prop),Inv X pins σ H s->RelV v u->t v σ H Q->
  wpAny (model X.prog X.w) X.A (assign target X.env u) (fun _ s'=>∃ σ' H',Inv X pins σ' H' s'/\Q σ' H') X.xe s
def u6 (X:Cx)(ts:List Expr)(t:sq):Prop:=
 ∀ (pins:List (Addr×Obj)) (s:Shared) (σ:St) (H:Hp) (vs:List V) (us:List Value) (Q:St->Hp->Prop),Inv X pins σ H s->Vals vs us->t vs σ H Q->
  wpAny (model X.prog X.w) X.A (assignInOrder ((assignEach ts X.env).map (·.2)) us) (fun _ s'=>∃ σ' H',Inv X pins σ' H' s'/\Q σ' H') X.xe s
section
variable {X:Cx}{pos:Pos}
def eg (i:Nat):TG:=fun v σ H Q=>Q (σ.set i (some v)) H
theorem aA {i:Nat}{x:Str}(hN:X.N.Nodup)(hi:X.N[i]? =some x) (hx:u5 X.env.scope x) (hf:X.fn x=true\/X.env.scope.names.lookup x=some .local:=by first|exact .inl rfl|exact .inr rfl|assumption):PG X (.Name x pos) (eg i):=by
 intro pins s σ H v u Q I r h
 exact wpAny_assign_Name (fN I hN hi hx r (fun s' I'=>⟨_,H,I',h⟩) hf)
def vo:sq:=fun vs σ H Q=>vs=[]/\Q σ H
def t6 (t:TG)(u:sq):sq:=fun vs σ H Q=>∃ v r,vs=v::r/\t v σ H fun σ' H'=>u r σ' H' Q
theorem kQ:u6 X [] vo:=by
 intro pins s σ H vs us Q I r h
 obtain⟨e,h⟩:=h
 subst e
 cases r
 exact assignInOrder_nil ⟨σ,H,I,h⟩
theorem eh {e:Expr}{es:List Expr}{t:TG}{u:sq}(h1:PG X e t)(h2:u6 X es u)
  (hs:(assignEach (e::es) X.env).map (·.2)=assign e X.env::(assignEach es X.env).map (·.2):=by rfl):u6 X (e::es) (t6 t u):=by
 intro pins s σ H vs us Q I r h
 obtain⟨v,vr,e1,h⟩:=h
 subst e1
 cases r with
 |cons r rr=>
  rw[hs]
  refine assignInOrder_cons (bH (h1 pins s σ H _ _ _ I r h) fun _ s1 ⟨σ1,H1,I1,q1⟩=>?_)
  exact h2 pins s1 σ1 H1 _ _ Q I1 rr q1
def vp (K:PySem.W.Frag)(n:Nat)(t:sq):TG:=fun v σ H Q=>∃ a xs,v=.ref a/\SqT K H a xs/\xs.length=n/\t xs σ H Q
theorem nc {es:List Expr}{k:Nat}{t:sq}{n:Nat}(hc:X.calm=true)(h:u6 X es t)
  (hn:(assignEach es X.env).length=n:=by rfl) (hst:(assignEach es X.env).findIdx? (·.1)=none:=by rfl):PG X (.Tuple es k pos) (vp X.K n t):=by
 intro pins s σ H v u Q I r hw
 obtain⟨a,xs,e1,hq,hl,hw⟩:=hw
 subst e1
 cases r
 obtain⟨its,rv,ht,hz⟩:=I.tuple hq
 refine assign_Tuple_tuple (I.ok.hd hc) ht (by simp [hn,← hl,rv.length]) hst fun h' hx=>?_
 have I1:Inv X pins σ H {s with heap:=h'}:=I.kept (t':=s.toks) fun b o e=>hx b o (Nat.ne_of_lt (Heap.lt_size e)) e
 exact h pins _ σ H xs _ Q I1 (by simpa using rv) hw
def t7 (te:TE)(g:TG):TS:=fun D σ H=>te σ H fun x H1=>g x σ H1 D.nx
theorem ng {tg e:Expr}{te:TE}{g:TG}(he:PE X e te)(hg:PG X tg g)(hs:swapsWithSole [tg] e pos.line X.env=pure false:=by rfl)(hw:swappedStores [tg] e X.env=pure none:=by rfl)
  (h1:(assignEach [tg] X.env).map (·.2)=[assign tg X.env]:=by rfl):PS X (.Assign [tg] e pos) (t7 te g):=by
 intro pins s σ H D I h
 refine wpAny_Assign_stores (bH (he pins s σ H _ I h) fun v s1 ⟨x,H1,I1,r1,q1⟩=>?_) hs hw
 rw[h1]
 exact bH (hg pins s1 σ H1 x v _ I1 r1 q1) fun _ s2 q=>q
theorem aH {i:Nat}{x:Str}{e:Expr}{te:TE}{pos':Pos}(hN:X.N.Nodup)(hi:X.N[i]? =some x) (hx:u5 X.env.scope x) (he:PE X e te) (hs:swapsWith e (some (.Name x pos')) pos.line X.env=pure false:=by rfl) (hf:X.fn x=true\/X.env.scope.names.lookup x=some .local:=by first|exact .inl rfl|exact .inr rfl|assumption):
  PS X (.Assign [.Name x pos'] e pos) (t7 te (eg i)):=by
 intro pins s σ H D I h
 refine wpAny_Assign_Name (bH (he pins s σ H _ I h) fun v s1 ⟨y,H1,I1,r1,q1⟩=>?_) hs
 exact fN I1 hN hi hx r1 (fun s2 I2=>⟨_,H1,I2,q1⟩) hf
end
section
variable {X:Cx}{pos:Pos}
end
structure It where
 go:Nat->Hp->Prop
 yld:Nat->Hp->V->Hp->Prop
 stop:Nat->Hp->Prop
def ia (X:Cx)(pins:List (Addr×Obj))(H:Hp)(b:Addr):Prop:=
 H b=none/\b≠X.env.locals/\b∉X.fs/\(b∈X.ex\/X.s₀.heap.objs.size<=b)/\(∀ x c,X.env.cells.lookup x=some c->c≠b)/\∀ p∈X.pn++pins,p.1≠b
theorem Inv.fpOk {X:Cx}{pins:List (Addr×Obj)}{σ:St}{H H':Hp}{s:Shared}{b:Addr}(I:Inv X pins σ H s)(hb:s.heap.objs.size<=b)(hn:H' b=none):ia X pins H' b:=by
 refine⟨hn,Nat.ne_of_gt (Nat.lt_of_lt_of_le I.lt hb),I.nofs hb,.inr (Nat.le_trans I.sz hb),fun x c e z=>?_,fun p hp z=>?_⟩
 ·obtain⟨v,q⟩:=I.cell x c e
  exact absurd (Nat.lt_of_lt_of_le q.lt (by rw[z];exact hb)) (Nat.lt_irrefl _)
 ·exact absurd (Nat.lt_of_lt_of_le (Heap.lt_size (I.pin p hp).1) (by rw[z];exact hb)) (Nat.lt_irrefl _)
structure pY (P:Program)(w:World)(K:PySem.W.Frag)(tg:Expr)(J:It)(fp:List Addr)(it:Addr)(tn:Nat->Heap->Prop):Prop where
 mem:it∈fp
 obj:∀ i h,tn i h->∀ b∈fp,∃ o,h.get? b=some o/\∀ v,o.data≠.cell v
 keep:∀ i h h',tn i h->(∀ b∈fp,∀ o,h.get? b=some o->h'.get? b=some o)->tn i h'
 item:∀ (X:Cx),X.prog=P->X.w=w->X.K=K->X.calm=true->∀ (i:Nat) (pins:List (Addr×Obj)) (s:Shared) (σ:St) (H:Hp) (E:Value->Shared->Prop),Inv X pins σ H s->(∀ b∈fp,ia X pins H b)->tn i s.heap->J.go i H->
  wpAny (model P w) X.A (pyNext (.ref it)) (fun r s1=>∃ u,r=some u/\
   wpAny (model P w) X.A (letOwnedTupleGo tg (.ref it) u) (fun _ s2=>∃ x H',Inv X pins σ H' s2/\RelV x u/\J.yld i H x H'/\tn (i+1) s2.heap/\∀ b∈fp,H' b=none) E s1) E s
 done:∀ (X:Cx),X.prog=P->X.w=w->X.K=K->X.calm=true->∀ (i:Nat) (pins:List (Addr×Obj)) (s:Shared) (σ:St) (H:Hp) (E:Value->Shared->Prop),Inv X pins σ H s->(∀ b∈fp,ia X pins H b)->tn i s.heap->J.stop i H->
  wpAny (model P w) X.A (pyNext (.ref it)) (fun r s1=>r=none/\Inv X pins σ H s1) E s
 self:∀ (A:Around) (i:Nat) (s:Shared) (Q:Value->Shared->Prop) (E:Value->Shared->Prop),tn i s.heap->Q (.ref it) s->wpAny (model P w) A (pyIter (.ref it)) Q E s
abbrev TI:=St->Hp->(It->Hp->Prop)->Prop
def vP (X:Cx)(pins:List (Addr×Obj))(σ:St)(tg:Expr)(R:It->Hp->Prop)(itv:Value)(s2:Shared):Prop:=
 ∃ (it:Addr) (fp:List Addr) (tn:Nat->Heap->Prop) (J:It) (H':Hp),itv=.ref it/\Inv X pins σ H' s2/\pY X.prog X.w X.K tg J fp it tn/\tn 0 s2.heap/\(∀ b∈fp,ia X pins H' b)/\R J H'
def PI (X:Cx)(tg iter:Expr)(wi:TI):Prop:=
 ∀ (pins:List (Addr×Obj)) (s:Shared) (σ:St) (H:Hp) (R:It->Hp->Prop),Inv X pins σ H s->wi σ H R->
  wpAny (model X.prog X.w) X.A (eval iter X.env) (fun v s1=>wpAny (model X.prog X.w) X.A (pyIter v) (vP X pins σ tg R) X.xe s1) X.xe s
theorem nh {M:Model}{A:Around}{E:Value->Shared->Prop}{s:Shared}{tg:Expr}{it:Addr}{u:Value}{o:Obj}{n:String}{vs:Array Value}{Q:Unit->Shared->Prop}(ho:s.heap.get? it=some o)(hc:o.cls=.type n)(hd:o.data=.fields vs)
  (hn:["enumerate","zip","dict_itemiterator","dict_reverseitemiterator","odict_iterator","itertools.zip_longest","itertools.pairwise"].contains n=false) (hQ:Q () s):wpAny M A (letOwnedTupleGo tg (.ref it) u) Q E s:=by
 unfold letOwnedTupleGo
 cases tg<;>first
  |exact wpAny_pure hQ
  |(cases u<;>first
    |exact wpAny_pure hQ
    |(refine wpAny_bind (wpAny_load ho ?_)
      rw[hc,hd]
      show wpAny M A (if (["enumerate","zip","dict_itemiterator","dict_reverseitemiterator","odict_iterator","itertools.zip_longest","itertools.pairwise"].contains n&&vs[0]? == some (rawInt _))=true then _ else _) Q E s
      rw[if_neg (by intro h;rw[hn,Bool.false_and] at h;cases h)]
      exact wpAny_pure hQ))
def sr (K:PySem.W.Frag)(a:Addr):It:=
 ⟨fun i H=>∃ xs x,SqL K H a xs/\xs[i]? =some x,fun i H x H'=>H'=H/\∀ xs,SqL K H a xs->xs[i]? =some x,fun i H=>∃ xs,SqL K H a xs/\xs.length<=i⟩
def su (K:PySem.W.Frag)(a:Addr):It:=
 ⟨fun i H=>∃ xs x,SqT K H a xs/\xs[i]? =some x,fun i H x H'=>H'=H/\∀ xs,SqT K H a xs->xs[i]? =some x,fun i H=>∃ xs,SqT K H a xs/\xs.length<=i⟩
def rg (lo:Int)(n:Nat):It:=⟨fun i _=>i < n,fun i H x H'=>H'=H/\x=.int (lo+i),fun i _=>n<=i⟩
theorem l9 {P:Program}{w:World}{K:PySem.W.Frag}{tg:Expr}(a it:Addr):pY P w K tg (sr K a) [it] it (fun i h=>h.IsListIter it a i) where
 mem:=by simp
 obj:=fun i h st b hb=>by
  have e:b=it:=by simpa using hb
  subst e
  obtain⟨o,e,c,d⟩:=st
  exact⟨o,e,fun v z=>by rw[d] at z;cases z⟩
 keep:=fun i h h' st k=>st.at fun o e=>k it (by simp) o e
 item:=by
  intro X hP hw hK hc i pins s σ H E I hf st hg
  subst hP hw hK
  obtain⟨xs,x,hq,hx⟩:=hg
  obtain⟨its,rv,p,hz⟩:=I.list hq
  obtain⟨u,hu,ru⟩:=rv.get hx
  obtain⟨f0,f1,f2,f3,f4,f5⟩:=hf it (by simp)
  refine wpAny_pyNext_list_item st p.isList (x:=u) (by simpa using hu) fun h' st' sb=>?_
  have I1:Inv X pins σ H {s with heap:=h'}:=I.turned (t':=s.toks) (fun b o hb e=>(sb.2 b hb).trans e) f0 f1 f3 f4 f5
  obtain⟨o,e,c,d⟩:=id st'
  exact⟨u,rfl,nh (s:={s with heap:=h'}) e c d (by decide) ⟨x,H,I1,ru,⟨rfl,fun ys hy=>by rw[I.list_inj hy hq];exact hx⟩,st',fun b hb=>(hf b hb).1⟩⟩
 done:=by
  intro X hP hw hK hc i pins s σ H E I hf st hg
  subst hP hw hK
  obtain⟨xs,hq,hx⟩:=hg
  obtain⟨its,rv,p,hz⟩:=I.list hq
  obtain⟨f0,f1,f2,f3,f4,f5⟩:=hf it (by simp)
  have hl:=rv.length
  exact wpAny_pyNext_list_end (I.ok.hd hc) st p.isList (by simp;omega) fun h' eb=>⟨rfl,I.turned (t':=s.toks) (fun b o hb e=>eb b o hb e) f0 f1 f3 f4 f5⟩
 self:=fun _ _ _ _ _ st h=>wpAny_pyIter_listiter st h
theorem jM {P:Program}{w:World}{K:PySem.W.Frag}{tg:Expr}(a it:Addr):pY P w K tg (su K a) [it] it (fun i h=>h.IsTupleIter it a i) where
 mem:=by simp
 obj:=fun i h st b hb=>by
  have e:b=it:=by simpa using hb
  subst e
  obtain⟨o,e,c,d⟩:=st
  exact⟨o,e,fun v z=>by rw[d] at z;cases z⟩
 keep:=fun i h h' st k=>st.at fun o e=>k it (by simp) o e
 item:=by
  intro X hP hw hK hc i pins s σ H E I hf st hg
  subst hP hw hK
  obtain⟨xs,x,hq,hx⟩:=hg
  obtain⟨its,rv,p,hz⟩:=I.tuple hq
  obtain⟨u,hu,ru⟩:=rv.get hx
  obtain⟨f0,f1,f2,f3,f4,f5⟩:=hf it (by simp)
  refine wpAny_pyNext_tuple_item st (show s.heap.IsTuple a its.toArray from p) (x:=u) (by simpa using hu) fun h' st' sb=>?_
  have I1:Inv X pins σ H {s with heap:=h'}:=I.turned (t':=s.toks) (fun b o hb e=>(sb.2 b hb).trans e) f0 f1 f3 f4 f5
  obtain⟨o,e,c,d⟩:=id st'
  exact⟨u,rfl,nh (s:={s with heap:=h'}) e c d (by decide) ⟨x,H,I1,ru,⟨rfl,fun ys hy=>by rw[I.tuple_inj hy hq];exact hx⟩,st',fun b hb=>(hf b hb).1⟩⟩
 done:=by
  intro X hP hw hK hc i pins s σ H E I hf st hg
  subst hP hw hK
  obtain⟨xs,hq,hx⟩:=hg
  obtain⟨its,rv,p,hz⟩:=I.tuple hq
  obtain⟨f0,f1,f2,f3,f4,f5⟩:=hf it (by simp)
  have hl:=rv.length
  exact wpAny_pyNext_tuple_end (I.ok.hd hc) st (show s.heap.IsTuple a its.toArray from p) (by simp;omega) fun h' eb=>⟨rfl,I.turned (t':=s.toks) (fun b o hb e=>eb b o hb e) f0 f1 f3 f4 f5⟩
 self:=fun _ _ _ _ _ st h=>wpAny_pyIter_tupleiter st h
theorem jN {P:Program}{w:World}{K:PySem.W.Frag}{tg:Expr}(it:Addr)(lo:Int)(n:Nat):pY P w K tg (rg lo n) [it] it (fun i h=>IsRangeIter h it (lo+(i:Nat)*1) ((n:Int) - (i:Nat)) 1) where
 mem:=by simp
 obj:=fun i h st b hb=>by
  have e:b=it:=by simpa using hb
  subst e
  exact⟨_,st,fun v z=>by
   have z':Data.fields _=Data.cell v:=z
   cases z'⟩
 keep:=fun i h h' st k=>k it (by simp) _ st
 item:=by
  intro X hP hw hK hc i pins s σ H E I hf st hg
  subst hP hw hK
  obtain⟨f0,f1,f2,f3,f4,f5⟩:=hf it (by simp)
  have W:=Walks.range (prog:=X.prog) (w:=X.w) (I.ok.hd hc) it lo 1 n
  refine W.item i s _ _ hg st fun v h' tk hv st' kk=>?_
  obtain⟨t,rfl⟩:=hv
  have I1:Inv X pins σ H {s with heap:=h',toks:=tk}:=I.turned (fun b o hb e=>kk b o (by simpa using hb) e) f0 f1 f3 f4 f5
  refine⟨_,rfl,nh (s:={s with heap:=h',toks:=tk}) (n:="range_iterator") st' rfl rfl (by decide) ⟨.int (lo+i),H,I1,⟨t,?_⟩,⟨rfl,rfl⟩,st',fun b hb=>(hf b hb).1⟩⟩
  rw[Int.mul_one]
 done:=by
  intro X hP hw hK hc i pins s σ H E I hf st hg
  subst hP hw hK
  obtain⟨f0,f1,f2,f3,f4,f5⟩:=hf it (by simp)
  exact wpAny_pyNext_range_end (I.ok.hd hc) st (by have:n<=i:=hg;omega) fun h' eb=>⟨rfl,I.turned (t':=s.toks) (fun b o hb e=>eb b o hb e) f0 f1 f3 f4 f5⟩
 self:=fun _ _ _ _ _ st h=>wpAny_pyIter_rangeiter st h
end L2
namespace L2
open PySem PySem.Spec PyProof.Rows
section
variable {X:Cx}{tg:Expr}
inductive t9 (K:PySem.W.Frag)(x:V)(H:Hp)(R:It->Hp->Prop):Prop
 |mk (a:Addr)(h:x=.ref a)(e:∃ xs,SqL K H a xs)(r:R (sr K a) H):t9 K x H R
inductive t_ (K:PySem.W.Frag)(x:V)(H:Hp)(R:It->Hp->Prop):Prop
 |mk (a:Addr)(h:x=.ref a)(e:∃ xs,SqT K H a xs)(r:R (su K a) H):t_ K x H R
def ua (K:PySem.W.Frag)(tl:TE):TI:=fun σ H R=>tl σ H fun x H1=>t9 K x H1 R
def ub (K:PySem.W.Frag)(tl:TE):TI:=fun σ H R=>tl σ H fun x H1=>t_ K x H1 R
theorem bc {l:Expr}{tl:TE}(hl:PE X l tl):PI X tg l (ua X.K tl):=by
 intro pins s σ H R I h
 refine bH (hl pins s σ H _ I h) fun v s1 ⟨x,H1,I1,r1,q1⟩=>?_
 obtain⟨a,e,⟨xs,hq⟩,q⟩:=q1
 subst e
 cases r1
 obtain⟨its,rv,p,hz⟩:=I1.list hq
 refine wpAny_pyIter_list p.isList ?_
 refine⟨s1.heap.objs.size,[s1.heap.objs.size],_,_,H1,rfl,I1.kept (t':=s1.toks) fun b o e=>Heap.get?_push_of_some _ e,l9 a _,⟨_,Heap.get?_push_size _ rfl,rfl,rfl⟩,fun b hb=>?_,q⟩
 have e:b=s1.heap.objs.size:=by simpa using hb
 subst e
 exact I1.fpOk (Nat.le_refl _) (I1.hok.fresh (Nat.le_refl _))
theorem ci {l:Expr}{tl:TE}(hl:PE X l tl):PI X tg l (ub X.K tl):=by
 intro pins s σ H R I h
 refine bH (hl pins s σ H _ I h) fun v s1 ⟨x,H1,I1,r1,q1⟩=>?_
 obtain⟨a,e,⟨xs,hq⟩,q⟩:=q1
 subst e
 cases r1
 obtain⟨its,rv,p,hz⟩:=I1.tuple hq
 refine wpAny_pyIter_tuple (show s1.heap.IsTuple a its.toArray from p) ?_
 refine⟨s1.heap.objs.size,[s1.heap.objs.size],_,_,H1,rfl,I1.kept (t':=s1.toks) fun b o e=>Heap.get?_push_of_some _ e,jM a _,⟨_,Heap.get?_push_size _ rfl,rfl,rfl⟩,fun b hb=>?_,q⟩
 have e:b=s1.heap.objs.size:=by simpa using hb
 subst e
 exact I1.fpOk (Nat.le_refl _) (I1.hok.fresh (Nat.le_refl _))
theorem iT {pins:List (Addr×Obj)}{σ:St}{H:Hp}{s:Shared}{R:It->Hp->Prop}{E:Value->Shared->Prop}{lo hi:Int}{t u v:Tok}{tk:Nat}(I:Inv X pins σ H s)(h1:-(2 ^ 62)<=lo)(h2:lo < 2 ^ 62)(h3:-(2 ^ 62)<=hi)(h4:hi < 2 ^ 62)
  (q:R (rg lo (hi - lo).toNat) H):wpAny (model X.prog X.w) X.A (pyIter (.ref s.heap.objs.size)) (vP X pins σ tg R) E {s with heap:=s.heap.push {cls:=.type "range",data:=.fields #[.int lo t,.int hi u,.int 1 v]},toks:=tk}:=by
 refine wpAny_pyIter_range (IsRange.new ..) (small_one h1 h2 h3 h4) ?_
 have I1:Inv X pins σ H {s with heap:=s.heap.push {cls:=.type "range",data:=.fields #[.int lo t,.int hi u,.int 1 v]},toks:=tk}:=I.kept fun b o e=>Heap.get?_push_of_some _ e
 refine⟨(s.heap.push {cls:=.type "range",data:=.fields #[.int lo t,.int hi u,.int 1 v]}).objs.size,[(s.heap.push {cls:=.type "range",data:=.fields #[.int lo t,.int hi u,.int 1 v]}).objs.size],_,_,H,rfl,
  I1.kept (t':=tk) fun b o e=>Heap.get?_push_of_some _ e,jN _ lo (hi - lo).toNat,?_,fun b hb=>?_,q⟩
 ·have e1:lo+((0:Nat):Int)*1=lo:=by simp
  have e2:(((hi - lo).toNat:Nat):Int) - ((0:Nat):Int)=Builtin.Range.rangeSize lo hi 1:=by rw[rangeSize_one];split<;>omega
  show IsRangeIter _ _ (lo+((0:Nat):Int)*1) ((((hi - lo).toNat:Nat):Int) - ((0:Nat):Int)) 1
  rw[e1,e2]
  exact Heap.get?_push_size _ rfl
 ·have e:b=(s.heap.push {cls:=.type "range",data:=.fields #[.int lo t,.int hi u,.int 1 v]}).objs.size:=by simpa using hb
  subst e
  exact I1.fpOk (Nat.le_refl _) (I1.hok.fresh (Nat.le_refl _))
def uc (ta:TA):TI:=fun σ H R=>ta σ H fun vs H1=>∃ j:Int,vs=[.int j]/\ -(2 ^ 62)<=j/\j < 2 ^ 62/\R (rg 0 j.toNat) H1
def ue (ta:TA):TI:=fun σ H R=>ta σ H fun vs H1=>∃ i j:Int,vs=[.int i,.int j]/\(-(2 ^ 62)<=i/\i < 2 ^ 62/\ -(2 ^ 62)<=j/\j < 2 ^ 62)/\R (rg i (j - i).toNat) H1
theorem eT {a:Expr}{ta:TA}{p pos:Pos}(hg:Gl X "range")(hm:X.mg "range"=none)(ha:PA X [a] ta)(hs:starEach [a] X.env=[(false,eval a X.env)]:=by rfl):PI X tg (.Call (.Name "range" p) [a] [] pos) (uc ta):=by
 intro pins s σ H R I h
 refine Call_ (eR I hg hm boot_range (PyProof.Rows.callWith_type1 (bH (ha pos pins s σ H _ I h) fun us s1 ⟨vs,H1,I1,r1,q1⟩=>?_) hs rfl))
 obtain⟨j,e,q1,q2,q⟩:=q1
 subst e
 cases r1 with
 |cons r rr=>
  cases rr
  obtain⟨t,rfl⟩:=r
  exact call_range_1 (iT I1 (by omega) (by omega) q1 q2 (by simpa using q))
theorem l_ {a b:Expr}{ta:TA}{p pos:Pos}(hg:Gl X "range")(hm:X.mg "range"=none)(ha:PA X [a,b] ta)(hs:starEach [a,b] X.env=[(false,eval a X.env),(false,eval b X.env)]:=by rfl)(hs2:starEach [b] X.env=[(false,eval b X.env)]:=by rfl):
  PI X tg (.Call (.Name "range" p) [a,b] [] pos) (ue ta):=by
 intro pins s σ H R I h
 refine Call_ (eR I hg hm boot_range (PyProof.Rows.callWith_type1 (bH (ha pos pins s σ H _ I h) fun us s1 ⟨vs,H1,I1,r1,q1⟩=>?_) (by rw[hs,hs2]) (by rw[hs2];rfl)))
 obtain⟨i,j,e,⟨q1,q2,q3,q4⟩,q⟩:=q1
 subst e
 cases r1 with
 |cons r rr=>
  cases rr with
  |cons r' rr=>
   cases rr
   obtain⟨t,rfl⟩:=r
   obtain⟨t',rfl⟩:=r'
   exact call_range_2 (iT I1 q1 q2 q3 q4 q)
def vq (wi:TI)(g:TG)(tb:TS):TS:=fun D σ H=>wi σ H fun J H1=>∃ W:Nat->Nat->St->Hp->Prop,(∃ m,W 0 m σ H1)/\∀ i m σ H,W i m σ H->
 (J.stop i H/\D.nx σ H)\/(J.go i H/\∃ N:St->Hp->Prop,(∀ σ' H',N σ' H'->∃ m',m' < m/\W (i+1) m' σ' H')/\∀ x H',J.yld i H x H'->g x σ H' fun σ2 H2=>tb {D with nx:=N,ct:=N,bk:=D.nx} σ2 H2)
def fP (fp:List Addr)(h:Heap):List (Addr×Obj):=fp.filterMap fun b=>(h.get? b).map fun o=>(b,o)
theorem cZ {fp:List Addr}{h:Heap}{b:Addr}{o:Obj}(hb:b∈fp)(e:h.get? b=some o):(b,o)∈fP fp h:=List.mem_filterMap.mpr ⟨b,hb,by rw[e];rfl⟩
theorem ma {fp:List Addr}{h:Heap}{p:Addr×Obj}(hp:p∈fP fp h):p.1∈fp/\h.get? p.1=some p.2:=by
 obtain⟨b,hb,e⟩:=List.mem_filterMap.mp hp
 cases q:h.get? b with
 |none=>rw[q] at e;cases e
 |some o=>
  rw[q] at e
  have e':(b,o)=p:=Option.some.inj e
  subst e'
  exact⟨hb,q⟩
theorem Inv.pinned {pins:List (Addr×Obj)}{σ:St}{H:Hp}{s:Shared}{fp:List Addr}(I:Inv X pins σ H s)(hf:∀ b∈fp,ia X pins H b)(ho:∀ b∈fp,∃ o,s.heap.get? b=some o/\∀ v,o.data≠.cell v):Inv X (pins++fP fp s.heap) σ H s:=
 I.pins_of fun p hp=>(List.mem_append.mp hp).elim (fun z=>I.pin p (List.mem_append_right _ z)) fun z=>by
  obtain⟨hb,e⟩:=ma z
  obtain⟨f0,f1,f2,_⟩:=hf p.1 hb
  obtain⟨o,e',d⟩:=ho p.1 hb
  rw[e] at e';cases e'
  exact⟨e,f0,f1,f2,d⟩
theorem Inv.unpinned {pins pl:List (Addr×Obj)}{σ:St}{H:Hp}{s:Shared}(I:Inv X (pins++pl) σ H s):Inv X pins σ H s:=I.pins_of fun p hp=>I.pin p (List.mem_append_right _ (List.mem_append_left _ hp))
theorem cP {iter:Expr}{body:List Stmt}{wi:TI}{g:TG}{tb:TS}{pos:Pos}(hp:PassesOwn (model X.prog X.w) X.A X.env X.xe)(hc:X.calm=true)(hi:PI X tg iter wi)(hg:PG X tg g)(hb:PSs X body tb)
  (hs:∀ x,foldedSetIterable iter X.env x=pure x:=by intro _;rfl):PS X (.For tg iter body [] pos) (vq wi g tb):=by
 intro pins s σ H D I h
 refine wpAny_For (bH (hi pins s σ H _ I h) fun v s1 h1=>bH h1 fun itv s2 h2=>?_) hs
 obtain⟨it,fp,tn,J,H2,e,I2,T,st2,f2,W,⟨m0,w0⟩,turn⟩:=h2
 subst e
 have stat:∀ {H':Hp},(∀ b∈fp,H' b=none)->∀ b∈fp,ia X pins H' b:=fun hn b hb=>⟨hn b hb,(f2 b hb).2⟩
 refine codeAny_forLoop_any (fun n s'=>∃ i σ' H',Inv X pins σ' H' s'/\tn i s'.heap/\(∀ b∈fp,H' b=none)/\W i n σ' H') ?_ m0 ⟨0,σ,H2,I2,st2,fun b hb=>(f2 b hb).1,w0⟩
 rintro n s3 ⟨i,σ3,H3,I3,st3,fr3,w3⟩
 rcases turn i n σ3 H3 w3 with⟨stop,qn⟩|⟨go,N,hN,step⟩
 ·refine wpAny_passesOwn hp (bH (T.done X rfl rfl rfl hc i pins s3 σ3 H3 X.xe I3 (stat fr3) st3 stop) fun r s4 ⟨hr,I4⟩=>?_)
  subst hr
  exact wpAny_execs_nil ⟨σ3,H3,I4,qn⟩
 ·refine wpAny_passesOwn hp (bH (T.item X rfl rfl rfl hc i pins s3 σ3 H3 X.xe I3 (stat fr3) st3 go) fun r s4 ⟨u,hr,h4⟩=>?_)
  subst hr
  refine wpAny_passesOwn hp (bH h4 fun _ s5 ⟨x,H5,I5,r5,y5,st5,fr5⟩=>?_)
  have I5':=I5.pinned (stat fr5) (T.obj _ _ st5)
  refine wpAny_passesOwn hp (bH (hg _ s5 σ3 H5 x u _ I5' r5 (step x H5 y5)) fun _ s6 ⟨σ6,H6,I6,q6⟩=>?_)
  refine wpAny_passesOwn hp (bH (hb _ s6 σ6 H6 _ I6 q6) fun f s7 q7=>?_)
  have again:∀ {σ7:St} {H7:Hp},Inv X (pins++fP fp s5.heap) σ7 H7 s7->N σ7 H7->∃ m,m < n/\∃ i σ' H',Inv X pins σ' H' s7/\tn i s7.heap/\(∀ b∈fp,H' b=none)/\W i m σ' H':=fun {σ7 H7} I7 n7=>by
   obtain⟨m',hm,w7⟩:=hN σ7 H7 n7
   refine⟨m',hm,i+1,σ7,H7,I7.unpinned,T.keep _ _ _ st5 fun b hb o e=>(I7.pin (b,o) (List.mem_append_right _ (List.mem_append_right _ (cZ hb e)))).1,fun b hb=>?_,w7⟩
   obtain⟨o,e,d⟩:=T.obj _ _ st5 b hb
   exact (I7.pin (b,o) (List.mem_append_right _ (List.mem_append_right _ (cZ hb e)))).2.1
  cases f with
  |next=>obtain⟨σ7,H7,I7,n7⟩:=q7;exact again I7 n7
  |cont=>obtain⟨σ7,H7,I7,n7⟩:=q7;exact again I7 n7
  |brk=>obtain⟨σ7,H7,I7,q7⟩:=q7;exact⟨σ7,H7,I7.unpinned,q7⟩
  |ret v=>obtain⟨x7,σ7,H7,I7,r7,q7⟩:=q7;exact⟨x7,σ7,H7,I7.unpinned,r7,q7⟩
end
theorem dk {K:PySem.W.Frag}{a:Addr}{xs:List V}{g:TG}{tb:TS}{D:gw}{σ:St}{H:Hp}(Pv:Nat->St->Hp->Prop)(h0:Pv 0 σ H)(hl:∀ i σ H,i<=xs.length->Pv i σ H->SqL K H a xs)
  (hs:∀ i x σ H,xs[i]? =some x->Pv i σ H->g x σ H fun σ2 H2=>tb {D with nx:=Pv (i+1),ct:=Pv (i+1),bk:=D.nx} σ2 H2) (hd:∀ σ H,Pv xs.length σ H->D.nx σ H):
  ∃ W:Nat->Nat->St->Hp->Prop,(∃ m,W 0 m σ H)/\∀ i m σ H,W i m σ H->
   ((sr K a).stop i H/\D.nx σ H)\/((sr K a).go i H/\∃ N:St->Hp->Prop,(∀ σ' H',N σ' H'->∃ m',m' < m/\W (i+1) m' σ' H')/\∀ x H',(sr K a).yld i H x H'->g x σ H' fun σ2 H2=>tb {D with nx:=N,ct:=N,bk:=D.nx} σ2 H2):=by
 refine⟨fun i m σ H=>m=xs.length - i/\i<=xs.length/\Pv i σ H,⟨xs.length,by simp,Nat.zero_le _,h0⟩,?_⟩
 rintro i m σ H ⟨rfl,hi,p⟩
 have q:=hl i σ H hi p
 by_cases hlt:i < xs.length
 ·refine .inr ⟨⟨xs,xs[i],q,by simp [hlt]⟩,Pv (i+1),fun σ' H' p'=>⟨xs.length - (i+1),by omega,rfl,hlt,p'⟩,fun x H' y=>?_⟩
  obtain⟨e,y⟩:=y
  subst e
  exact hs i x σ _ (y xs q) p
 ·have e:i=xs.length:=by omega
  subst e
  exact .inl ⟨⟨xs,q,Nat.le_refl _⟩,hd σ H p⟩
theorem kR {K:PySem.W.Frag}{a:Addr}{xs:List V}{g:TG}{tb:TS}{D:gw}{σ:St}{H:Hp}(Pv:Nat->St->Hp->Prop)(h0:Pv 0 σ H)(hl:∀ i σ H,i<=xs.length->Pv i σ H->SqT K H a xs)
  (hs:∀ i x σ H,xs[i]? =some x->Pv i σ H->g x σ H fun σ2 H2=>tb {D with nx:=Pv (i+1),ct:=Pv (i+1),bk:=D.nx} σ2 H2) (hd:∀ σ H,Pv xs.length σ H->D.nx σ H):
  ∃ W:Nat->Nat->St->Hp->Prop,(∃ m,W 0 m σ H)/\∀ i m σ H,W i m σ H->
   ((su K a).stop i H/\D.nx σ H)\/((su K a).go i H/\∃ N:St->Hp->Prop,(∀ σ' H',N σ' H'->∃ m',m' < m/\W (i+1) m' σ' H')/\∀ x H',(su K a).yld i H x H'->g x σ H' fun σ2 H2=>tb {D with nx:=N,ct:=N,bk:=D.nx} σ2 H2):=by
 refine⟨fun i m σ H=>m=xs.length - i/\i<=xs.length/\Pv i σ H,⟨xs.length,by simp,Nat.zero_le _,h0⟩,?_⟩
 rintro i m σ H ⟨rfl,hi,p⟩
 have q:=hl i σ H hi p
 by_cases hlt:i < xs.length
 ·refine .inr ⟨⟨xs,xs[i],q,by simp [hlt]⟩,Pv (i+1),fun σ' H' p'=>⟨xs.length - (i+1),by omega,rfl,hlt,p'⟩,fun x H' y=>?_⟩
  obtain⟨e,y⟩:=y
  subst e
  exact hs i x σ _ (y xs q) p
 ·have e:i=xs.length:=by omega
  subst e
  exact .inl ⟨⟨xs,q,Nat.le_refl _⟩,hd σ H p⟩
theorem gF {lo:Int}{n:Nat}{g:TG}{tb:TS}{D:gw}{σ:St}{H:Hp}(Pv:Nat->St->Hp->Prop)(h0:Pv 0 σ H)
  (hs:∀ i σ H,i < n->Pv i σ H->g (.int (lo+i)) σ H fun σ2 H2=>tb {D with nx:=Pv (i+1),ct:=Pv (i+1),bk:=D.nx} σ2 H2) (hd:∀ σ H,Pv n σ H->D.nx σ H):
  ∃ W:Nat->Nat->St->Hp->Prop,(∃ m,W 0 m σ H)/\∀ i m σ H,W i m σ H->
   ((rg lo n).stop i H/\D.nx σ H)\/((rg lo n).go i H/\∃ N:St->Hp->Prop,(∀ σ' H',N σ' H'->∃ m',m' < m/\W (i+1) m' σ' H')/\∀ x H',(rg lo n).yld i H x H'->g x σ H' fun σ2 H2=>tb {D with nx:=N,ct:=N,bk:=D.nx} σ2 H2):=by
 refine⟨fun i m σ H=>m=n - i/\i<=n/\Pv i σ H,⟨n,by simp,Nat.zero_le _,h0⟩,?_⟩
 rintro i m σ H ⟨rfl,hi,p⟩
 by_cases hlt:i < n
 ·refine .inr ⟨hlt,Pv (i+1),fun σ' H' p'=>⟨n - (i+1),by omega,rfl,hlt,p'⟩,fun x H' y=>?_⟩
  obtain⟨e,y⟩:=y
  subst e y
  exact hs i σ _ hlt p
 ·have e:i=n:=by omega
  subst e
  exact .inl ⟨Nat.le_refl _,hd σ H p⟩
end L2
namespace L2
open PySem PySem.Spec PyProof.Rows
abbrev R2:=V->V->Hp->VK->Prop
def OpR (X:Cx)(f:Value->Value->Sem Value)(r:R2):Prop:=
 ∀ (pins:List (Addr×Obj)) (s:Shared) (σ:St) (H:Hp) (x y:V) (v u:Value) (Q:VK),Inv X pins σ H s->RelV x v->RelV y u->r x y H Q->
  wpAny (model X.prog X.w) X.A (f v u) (EP X pins σ Q) X.xe s
def vt (X:Cx)(f:Value->Sem Value)(r:V->Hp->VK->Prop):Prop:=
 ∀ (pins:List (Addr×Obj)) (s:Shared) (σ:St) (H:Hp) (x:V) (v:Value) (Q:VK),Inv X pins σ H s->RelV x v->r x H Q->
  wpAny (model X.prog X.w) X.A (f v) (EP X pins σ Q) X.xe s
def cL (X:Cx)(f:Value)(r:List V->Hp->VK->Prop):Prop:=
 ∀ (pins:List (Addr×Obj)) (s:Shared) (σ:St) (H:Hp) (xs:List V) (us:List Value) (Q:VK),Inv X pins σ H s->Vals xs us->r xs H Q->
  wpAny (model X.prog X.w) X.A (call f us) (EP X pins σ Q) X.xe s
def u7 (r:R2)(ta tb:TE):TE:=fun σ H Q=>ta σ H fun x H1=>tb σ H1 fun y H2=>r x y H2 Q
def wf (r:V->Hp->VK->Prop)(ta:TE):TE:=fun σ H Q=>ta σ H fun x H1=>r x H1 Q
inductive vR (C:Int->Int->Prop)(g:Int->Int->V)(x y:V)(H:Hp)(Q:VK):Prop
 |mk (i j:Int)(hx:x=.int i)(hy:y=.int j)(c:C i j)(q:Q (g i j) H):vR C g x y H Q
inductive vS (g:Int->Int->V)(x y:V)(H:Hp)(Q:VK):Prop
 |mk (i j:Int)(hx:x=.int i)(hy:y=.int j)(q:Q (g i j) H):vS g x y H Q
inductive vT (g:Int->V)(x:V)(H:Hp)(Q:VK):Prop
 |mk (i:Int)(hx:x=.int i)(q:Q (g i) H):vT g x H Q
def rI (C:Int->Int->Prop)(g:Int->Int->V):R2:=fun x y H Q=>vR C g x y H Q
def pZ (g:Int->Int->V):R2:=fun x y H Q=>vS g x y H Q
def rU (g:Int->V):V->Hp->VK->Prop:=fun x H Q=>vT g x H Q
section
variable {X:Cx}{a b c:Expr}{ta tb tc:TE}{pos:Pos}
theorem sv (ha:PE X a ta)(hb:PE X b tb){pins:List (Addr×Obj)}{s:Shared}{σ:St}{H:Hp}{R:V->V->Hp->Prop}(I:Inv X pins σ H s)
  (h:ta σ H fun x H1=>tb σ H1 fun y H2=>R x y H2) {Q:Value->Shared->Prop} {f:Value->Value->Sem Value}
  (hf:∀ v u s2 x y H2,Inv X pins σ H2 s2->RelV x v->RelV y u->R x y H2->wpAny (model X.prog X.w) X.A (f v u) Q X.xe s2):
  wpAny (model X.prog X.w) X.A (eval a X.env) (fun v s₁=>wpAny (model X.prog X.w) X.A (eval b X.env) (fun u s₂=>wpAny (model X.prog X.w) X.A (f v u) Q X.xe s₂) X.xe s₁) X.xe s:=by
 refine bH (ha pins s σ H _ I h) fun v s1 ⟨x,H1,I1,r1,q1⟩=>?_
 refine bH (hb pins s1 σ H1 _ I1 q1) fun u s2 ⟨y,H2,I2,r2,q2⟩=>?_
 exact hf v u s2 x y H2 I2 r1 r2 q2
theorem av {op:Operator}{r:R2}(ho:OpR X (binaryOp op) r)(ha:PE X a ta)(hb:PE X b tb):PE X (.BinOp a op b pos) (u7 r ta tb):=by
 intro pins s σ H Q I h
 exact wpAny_BinOp (sv ha hb I h fun v u s2 x y H2 I2 rx ry q=>ho pins s2 σ H2 x y v u Q I2 rx ry q)
theorem fm {op:UnaryOp}{r:V->Hp->VK->Prop}(ho:vt X (unaryOp op) r)(ha:PE X a ta):PE X (.UnaryOp op a pos) (wf r ta):=by
 intro pins s σ H Q I h
 exact UnaryOp_ (bH (ha pins s σ H _ I h) fun v s1 ⟨x,H1,I1,r1,q1⟩=>ho pins s1 σ H1 x v Q I1 r1 q1)
theorem uf {f:Value->Value->Sem Value}{C:Int->Int->Prop}{g:Int->Int->Int}
  (rule:∀ (i j:Int) (t u:Tok) (s:Shared) (Q:Value->Shared->Prop) (E:Value->Shared->Prop),C i j->Q (.int (g i j) s.toks) {s with toks:=s.toks+1}->wpAny (model X.prog X.w) X.A (f (.int i t) (.int j u)) Q E s):
  OpR X f (rI C fun i j=>.int (g i j)):=by
 intro pins s σ H x y v u Q I rx ry h
 obtain⟨i,j,rfl,rfl,hc,q⟩:=h
 obtain⟨t,rfl⟩:=rx
 obtain⟨t',rfl⟩:=ry
 exact rule i j t t' s _ _ hc ⟨.int (g i j),H,I.tok _,⟨_,rfl⟩,q⟩
theorem sw {f:Value->Value->Sem Value}{g:Int->Int->Int}
  (rule:∀ (i j:Int) (t u:Tok) (s:Shared) (Q:Value->Shared->Prop) (E:Value->Shared->Prop),Q (.int (g i j) s.toks) {s with toks:=s.toks+1}->wpAny (model X.prog X.w) X.A (f (.int i t) (.int j u)) Q E s):
  OpR X f (pZ fun i j=>.int (g i j)):=by
 intro pins s σ H x y v u Q I rx ry h
 obtain⟨i,j,rfl,rfl,q⟩:=h
 obtain⟨t,rfl⟩:=rx
 obtain⟨t',rfl⟩:=ry
 exact rule i j t t' s _ _ ⟨.int (g i j),H,I.tok _,⟨_,rfl⟩,q⟩
theorem p0 {f:Value->Value->Sem Value}{g:Int->Int->Bool}
  (rule:∀ (i j:Int) (t u:Tok) (s:Shared) (Q:Value->Shared->Prop) (E:Value->Shared->Prop),Q (.bool (g i j)) s->wpAny (model X.prog X.w) X.A (f (.int i t) (.int j u)) Q E s):
  OpR X f (pZ fun i j=>.bl (g i j)):=by
 intro pins s σ H x y v u Q I rx ry h
 obtain⟨i,j,rfl,rfl,q⟩:=h
 obtain⟨t,rfl⟩:=rx
 obtain⟨t',rfl⟩:=ry
 exact rule i j t t' s _ _ ⟨.bl (g i j),H,I,rfl,q⟩
def vv (i j:Int):Prop:=0 < j/\j < 1073741824
def vw (i j:Int):Prop:=0<=j/\j<=1000000/\i.natAbs < 2 ^ 64
def CMul (i j:Int):Prop:=(-(2 ^ 64) < i/\i < 2 ^ 64)\/(-(2 ^ 64) < j/\j < 2 ^ 64)
theorem CMul.ok {i j:Int}(h:CMul i j):IntMulOk i j:=by
 rcases h with⟨h1,h2⟩|⟨h1,h2⟩
 ·exact .of_left (intBits_le_64 h1 h2)
 ·exact .of_right (intBits_le_64 h1 h2)
theorem jO (k:Nat):(0:Int)<=2 ^ k:=by
 rw[two_pow_cast]
 exact Int.natCast_nonneg _
theorem bu:OpR X (binaryOp .Add) (pZ fun i j=>.int (i+j)):=sw fun _ _ _ _ _ _ _ q=>add_int q
theorem cB:OpR X (binaryOp .Sub) (pZ fun i j=>.int (i - j)):=sw fun _ _ _ _ _ _ _ q=>sub_int q
theorem eU:OpR X (binaryOp .Mult) (rI CMul fun i j=>.int (i*j)):=uf fun _ _ _ _ _ _ _ hc q=>mul_int q hc.ok
theorem b8:OpR X (binaryOp .FloorDiv) (rI vv fun i j=>.int (i / j)):=uf fun i j _ _ _ _ _ hc q=>by
 have h1:(0:Int) < j:=hc.1
 have h2:j < 1073741824:=hc.2
 exact floordiv_int (by omega) (by rw[Int.fdiv_eq_ediv_of_nonneg i (by omega)];exact q) (.inl (PyProof.noPylong_small (by omega)))
theorem bD:OpR X (binaryOp .Mod) (rI (fun _ j=>0 < j) fun i j=>.int (i % j)):=uf fun i j _ _ _ _ _ hc q=>by
 have h1:(0:Int) < j:=hc
 exact mod_int' (by omega) (by rw[Int.fmod_eq_emod_of_nonneg i (by omega)];exact q)
theorem sy:OpR X (binaryOp .Pow) (rI vw fun i j=>.int (i ^ j.toNat)):=uf fun _ _ _ _ _ _ _ hc q=>pow_int_small hc.1 hc.2.1 hc.2.2 q
theorem sA:OpR X (binaryOp .RShift) (rI (fun _ j=>0<=j) fun i j=>.int (i / 2 ^ j.toNat)):=uf fun i j _ _ _ _ _ hc q=>
 rshift_int hc (by rw[Int.fdiv_eq_ediv_of_nonneg i (jO _)];exact q)
theorem sB:OpR X (binaryOp .BitAnd) (pZ fun i j=>.int (Builtin.bitAnd i j)):=sw fun _ _ _ _ _ _ _ q=>and_int q
theorem wg {f:Value->Sem Value}{g:Int->Int}
  (rule:∀ (i:Int) (t:Tok) (s:Shared) (Q:Value->Shared->Prop) (E:Value->Shared->Prop),Q (.int (g i) s.toks) {s with toks:=s.toks+1}->wpAny (model X.prog X.w) X.A (f (.int i t)) Q E s):
  vt X f (rU fun i=>.int (g i)):=by
 intro pins s σ H x v Q I rx h
 obtain⟨i,rfl,q⟩:=h
 obtain⟨t,rfl⟩:=rx
 exact rule i t s _ _ ⟨.int (g i),H,I.tok _,⟨_,rfl⟩,q⟩
theorem dm:vt X (unaryOp .USub) (rU fun i=>.int (-i)):=wg fun _ _ _ _ _ q=>neg_int q
end
def sC:V->V->Bool
 |.non,.non=>true|.non,.int _=>true|.int _,.non=>true|.non,.bl _=>true|.bl _,.non=>true|.non,.str _=>true|.str _,.non=>true
 |.int _,.int _=>true|.bl _,.bl _=>true|.str _,.str _=>true|.byt _,.byt _=>true
 |.int _,.str _=>true|.str _,.int _=>true|.bl _,.str _=>true|.str _,.bl _=>true
 |_,_=>false
def vU:R2:=fun x y H Q=>sC x y=true/\Q (.bl (decide (x=y))) H
def vx:R2:=fun x y H Q=>sC x y=true/\Q (.bl (!decide (x=y))) H
theorem kT {i j:Int}:decide (V.int i=V.int j)=(i == j):=by
 rw[Bool.eq_iff_iff]
 simp
theorem nj {i j:Bool}:decide (V.bl i=V.bl j)=(i == j):=by
 rw[Bool.eq_iff_iff]
 simp
theorem kU {i j:Str}:decide (V.str i=V.str j)=(i == j):=by
 rw[Bool.eq_iff_iff]
 simp
theorem kW {i j:Array UInt8}:decide (V.byt i=V.byt j)=(i.toList == j.toList):=by
 rw[Bool.eq_iff_iff]
 cases i
 cases j
 simp
section
variable {X:Cx}{a b c:Expr}{ta tb tc:TE}{pos:Pos}
theorem aT {pins:List (Addr×Obj)}{σ:St}{H:Hp}{s:Shared}{Q:VK}{k k':Bool}(I:Inv X pins σ H s)(q:Q (.bl k) H)(e:k=k'):EP X pins σ Q (.bool k') s:=by
 subst e
 exact⟨.bl k,H,I,rfl,q⟩
theorem ug:OpR X (compareOp .Eq) vU:=by
 intro pins s σ H x y v u Q I rx ry h
 obtain⟨hs,q⟩:=h
 cases x with
 |non=>
  cases rx
  cases y with
  |non=>cases ry;exact PySem.EqNone.eq_none_none (aT I q (by simp))
  |bl j=>cases ry;exact PySem.EqNone.eq_none_bool (aT I q (by simp))
  |int j=>obtain⟨t',rfl⟩:=ry;exact PySem.EqNone.eq_none_int (aT I q (by simp))
  |str j=>obtain⟨t',rfl⟩:=ry;exact PySem.EqNone.eq_none_str (aT I q (by simp))
  |_=>exact absurd (show false=true from hs) Bool.false_ne_true
 |bl i=>
  cases rx
  cases y with
  |non=>cases ry;exact PySem.EqNone.eq_bool_none (aT I q (by simp))
  |bl j=>cases ry;exact eq_bool (aT I q nj)
  |str j=>obtain⟨t',rfl⟩:=ry;exact PySem.EqMixed.eq_bool_str (aT I q (by simp))
  |_=>exact absurd (show false=true from hs) Bool.false_ne_true
 |int i=>
  obtain⟨t,rfl⟩:=rx
  cases y with
  |non=>cases ry;exact PySem.EqNone.eq_int_none (aT I q (by simp))
  |int j=>obtain⟨t',rfl⟩:=ry;exact eq_int (aT I q kT)
  |str j=>obtain⟨t',rfl⟩:=ry;exact PySem.EqMixed.eq_int_str (aT I q (by simp))
  |_=>exact absurd (show false=true from hs) Bool.false_ne_true
 |str i=>
  obtain⟨t,rfl⟩:=rx
  cases y with
  |non=>cases ry;exact PySem.EqNone.eq_str_none (aT I q (by simp))
  |bl j=>cases ry;exact PySem.EqMixed.eq_str_bool (aT I q (by simp))
  |int j=>obtain⟨t',rfl⟩:=ry;exact PySem.EqMixed.eq_str_int (aT I q (by simp))
  |str j=>obtain⟨t',rfl⟩:=ry;exact eq_str (aT I q kU)
  |_=>exact absurd (show false=true from hs) Bool.false_ne_true
 |byt i=>
  obtain⟨t,rfl⟩:=rx
  cases y with
  |byt j=>obtain⟨t',rfl⟩:=ry;exact PySem.W.eq_bytes (aT I q kW)
  |_=>exact absurd (show false=true from hs) Bool.false_ne_true
 |_=>cases y<;>exact absurd (show false=true from hs) Bool.false_ne_true
theorem uh:OpR X (compareOp .NotEq) vx:=by
 intro pins s σ H x y v u Q I rx ry h
 obtain⟨hs,q⟩:=h
 cases x with
 |non=>
  cases rx
  cases y with
  |non=>cases ry;exact PySem.EqNone.ne_none_none (aT I q (by simp))
  |bl j=>cases ry;exact PySem.EqNone.ne_none_bool (aT I q (by simp))
  |int j=>obtain⟨t',rfl⟩:=ry;exact PySem.EqNone.ne_none_int (aT I q (by simp))
  |str j=>obtain⟨t',rfl⟩:=ry;exact PySem.EqNone.ne_none_str (aT I q (by simp))
  |_=>exact absurd (show false=true from hs) Bool.false_ne_true
 |bl i=>
  cases rx
  cases y with
  |non=>cases ry;exact PySem.EqNone.ne_bool_none (aT I q (by simp))
  |bl j=>cases ry;exact ne_bool (aT I q (congrArg not nj))
  |str j=>obtain⟨t',rfl⟩:=ry;exact PySem.EqMixed.ne_bool_str (aT I q (by simp))
  |_=>exact absurd (show false=true from hs) Bool.false_ne_true
 |int i=>
  obtain⟨t,rfl⟩:=rx
  cases y with
  |non=>cases ry;exact PySem.EqNone.ne_int_none (aT I q (by simp))
  |int j=>obtain⟨t',rfl⟩:=ry;exact ne_int (aT I q (congrArg not kT))
  |str j=>obtain⟨t',rfl⟩:=ry;exact PySem.EqMixed.ne_int_str (aT I q (by simp))
  |_=>exact absurd (show false=true from hs) Bool.false_ne_true
 |str i=>
  obtain⟨t,rfl⟩:=rx
  cases y with
  |non=>cases ry;exact PySem.EqNone.ne_str_none (aT I q (by simp))
  |bl j=>cases ry;exact PySem.EqMixed.ne_str_bool (aT I q (by simp))
  |int j=>obtain⟨t',rfl⟩:=ry;exact PySem.EqMixed.ne_str_int (aT I q (by simp))
  |str j=>obtain⟨t',rfl⟩:=ry;exact ne_str (aT I q (congrArg not kU))
  |_=>exact absurd (show false=true from hs) Bool.false_ne_true
 |byt i=>
  obtain⟨t,rfl⟩:=rx
  cases y with
  |byt j=>obtain⟨t',rfl⟩:=ry;exact PySem.W.ne_bytes (aT I q (congrArg not kW))
  |_=>exact absurd (show false=true from hs) Bool.false_ne_true
 |_=>cases y<;>exact absurd (show false=true from hs) Bool.false_ne_true
theorem dn:OpR X (compareOp .Lt) (pZ fun i j=>.bl (decide (i < j))):=p0 fun _ _ _ _ _ _ _ q=>lt_int q
theorem iU:OpR X (compareOp .LtE) (pZ fun i j=>.bl (decide (i<=j))):=p0 fun _ _ _ _ _ _ _ q=>le_int q
theorem dS:OpR X (compareOp .Gt) (pZ fun i j=>.bl (decide (j < i))):=p0 fun _ _ _ _ _ _ _ q=>gt_int q
theorem rh:OpR X (compareOp .GtE) (pZ fun i j=>.bl (decide (j<=i))):=p0 fun _ _ _ _ _ _ _ q=>ge_int q
theorem jP:OpR X (compareOp .Is) (fun x y H Q=>y=.non/\Q (.bl (decide (x=.non))) H):=by
 intro pins s σ H x y v u Q I rx ry h
 obtain⟨rfl,q⟩:=h
 cases ry
 refine is_none_gen (aT I q ?_)
 cases x<;>first
  |(cases rx;rfl)
  |(obtain⟨t,rfl⟩:=rx;rfl)
theorem p_:OpR X (compareOp .IsNot) (fun x y H Q=>y=.non/\Q (.bl (!decide (x=.non))) H):=by
 intro pins s σ H x y v u Q I rx ry h
 obtain⟨rfl,q⟩:=h
 cases ry
 refine isnot_none_gen (aT I q ?_)
 cases x<;>first
  |(cases rx;rfl)
  |(obtain⟨t,rfl⟩:=rx;rfl)
theorem OpR.or {f:Value->Value->Sem Value}{r r':R2}(h:OpR X f r)(h':OpR X f r'):OpR X f (fun x y H Q=>r x y H Q\/r' x y H Q):=by
 intro pins s σ H x y v u Q I rx ry q
 rcases q with q|q
 ·exact h pins s σ H x y v u Q I rx ry q
 ·exact h' pins s σ H x y v u Q I rx ry q
theorem aq (b:Expr){op:CmpOp}(h:op≠.In:=by decide)(h2:op≠.NotIn:=by decide):behindInMarks op b=false:=by
 have e1:(op == CmpOp.In)=false:=by cases op<;>first|rfl|exact absurd rfl h
 have e2:(op == CmpOp.NotIn)=false:=by cases op<;>first|rfl|exact absurd rfl h2
 cases b<;>simp [behindInMarks,e1,e2]
theorem bg {op:CmpOp}{r:R2}(ho:OpR X (compareOp op) r)(ha:PE X a ta)(hb:PE X b tb)(hm:behindInMarks op b=false):PE X (.Compare a [op] [b] pos) (u7 r ta tb):=by
 intro pins s σ H Q I h
 exact wpAny_Compare1 (sv ha hb I h fun v u s2 x y H2 I2 rx ry q=>ho pins s2 σ H2 x y v u Q I2 rx ry q) hm
def ri (t:TE):TT:=fun σ H Q=>t σ H fun x H'=>sm x Q H'
theorem aj {op:CmpOp}{r:R2}(ho:OpR X (compareOp op) r)(ha:PE X a ta)(hb:PE X b tb)(hm:behindInMarks op b=false):PT X (.Compare a [op] [b] pos) (ri (u7 r ta tb)):=by
 intro pins s σ H Q I h
 refine wpAny_isTrue_Compare1 (bH (ha pins s σ H _ I h) fun v s1 ⟨x,H1,I1,r1,q1⟩=>bH (hb pins s1 σ H1 _ I1 q1) fun u s2 ⟨y,H2,I2,r2,q2⟩=>
  bH (ho pins s2 σ H2 x y v u _ I2 r1 r2 q2) fun c s3 ⟨z,H3,I3,r3,k,e,q3⟩=>?_) hm
 subst e
 cases r3
 exact wpAny_truthy_bool ⟨H3,I3,q3⟩
def nk (r r':R2)(ta tb tc:TE):TE:=fun σ H Q=>ta σ H fun x H1=>tb σ H1 fun y H2=>r x y H2 fun z H3=>∃ k,z=.bl k/\
 (if k=true then tc σ H3 fun w' H4=>r' y w' H4 Q else Q (.bl false) H3)
theorem nn {op op':CmpOp}{r r':R2}(ho:OpR X (compareOp op) r)(ho':OpR X (compareOp op') r')(ha:PE X a ta)(hb:PE X b tb)(hc:PE X c tc)
  (hm:lastMarks [op,op'] [b,c]=false:=by with_unfolding_all rfl):PE X (.Compare a [op,op'] [b,c] pos) (nk r r' ta tb tc):=by
 intro pins s σ H Q I h
 refine Compare_chain (bH (ha pins s σ H _ I h) fun v s1 ⟨x,H1,I1,r1,q1⟩=>chain_link (bH (hb pins s1 σ H1 _ I1 q1) fun u s2 ⟨y,H2,I2,r2,q2⟩=>
  bH (ho pins s2 σ H2 x y v u _ I2 r1 r2 q2) fun d s3 ⟨z,H3,I3,r3,k,e,q3⟩=>?_)) hm
 subst e
 cases r3
 refine wpAny_truthy_bool ?_
 cases k with
 |false=>exact ite_ff ⟨.bl false,H3,I3,rfl,q3⟩
 |true=>exact ite_tt (chain_last (bH (hc pins s3 σ H3 _ I3 q3) fun w' s4 ⟨z',H4,I4,r4,q4⟩=>ho' pins s4 σ H4 y z' u w' Q I4 r2 r4 q4))
theorem nr {op op':CmpOp}{r r':R2}(ho:OpR X (compareOp op) r)(ho':OpR X (compareOp op') r')(ha:PE X a ta)(hb:PE X b tb)(hc:PE X c tc)
  (hm:lastMarks [op,op'] [b,c]=false:=by with_unfolding_all rfl):PT X (.Compare a [op,op'] [b,c] pos) (ri (nk r r' ta tb tc)):=by
 intro pins s σ H Q I h
 refine isTrue_chain (bH (ha pins s σ H _ I h) fun v s1 ⟨x,H1,I1,r1,q1⟩=>test_link (bH (hb pins s1 σ H1 _ I1 q1) fun u s2 ⟨y,H2,I2,r2,q2⟩=>
  bH (ho pins s2 σ H2 x y v u _ I2 r1 r2 q2) fun d s3 ⟨z,H3,I3,r3,k,e,q3⟩=>?_)) hm
 subst e
 cases r3
 refine wpAny_truthy_bool ?_
 cases k with
 |false=>
  obtain⟨k',e',q'⟩:=q3
  cases e'
  exact ite_ff ⟨H3,I3,q'⟩
 |true=>
  refine ite_tt (test_last (bH (hc pins s3 σ H3 _ I3 q3) fun w' s4 ⟨z',H4,I4,r4,q4⟩=>bH (ho' pins s4 σ H4 y z' u w' _ I4 r2 r4 q4) fun d' s5 ⟨z2,H5,I5,r5,k2,e2,q5⟩=>?_))
  subst e2
  cases r5
  exact wpAny_truthy_bool ⟨H5,I5,q5⟩
theorem ib:(sizeLine:Nat) < 2 ^ 63:=by rw[sizeLine_eq];decide
theorem dU {x:V}{us:List Value}(r:Vals [x] us):∃ u,us=[u]/\RelV x u:=by
 cases r with
 |cons r1 r2=>cases r2;exact⟨_,rfl,r1⟩
theorem rj {x y:V}{us:List Value}(r:Vals [x,y] us):∃ u w',us=[u,w']/\RelV x u/\RelV y w':=by
 cases r with
 |cons r1 r2=>
  cases r2 with
  |cons r3 r4=>cases r4;exact⟨_,_,rfl,r1,r3⟩
theorem aO:cL X (.builtin "abs") (fun xs H Q=>∃ i,xs=[.int i]/\Q (.int (if i < 0 then -i else i)) H):=by
 intro pins s σ H xs us Q I r h
 obtain⟨i,rfl,q⟩:=h
 obtain⟨u,rfl,t,rfl⟩:=dU r
 exact call_abs_int fun u tk=>⟨.int (if i < 0 then -i else i),H,I.tok _,⟨_,rfl⟩,q⟩
theorem gG:cL X (.type "int") (fun xs H Q=>(∃ i,xs=[.int i]/\Q (.int i) H)\/∃ k,xs=[.bl k]/\Q (.int (if k then 1 else 0)) H):=by
 intro pins s σ H xs us Q I r h
 rcases h with⟨i,rfl,q⟩|⟨k,rfl,q⟩
 ·obtain⟨u,rfl,t,rfl⟩:=dU r
  exact call_int_int ⟨.int i,H,I,⟨_,rfl⟩,q⟩
 ·obtain⟨u,rfl,r1⟩:=dU r
  cases r1
  exact call_int_bool ⟨.int (if k then 1 else 0),H,I.tok _,⟨_,rfl⟩,q⟩
def vy (K:PySem.W.Frag)(x:V)(H:Hp)(n:Nat):Prop:=
 match x with
 |.str y=>y.length<=sizeLine/\n=y.length
 |.byt y=>y.size<=sizeLine/\n=y.size
 |.ref p=>(∃ xs,SqL K H p xs/\n=xs.length)\/∃ xs,SqT K H p xs/\n=xs.length
 |_=>False
inductive sE (K:PySem.W.Frag)(xs:List V)(H:Hp)(Q:VK):Prop
 |mk (x:V)(n:Nat)(h:xs=[x])(l:vy K x H n)(q:Q (.int n) H):sE K xs H Q
theorem aE:cL X (.builtin "len") (sE X.K):=by
 intro pins s σ H xs us Q I r h
 obtain⟨x,n,rfl,e,q⟩:=h
 obtain⟨u,rfl,rx⟩:=dU r
 have hl:=ib
 have hs:sizeLine=16777216:=sizeLine_eq
 cases x with
 |str y=>
  obtain⟨t,rfl⟩:=rx
  obtain⟨hy,e'⟩:y.length<=sizeLine/\n=y.length:=e
  subst e'
  exact len_str (by omega) ⟨.int _,H,I.tok _,⟨_,rfl⟩,q⟩
 |byt y=>
  obtain⟨t,rfl⟩:=rx
  obtain⟨hy,e'⟩:y.size<=sizeLine/\n=y.size:=e
  subst e'
  exact PySem.W.len_bytes (by omega) ⟨.int _,H,I.tok _,⟨_,rfl⟩,q⟩
 |ref p=>
  cases rx
  have e':(∃ xs,SqL X.K H p xs/\n=xs.length)\/∃ xs,SqT X.K H p xs/\n=xs.length:=e
  rcases e' with⟨xs,hx,e'⟩|⟨xs,hx,e'⟩
  ·subst e'
   obtain⟨its,r',pl,hz⟩:=I.list hx
   have hlen:=r'.length
   exact Calls.call_len_list pl.isList (by simp only [List.size_toArray];omega) ⟨.int xs.length,H,I.tok _,⟨_,by simp only [List.size_toArray];rw[hlen]⟩,q⟩
  ·subst e'
   obtain⟨its,r',pl,hz⟩:=I.tuple hx
   have hlen:=r'.length
   exact len_tuple pl (by simp only [List.size_toArray];omega) ⟨.int xs.length,H,I.tok _,⟨_,by simp only [List.size_toArray];rw[hlen]⟩,q⟩
 |_=>exact (show False from e).elim
end
end L2
namespace L2
open PySem PySem.Spec PyProof.Rows
structure ObjM (h:Heap)(x dx C:Addr)(mA:Str->Option Value):Prop where
 obj:h.get? x=some (PySem.W.instObj C dx)
 ns:h.Ns1 dx mA
 ne:dx≠x
theorem md {h:Heap}{dx:Addr}{mA:Str->Option Value}(n:h.Ns1 dx mA):∃ od,h.get? dx=some od/\∀ name,PySem.W.lookIn name od=some (mA name):=by
 obtain⟨o,es,ep,ho,hd,hk,_,hm⟩:=n
 refine⟨o,ho,fun name=>?_⟩
 have e:=hm name
 unfold nsFind findBy at e
 rw[← Array.find?_toList] at e
 unfold PySem.W.lookIn
 rw[hd]
 dsimp only
 split
 ·rename_i y q
  rw[q] at e
  exact congrArg some e
 ·rename_i q
  rw[q] at e
  have a:es.toList.any (·.refKey)=false:=by
   rw[List.any_eq_false]
   intro y hy
   obtain⟨z,t,hkey⟩:=hk y (Array.mem_toList_iff.mp hy)
   simp [DictEntry.refKey,hkey]
  have a':¬ es.toList.any (·.refKey)=true:=by rw[a];exact Bool.false_ne_true
  rw[if_neg a']
  exact congrArg some e
theorem ObjM.look {h:Heap}{x dx C:Addr}{mA:Str->Option Value}(I:ObjM h x dx C mA):∃ od,PySem.W.InstAt h x (PySem.W.instObj C dx) C (some od)/\∀ name,PySem.W.lookIn name od=some (mA name):=
 let ⟨od,ho,hl⟩:=md I.ns
 ⟨od,⟨I.obj,rfl,rfl,ho⟩,hl⟩
section
variable {prog:Program}{w:World}{A:Around}{E:Value->Shared->Prop}{s:Shared}{K:PySem.W.Frag}{x dx C f:Addr}{mA:Str->Option Value}{name:Str}{v:Value}
theorem qc {expr:Bool}{Q:Value->Shared->Prop}(X:K.In s.heap)(I:ObjM s.heap x dx C mA)(hg:PySem.W.plainGet K C name=true)(hh:PySem.W.hasDictIn K C=true)
  (ha:PySem.W.findIn K (.ref C) name=some none) (hv:mA name=some v) (hv':PySem.W.handedIn v=true) (h:Q v {s with toks:=s.toks+1}):
  wpAny (model prog w) A (getAttr (.ref x) name expr) Q E s:=by
 obtain⟨od,J,hl⟩:=I.look
 exact PySem.W.get_value X J (PySem.W.plainGet_of hg).1 (PySem.W.findObj_own hh ha rfl (by rw[hl,hv])) hv' h
theorem qd {ns:List Str}{Q:Unit->Shared->Prop}(X:K.In s.heap)(I:ObjM s.heap x dx C mA)
  (hs:PySem.W.findIn K (.ref C) "__setattr__"=some (some (.builtin "object.__setattr__"))) (hp:PySem.W.plainOver K C=true) (ht:PySem.W.takerIn K C name=some none) (hh:PySem.W.hasDictIn K C=true)
  (hw:PySem.Within mA ns) (hsz:ns.length<=sizeLine)
  (h:∀ h',ObjM h' x dx C (fun y=>if y=name then some v else mA y)->Heap.SameBut dx s.heap h'->Q () {s with heap:=h',toks:=s.toks+2}):
  wpAny (model prog w) A (setAttr (.ref x) name v) Q E s:=by
 obtain⟨od,J,hl⟩:=I.look
 refine PySem.W.set_plain X J hs (PySem.W.osa_open (s:={s with toks:=s.toks+1}) (r:=none) X J hp ht fun b=>?_)
 obtain⟨cd,hc,hd'⟩:=PySem.W.any_some hh
 have hx:s.heap.get? x=some ⟨.ref C,some dx,.plain,#[]⟩:=I.obj
 refine wpAny_bind (wpAny_pure (wpAny_bind (wpAny_bind (wpAny_loadPart hx (wpAny_bind (PySem.W.Looks.here (s:={s with toks:=s.toks+1}) (PySem.W.looks_clsIn X hc) ?_))))))
 rw[hd']
 refine wpAny_pure (a:=some dx) (wpAny_bind (wpAny_pure (wpAny_bind ?_)))
 refine wpAny_nsSet1 (s:={s with toks:=s.toks+1}) I.ns fun h' hn2 hs2=>?_
 obtain⟨oD,esD,epD,hoD,hdD,hcD⟩:=hn2.count (PySem.Within.cons name v hw)
 refine wpAny_bind (wpAny_lookBehind hoD (by rw[hdD];exact pastItsLine_dict (Nat.le_trans hcD (by rw[List.length_cons];omega))) ?_)
 exact wpAny_pure (h _ ⟨(hs2.2 _ (Ne.symm I.ne)).trans I.obj,hn2,I.ne⟩ hs2)
theorem nt {R:Result->Shared->Prop}{vs:List Value}{kw:List (Str×Value)}(X:K.In s.heap)(hm:PySem.W.makesIn K C=true)
  (hi:PySem.W.findIn K (.ref C) "__init__"=some (some (.ref f))) (hf:PySem.W.typeIn K (.ref f)=some (.type "function"))
  (h:codeAny (model prog w) (A.under (.builtin "type.__call__" ⟨.ref C::vs,kw⟩)) (.call (.ref f) ⟨.ref (s.heap.objs.size+1)::vs,kw⟩) (PySem.W.InitBack (s.heap.objs.size+1) R)
   {s with heap:=(s.heap.push PySem.W.emptyDict).push (PySem.W.instObj C s.heap.objs.size)}):
  codeAny (model prog w) A (.call (.ref C) ⟨vs,kw⟩) R s:=by
 obtain⟨hh,g,d,t,os⟩:=s
 exact PySem.W.make_core (PySem.W.makes_of X hm) (PySem.W.looks_findIn X hi) (fun self=>PySem.W.bind_fn X self hf) (.inl rfl) h
end
def dQ (f:Str)(v:V):List (Str×V)->List (Str×V)
 |[]=>[(f,v)]
 |(g,x)::r=>if g=f then (g,v)::r else (g,x)::dQ f v r
theorem fo (f g:Str)(v:V):∀ fs:List (Str×V),(dQ f v fs).lookup g=if g=f then some v else fs.lookup g
 |[]=>by
  show List.lookup g [(f,v)]=_
  by_cases h:g=f
  ·have hb:(g == f)=true:=beq_iff_eq.mpr h
   simp only [List.lookup,hb,if_pos h]
  ·have hb:(g == f)=false:=beq_eq_false_iff_ne.mpr h
   simp only [List.lookup,hb,if_neg h]
 |(k,x)::r=>by
  have ih:=fo f g v r
  rw[show dQ f v ((k,x)::r)=(if k=f then (k,v)::r else (k,x)::dQ f v r) from rfl]
  by_cases hk:k=f
  ·rw[if_pos hk]
   by_cases h:g=k
   ·have hb:(g == k)=true:=beq_iff_eq.mpr h
    simp only [List.lookup,hb,if_pos (h.trans hk)]
   ·have hb:(g == k)=false:=beq_eq_false_iff_ne.mpr h
    simp only [List.lookup,hb,if_neg (fun e:g=f=>h (e.trans hk.symm))]
  ·rw[if_neg hk]
   by_cases h:g=k
   ·have hb:(g == k)=true:=beq_iff_eq.mpr h
    simp only [List.lookup,hb,if_neg (fun e:g=f=>hk (h.symm.trans e))]
   ·have hb:(g == k)=false:=beq_eq_false_iff_ne.mpr h
    simp only [List.lookup,hb]
    exact ih
theorem eV (f:Str)(v:V):∀ fs:List (Str×V),f∈(dQ f v fs).map (·.1)/\∀ g,g∈fs.map (·.1)->g∈(dQ f v fs).map (·.1)
 |[]=>⟨by simp [dQ],fun g h=>by simp at h⟩
 |(k,x)::r=>by
  obtain⟨i1,i2⟩:=eV f v r
  rw[show dQ f v ((k,x)::r)=(if k=f then (k,v)::r else (k,x)::dQ f v r) from rfl]
  by_cases hk:k=f
  ·rw[if_pos hk]
   subst hk
   exact⟨by simp,fun g h=>by simpa using h⟩
  ·rw[if_neg hk]
   refine⟨?_,fun g h=>?_⟩
   ·rw[List.map_cons]
    exact List.mem_cons_of_mem _ i1
   ·rw[List.map_cons] at h ⊢
    rcases List.mem_cons.mp h with e|e
    ·exact List.mem_cons.mpr (.inl e)
    ·exact List.mem_cons_of_mem _ (i2 g e)
theorem fq (f:Str)(v:V):∀ fs:List (Str×V),(dQ f v fs).length<=fs.length+1
 |[]=>by simp [dQ]
 |(k,x)::r=>by
  have ih:=fq f v r
  rw[show dQ f v ((k,x)::r)=(if k=f then (k,v)::r else (k,x)::dQ f v r) from rfl]
  by_cases hk:k=f
  ·rw[if_pos hk,List.length_cons,List.length_cons];omega
  ·rw[if_neg hk,List.length_cons,List.length_cons];omega
theorem RelO.some_of {v:V}{o:Option Value}(r:RelO (some v) o):∃ u,o=some u/\RelV v u:=by
 cases o with
 |none=>exact (show False from r).elim
 |some u=>exact⟨u,rfl,r⟩
theorem me {v:V}{u:Value}(r:RelV v u):PySem.W.handedIn u=true:=by
 cases v with
 |non=>cases (show u=Value.none from r);rfl
 |bl b=>cases (show u=Value.bool b from r);rfl
 |int i=>obtain⟨t,e⟩:=(show ∃ t,u=Value.int i t from r);cases e;rfl
 |str x=>obtain⟨t,e⟩:=(show ∃ t,u=Value.str x t from r);cases e;rfl
 |byt b=>obtain⟨t,e⟩:=(show ∃ t,u=Value.bytes b t from r);cases e;rfl
 |flt b=>obtain⟨t,e⟩:=(show ∃ t,u=Value.float b t from r);cases e;rfl
 |ref a=>cases (show u=Value.ref a from r);rfl
 |ty n=>cases (show u=Value.type n from r);rfl
section
variable {P:Program}{w:World}{H H':Hp}{h h':Heap}{a C dx:Addr}{fs fs':List (Str×V)}
theorem ic (hok:HOk P w H h)(e:H a=some (.ins C dx fs)):∃ mA,ObjM h a dx C mA/\(∀ f,RelO (fs.lookup f) (mA f))/\PySem.Within mA (fs.map (·.1))/\fs.length<=1000/\H dx=some (.own a):=by
 obtain⟨d,z,ne,ob,mA,n,r,q⟩:=(show ObjOk P w H h a (.ins C dx fs) from hok a _ e)
 exact⟨mA,⟨ob,n,ne⟩,r,q,z,d⟩
end
structure Cls (K:PySem.W.Frag)(C:Addr):Prop where
 pg:PySem.W.plainGet K C Str.empty=true
 hd:PySem.W.hasDictIn K C=true
 po:PySem.W.plainOver K C=true
 sa:PySem.W.findIn K (.ref C) "__setattr__"=some (some (.builtin "object.__setattr__"))
theorem Cls.get {K:PySem.W.Frag}{C:Addr}(c:Cls K C)(f:Str):PySem.W.plainGet K C f=true:=c.pg
def NoAttr (K:PySem.W.Frag)(C:Addr)(f:Str):Prop:=PySem.W.findIn K (.ref C) f=some none
theorem NoAttr.taker {K:PySem.W.Frag}{C:Addr}{f:Str}(n:NoAttr K C f):PySem.W.takerIn K C f=some none:=by
 unfold PySem.W.takerIn
 rw[show PySem.W.findIn K (.ref C) f=some none from n]
 rfl
section
variable {X:Cx}{pins:List (Addr×Obj)}{σ:St}{H:Hp}{s:Shared}{a C dx:Addr}{fs:List (Str×V)}{f:Str}{v:V}{A:Around}{E:Value->Shared->Prop}
theorem jQ {b:Bool}{Q:Value->Shared->Prop}(I:Inv X pins σ H s)(e:H a=some (.ins C dx fs))(c:Cls X.K C)(n:NoAttr X.K C f)(l:fs.lookup f=some v)
  (h:∀ u s',Inv X pins σ H s'->RelV v u->Q u s'):wpAny (model X.prog X.w) A (getAttr (.ref a) f b) Q E s:=by
 obtain⟨mA,O,r,_,_,_⟩:=ic I.hok e
 obtain⟨u,hu,ru⟩:=RelO.some_of (v:=v) (o:=mA f) (by rw[← l];exact r f)
 exact qc I.kIn O (c.get f) c.hd n hu (me ru) (h u _ (I.tok _) ru)
theorem jR {y:V}{u:Value}{Q:Unit->Shared->Prop}(I:Inv X pins σ H s)(e:H a=some (.ins C dx fs))(c:Cls X.K C)(n:NoAttr X.K C f)(hl:fs.length < 1000)(ry:RelV y u)
  (h:∀ s',Inv X pins σ (upd H a (.ins C dx (dQ f y fs))) s'->Q () s'):wpAny (model X.prog X.w) A (setAttr (.ref a) f u) Q E s:=by
 obtain⟨mA,O,r,wi,_,ho⟩:=ic I.hok e
 have hz:(fs.map (·.1)).length<=sizeLine:=by rw[List.length_map,sizeLine_eq];omega
 refine qd I.kIn O c.sa c.po n.taker c.hd wi hz fun h' O' sb=>h _ ?_
 have hd:∃ o,h'.get? dx=some o:=let ⟨o,_,_,e',_⟩:=O'.ns;⟨o,e'⟩
 refine I.write (x:=a) (e:=dx) (by rw[e];exact True.intro) (.inr ho) (fun b q hb z=>(sb.2 b hb).trans z) hd ?_
 refine⟨by rw[ay O.ne];exact ho,?_,O.ne,O'.obj,_,O'.ns,fun g=>?_,fun g hg=>?_⟩
 ·have:=fq f y fs;omega
 ·show RelO ((dQ f y fs).lookup g) (if g=f then some u else mA g)
  rw[fo]
  by_cases q:g=f
  ·rw[if_pos q,if_pos q];exact ry
  ·rw[if_neg q,if_neg q];exact r g
 ·by_cases q:g=f
  ·rw[q];exact (eV f y fs).1
  ·refine (eV f y fs).2 g (wi g fun z=>hg ?_)
   show (if g=f then some u else mA g)=none
   rw[if_neg q];exact z
theorem Inv.made (I:Inv X pins σ H s):Inv X pins σ (upd (upd H s.heap.objs.size (.own (s.heap.objs.size+1))) (s.heap.objs.size+1) (.ins C s.heap.objs.size []))
  {s with heap:=(s.heap.push PySem.W.emptyDict).push (PySem.W.instObj C s.heap.objs.size)}:=by
 have e1:(s.heap.push PySem.W.emptyDict).get? s.heap.objs.size=some PySem.W.emptyDict:=Heap.get?_push_size s.heap rfl
 have e2:((s.heap.push PySem.W.emptyDict).push (PySem.W.instObj C s.heap.objs.size)).get? (s.heap.objs.size+1)=some (PySem.W.instObj C s.heap.objs.size):=by
  have:=Heap.get?_push_size (s.heap.push PySem.W.emptyDict) (o:=PySem.W.instObj C s.heap.objs.size) rfl
  rwa [Heap.size_push] at this
 have e3:(s.heap.push PySem.W.emptyDict).Ns s.heap.objs.size (fun _=>none):=⟨PySem.W.emptyDict,#[],_,e1,rfl,(fun e he=>absurd he (by simp)),fun _=>rfl⟩
 have I1:=I.laid (a:=s.heap.objs.size) (o:=.own (s.heap.objs.size+1)) (h':=s.heap.push PySem.W.emptyDict) (t':=s.toks) (fun b u q=>Heap.get?_push_of_some _ q) (Nat.le_refl _) ⟨_,e1⟩
 refine I1.laid (a:=s.heap.objs.size+1) (o:=.ins C s.heap.objs.size []) (t':=s.toks) (fun b u q=>Heap.get?_push_of_some _ q) (Nat.le_of_eq (Heap.size_push _ _)) ?_
 have ne:s.heap.objs.size≠s.heap.objs.size+1:=Nat.ne_of_lt (Nat.lt_succ_self _)
 refine⟨by rw[ay ne,ad],Nat.zero_le _,ne,e2,fun _=>none,(Heap.Ns1.of_empty e3).at fun o q=>Heap.get?_push_of_some _ q,fun _=>True.intro,fun y hy=>absurd rfl hy⟩
theorem qe {prog:Program}{w:World}{env:Env}{e:Expr}{f:Str}{pos:Pos}{s:Shared}{Q:Value->Shared->Prop}(hb:attributeBase e f env (eval e env)=eval e env)
  (h:wpAny (model prog w) A (eval e env) (fun o s₁=>wpAny (model prog w) A (getAttr o f true) Q E s₁) E s):wpAny (model prog w) A (eval (.Attribute e f pos) env) Q E s:=
 Attribute_any_ h (by rw[arm_eval_Attribute,hb])
end
def vz (K:PySem.W.Frag)(ta:TE)(f:Str):TE:=fun σ H Q=>ta σ H fun x H1=>∃ a C dx fs v,x=.ref a/\H1 a=some (.ins C dx fs)/\Cls K C/\NoAttr K C f/\fs.lookup f=some v/\Q v H1
def vA (K:PySem.W.Frag)(ta tv:TE)(f:Str):TS:=fun D σ H=>tv σ H fun y H1=>ta σ H1 fun x H2=>∃ a C dx fs,x=.ref a/\H2 a=some (.ins C dx fs)/\Cls K C/\NoAttr K C f/\fs.length < 1000/\
 D.nx σ (upd H2 a (.ins C dx (dQ f y fs)))
section
variable {X:Cx}{o e value:Expr}{f:Str}{pos pos' tpos:Pos}{ta tv:TE}
theorem ie (he:PE X e ta)(hb:attributeBase e f X.env (eval e X.env)=eval e X.env):PE X (.Attribute e f pos) (vz X.K ta f):=by
 intro pins s σ H Q I h
 refine qe hb (bH (he pins s σ H _ I h) fun u s1 ⟨x,H1,I1,rx,a,C,dx,fs,v,ex,ea,c,n,l,q⟩=>?_)
 subst ex
 obtain rfl:u=Value.ref a:=rx
 exact jQ I1 ea c n l fun u' s2 I2 ru=>⟨v,H1,I2,ru,q⟩
theorem fQ (ha:PE X o ta)(hv:PE X value tv)(hs:swapsWith value (some (.Attribute o f pos')) pos.line X.env=pure false):PS X (.Assign [.Attribute o f pos'] value pos) (vA X.K ta tv f):=by
 intro pins s σ H D I h
 refine plainObj_wpAny_Assign_Attribute (bH (hv pins s σ H _ I h) fun u s1 ⟨y,H1,I1,ry,q⟩=>bH (ha pins s1 σ H1 _ I1 q) fun ov s2 ⟨x,H2,I2,rx,a,C,dx,fs,ex,ea,c,n,l,q2⟩=>?_) hs
 subst ex
 obtain rfl:ov=Value.ref a:=rx
 exact jR I2 ea c n l ry fun s3 I3=>⟨σ,_,I3,q2⟩
end
section
variable {X:Cx}{pins:List (Addr×Obj)}{σ:St}{H:Hp}{s:Shared}{A:Around}{E:Value->Shared->Prop}{Q:Value->Shared->Prop}{c:Value}{b:Bool}
inductive dZ (K:PySem.W.Frag)(H:Hp):V->Value->Prop where
 |non:dZ K H .non (.type "NoneType")
 |bl (x:Bool):dZ K H (.bl x) (.type "bool")
 |int (i:Int):dZ K H (.int i) (.type "int")
 |str (x:Str):dZ K H (.str x) (.type "str")
 |flt (x:UInt64):dZ K H (.flt x) (.type "float")
 |lst {a:Addr} {xs:List V} (e:H a=some (.lst xs)):dZ K H (.ref a) (.type "list")
 |frz {a:Addr} {o:Obj} {xs:List V} (e:H a=some (.frz o (.lst xs))):dZ K H (.ref a) (.type "list")
 |tup {a:Addr} {xs:List V} (e:H a=some (.tup xs)):dZ K H (.ref a) (.type "tuple")
 |dK {a:Addr} {kvs:List (bG×V)} (e:H a=some (.dK kvs)):dZ K H (.ref a) (.type "dict")
 |dT {a:Addr} {kvs:List (List bG×V)} (e:H a=some (.dT kvs)):dZ K H (.ref a) (.type "dict")
 |ins {a C dx:Addr} {fs:List (Str×V)} (e:H a=some (.ins C dx fs)) (cl:Cls K C) (ha:PySem.W.findIn K (.ref C) "__class__"=some (some (.builtin "object.__class__")))
   (hn:PySem.W.specialIn K (.builtin "object.__class__") "__get__"=some (some (.builtin "getset_descriptor.__get__"))) (htk:PySem.W.takesIn K (.builtin "object.__class__")=some true)
   (hm:PySem.W.mroIn K C (.type "object")=some true):dZ K H (.ref a) (.ref C)
theorem gH {x:V}{u t:Value}(I:Inv X pins σ H s)(rx:RelV x u)(ty:dZ X.K H x t)(e:PySem.W.kitOne X.K t c=some b)(h:∀ tk,Q (.bool b) {s with toks:=tk}):
  wpAny (model X.prog X.w) A (call (.builtin "isinstance") [u,c]) Q E s:=by
 cases ty with
 |non=>cases (show u=Value.none from rx);exact PySem.W.kia_one PySem.W.kitx_none I.kIn True.intro e (fun z=>nomatch z) h
 |bl y=>cases (show u=Value.bool y from rx);exact PySem.W.kia_one PySem.W.kitx_bool I.kIn True.intro e (fun z=>nomatch z) h
 |int i=>obtain⟨t,q⟩:=(show ∃ t,u=Value.int i t from rx);cases q;exact PySem.W.kia_one PySem.W.kitx_int I.kIn True.intro e (fun z=>nomatch z) h
 |str y=>obtain⟨t,q⟩:=(show ∃ t,u=Value.str y t from rx);cases q;exact PySem.W.kia_one PySem.W.kitx_str I.kIn True.intro e (fun z=>nomatch z) h
 |flt y=>obtain⟨t,q⟩:=(show ∃ t,u=Value.float y t from rx);cases q;exact PySem.W.kia_one PySem.W.kitx_float I.kIn True.intro e (fun z=>nomatch z) h
 |@lst a xs ea=>
  cases (show u=Value.ref a from rx)
  obtain⟨_,_,n,_,h1⟩:=(show ObjOk X.prog X.w H s.heap a (.lst xs) from I.hok a _ ea)
  exact PySem.W.kia_one PySem.W.kitx_list I.kIn ⟨_,h1,rfl⟩ e (fun z=>nomatch z) h
 |@frz a ob xs ea=>
  cases (show u=Value.ref a from rx)
  obtain⟨_,_,_,n,_,h1⟩:=(show ObjOk X.prog X.w H s.heap a (.frz ob (.lst xs)) from I.hok a _ ea)
  exact PySem.W.kia_one PySem.W.kitx_list I.kIn ⟨_,h1,rfl⟩ e (fun z=>nomatch z) h
 |@tup a xs ea=>
  cases (show u=Value.ref a from rx)
  obtain⟨_,_,_,p⟩:=(show ObjOk X.prog X.w H s.heap a (.tup xs) from I.hok a _ ea)
  obtain⟨o,h1,h2,_⟩:=p
  exact PySem.W.kia_one PySem.W.kitx_tuple I.kIn ⟨o,h1,h2⟩ e (fun z=>nomatch z) h
 |@dK a kvs ea=>
  cases (show u=Value.ref a from rx)
  obtain⟨_,_,vs,_,p⟩:=(show ObjOk X.prog X.w H s.heap a (.dK kvs) from I.hok a _ ea)
  obtain⟨o,es,ep,h1,h2,_⟩:=p
  exact PySem.W.kia_one PySem.W.kitx_dict I.kIn ⟨o,h1,h2.1⟩ e (fun z=>nomatch z) h
 |@dT a kvs ea=>
  cases (show u=Value.ref a from rx)
  obtain⟨_,_,xs,_,o,es,ep,h1,h2,_⟩:=(show ObjOk X.prog X.w H s.heap a (.dT kvs) from I.hok a _ ea)
  exact PySem.W.kia_one PySem.W.kitx_dict I.kIn ⟨o,h1,h2.1⟩ e (fun z=>nomatch z) h
 |@ins a C dx fs ea cl ha hn htk hm=>
  cases (show u=Value.ref a from rx)
  obtain⟨mA,O,_⟩:=ic I.hok ea
  obtain⟨od,J,_⟩:=O.look
  exact PySem.W.kia_one (PySem.W.kitx_own (cl.get _) cl.hd ha hn htk hm) I.kIn J e (fun z=>nomatch z) h
end
end L2
namespace L2
open PySem PySem.Spec PyProof.Rows
structure Room (k:Nat)(A:Around):Prop where
 hd:A.handled=none
 dp:A.depth+3*k+5 < recursionLimit
 un:A.units+16*k+200 < cLine
theorem Room.mono {j k:Nat}{A:Around}(r:Room k A)(h:j<=k):Room j A:=⟨r.hd,by have:=r.dp;omega,by have:=r.un;omega⟩
theorem Room.deeper {k:Nat}{A:Around}(r:Room (k+1) A)(env:Env):Room k (A.deeper env):=
 ⟨r.hd,by have:=r.dp;show A.depth+1+3*k+5 < _;omega,by have:=r.un;show A.units+3+16*k+200 < _;omega⟩
theorem jS {A:Around}{C:Addr}{us:List Value}{kw:List (Str×Value)}:(A.under (.builtin "type.__call__" ⟨.ref C::us,kw⟩)).depth=A.depth+1:=by
 first|rfl|simp [Around.under,Code.weight,Code.isCreation,Code.isGuard,Code.isCaller,Code.frames,Code.isFrame,guardIds]
theorem jT {A:Around}{C:Addr}{us:List Value}{kw:List (Str×Value)}:(A.under (.builtin "type.__call__" ⟨.ref C::us,kw⟩)).units=A.units+1:=by
 first|rfl|simp [Around.under,Code.cUnits,Code.frames,Code.isFrame]
theorem Room.make {k:Nat}{A:Around}(r:Room (k+1) A)(C:Addr)(us:List Value)(kw:List (Str×Value)):Room k (A.under (.builtin "type.__call__" ⟨.ref C::us,kw⟩)):=
 ⟨r.hd,by have:=r.dp;rw[jS];omega,by have:=r.un;rw[jT];omega⟩
theorem Room.depth {k:Nat}{A:Around}(r:Room k A):A.depth < recursionLimit:=by have:=r.dp;omega
theorem Room.units {k:Nat}{A:Around}(r:Room k A):A.units+64 < cLine:=by have:=r.un;omega
def ui:TA:=fun _ H Q=>Q [] H
def rl (ta:TE)(tr:TA):TA:=fun σ H Q=>ta σ H fun x H1=>tr σ H1 fun xs H2=>Q (x::xs) H2
section
variable {X:Cx}{e:Expr}{es:List Expr}{te:TE}{t:TA}{pos:Pos}
theorem ac:PA X [] ui:=fun _ _ _ _ H Q I h=>Calls.spliced_nil ⟨[],H,I,.nil,h⟩
theorem aa (ha:PE X e te)(hr:PA X es t)(hs:starEach (e::es) X.env=(false,eval e X.env)::starEach es X.env:=by rfl):PA X (e::es) (rl te t):=by
 intro pos pins s σ H Q I h
 rw[hs]
 show wpAny _ _ (spliced ((false,eval e X.env)::backTo pos (starEach es X.env))) _ _ s
 refine Calls.spliced_cons (bH (ha pins s σ H _ I h) fun u s1 ⟨x,H1,I1,r1,q1⟩=>?_)
 exact bH (hr pos pins s1 σ H1 _ I1 q1) fun us s2 ⟨xs,H2,I2,r2,q2⟩=>⟨x::xs,H2,I2,.cons r1 r2,q2⟩
def uj (t:TA):TE:=fun σ H Q=>t σ H fun xs H1=>xs.length<=sizeLine/\∀ p,H1 p=none->Q (.ref p) (upd H1 p (.tup xs))
def uk (t:TA):TE:=fun σ H Q=>t σ H fun xs H1=>xs.length<=sizeLine/\∀ p,H1 p=none->Q (.ref p) (upd H1 p (.lst xs))
theorem bR {x1}(h:PA X es t):PE X (.Tuple es x1 pos) (uj t):=by
 intro pins s σ H Q I hq
 refine wpAny_Tuple_spliced (bH (h pos pins s σ H _ I hq) fun us s1 ⟨xs,H1,I1,r,z,q⟩=>⟨by rw[← r.length];exact z,?_⟩)
 have hf:H1 s1.heap.objs.size=none:=I1.hok.fresh (Nat.le_refl _)
 refine⟨.ref s1.heap.objs.size,upd H1 s1.heap.objs.size (.tup xs),I1.laid (t':=s1.toks) (fun b u e=>Heap.get?_push_of_some _ e) (Nat.le_refl _) ?_,rfl,q _ hf⟩
 exact⟨z,us,r,⟨_,Heap.get?_push_size _ rfl,rfl,_,rfl⟩⟩
theorem aR (h:PA X es t):PE X (.List es pos) (uk t):=by
 intro pins s σ H Q I hq
 refine wpAny_List_spliced (bH (h pos pins s σ H _ I hq) fun us s1 ⟨xs,H1,I1,r,z,q⟩=>⟨by rw[← r.length];exact z,?_⟩)
 have hf:H1 s1.heap.objs.size=none:=I1.hok.fresh (Nat.le_refl _)
 refine⟨.ref s1.heap.objs.size,upd H1 s1.heap.objs.size (.lst xs),I1.laid (t':=s1.toks) (fun b u e=>Heap.get?_push_of_some _ e) (Nat.le_refl _) ?_,rfl,q _ hf⟩
 exact⟨z,us,0,r,Heap.get?_push_size _ rfl⟩
end
abbrev Sp:=List V->Hp->VK->XK->Prop
abbrev mf:=List Env->Hp->Shared->XK->Value->Shared->Prop
structure Env0 (P:Program)(w:World)(K:PySem.W.Frag)(mg:Str->Option Value)(base:Heap)(A:Around)(outer:List Env)(s:Shared)(H:Hp):Prop where
 frames:A.frames=some outer
 mod:Mod K mg base
 bs:∀ b o,base.get? b=some o->s.heap.get? b=some o/\H b=none
 bsz:base.objs.size<=s.heap.objs.size
 funs:s.heap.FunFrames base outer
 frf:∀ b∈dR outer,H b=none
 hok:HOk P w H s.heap
 bare:AllBare s.gens
def CE (outer:List Env)(P:Program)(w:World)(H:Hp)(s:Shared)(Q:VK)(u:Value)(s':Shared):Prop:=
 ∃ v H',s'.os=s.os/\AllBare s'.gens/\Un (dR outer) [] H H' s.heap s'.heap/\HOk P w H' s'.heap/\RelV v u/\Q v H'
def CR (CX:mf)(outer:List Env)(P:Program)(w:World)(H:Hp)(s:Shared)(Q:VK)(E:XK)(r:Result)(s':Shared):Prop:=
 match r with
 |.ok (.ret u)=>CE outer P w H s Q u s'
 |.ok _=>False
 |.error e=>CX outer H s E e s'
structure FnOk (P:Program)(w:World)(K:PySem.W.Frag)(mg:Str->Option Value)(base:Heap)(CX:mf)(k:Nat)(f:Addr)(fd:FuncData)(ps:List Str)(sp:Sp):Prop where
 len:∀ vs H Q E,sp vs H Q E->vs.length=ps.length
 run:∀ (A:Around) (outer:List Env) (s:Shared) (H:Hp) (args:Args) (us:List Value) (vs:List V) (Q:VK) (E:XK),Room k A->Env0 P w K mg base A outer s H->BindsTo s fd args (ps.zip us)->Vals vs us->sp vs H Q E->
  codeAny (model P w) A (.call (.ref f) args) (CR CX outer P w H s Q E) s
theorem Env0.make {P:Program}{w:World}{K:PySem.W.Frag}{mg:Str->Option Value}{base:Heap}{A:Around}{outer:List Env}{s:Shared}{H:Hp}(e:Env0 P w K mg base A outer s H)(C:Addr)(us:List Value)(kw:List (Str×Value)):
  Env0 P w K mg base (A.under (.builtin "type.__call__" ⟨.ref C::us,kw⟩)) outer s H:=⟨by first|exact e.frames|(simpa [Around.under,Code.envs,Code.isFrame,pushEnvs] using e.frames),e.mod,e.bs,e.bsz,e.funs,e.frf,e.hok,e.bare⟩
section
variable {X:Cx}{pins:List (Addr×Obj)}{σ:St}{H:Hp}{s s':Shared}
theorem Inv.env0 (I:Inv X pins σ H s):Env0 X.prog X.w X.K X.mg X.base X.A X.stack s H:=
 ⟨I.ok.frames,I.ok.mod,I.bs,Nat.le_trans I.ok.bsz I.sz,I.stack,I.stkFree,I.hok,I.bare⟩
theorem Inv.after {Q:VK}{u:Value}(I:Inv X pins σ H s)(h:CE X.stack X.prog X.w H s Q u s'):EP X pins σ Q u s':=by
 obtain⟨v,H',os,bare,un,hok,r,q⟩:=h
 obtain⟨hh,g,d,t,os'⟩:=s'
 obtain rfl:os'=s.os:=os
 exact⟨v,H',I.call (h':=hh) (g':=g) (d':=d) (t':=t) (ch:=[]) un hok bare (fun b z=>absurd z (by simp)),r,q⟩
end
def nw (sp:Sp)(dvs:List V)(E:XK)(t:TA):TE:=fun σ H Q=>t σ H fun vs H1=>sp (vs++dvs) H1 Q E
def rm (C:Addr)(sp:Sp)(dvs:List V)(E:XK)(t:TA):TE:=fun σ H Q=>t σ H fun vs H1=>∀ x dx,H1 x=none->H1 dx=none->dx≠x->
 sp (.ref x::(vs++dvs)) (upd (upd H1 dx (.own x)) x (.ins C dx [])) (fun v H2=>v=.non/\Q (.ref x) H2) E
def Binds (K:PySem.W.Frag)(fd:FuncData)(ps:List Str)(ds:List Value):Prop:=
 ∀ (s:Shared) (us:List Value),K.In s.heap->(us++ds).length=ps.length->BindsTo s fd ⟨us,[]⟩ (ps.zip (us++ds))
theorem Binds.all {K:PySem.W.Frag}{fd:FuncData}{ps:List Str}(h:∀ us:List Value,us.length=ps.length->bindArgs fd ⟨us,[]⟩=pure (ps.zip us)):Binds K fd ps []:=fun s us _ hl=>by
 rw[List.append_nil] at hl ⊢
 exact .of_eq (h us hl)
def eW (CX:mf)(X:Cx)(E:XK):Prop:=∀ (pins:List (Addr×Obj)) (σ:St) (H:Hp) (s:Shared) (e:Value) (s':Shared),Inv X pins σ H s->CX X.stack H s E e s'->X.xe e s'
section
variable {X:Cx}{CX:mf}{k:Nat}{f C:Addr}{fd:FuncData}{ps:List Str}{sp:Sp}{dvs:List V}{ds:List Value}{E:XK}{x m:Str}{p pos apos:Pos}{e o:Expr}{es:List Expr}{ta:TE}{t:TA}
theorem sF {pins:List (Addr×Obj)}{σ:St}{H:Hp}{s:Shared}{Q:VK}{us:List Value}{vs:List V}(F:FnOk X.prog X.w X.K X.mg X.base CX k f fd ps sp)(hr:Room k X.A)(hb:Binds X.K fd ps ds)(hd:Vals dvs ds)(hx:eW CX X E)
  (I:Inv X pins σ H s) (r:Vals vs us) (h:sp (vs++dvs) H Q E):wpAny (model X.prog X.w) X.A (call (.ref f) us) (EP X pins σ Q) X.xe s:=by
 have r2:Vals (vs++dvs) (us++ds):=r.append hd
 have hl:(us++ds).length=ps.length:=by rw[← r2.length];exact F.len _ _ _ _ h
 refine wpAny_call (codeAny_mono (F.run X.A X.stack s H ⟨us,[]⟩ (us++ds) (vs++dvs) Q E hr I.env0 (hb s us I.kIn hl) r2 h) fun r s' hq=>?_)
 cases r with
 |error e=>exact hx pins σ H s e s' I hq
 |ok fl=>
  cases fl with
  |ret u=>exact I.after hq
  |next=>exact False.elim hq
  |brk=>exact False.elim hq
  |cont=>exact False.elim hq
theorem kX (F:FnOk X.prog X.w X.K X.mg X.base CX k f fd ps sp)(hr:Room k X.A)(hg:Gl X x)(hm:X.mg x=some (.ref f))(hk:PySem.W.keepIn X.K (.ref f)=true)(hb:Binds X.K fd ps ds)(hd:Vals dvs ds)(hx:eW CX X E)
  (ha:PA X (e::es) t) (hdb:(x == ("__debug__":Str))=false:=by decide) (he:starEach (e::es) X.env=(false,eval e X.env)::starEach es X.env:=by rfl) (hpl:(backTo pos (starEach es X.env)).any (·.1)=false:=by rfl):
  PE X (.Call (.Name x p) (e::es) [] pos) (nw sp dvs E t):=by
 intro pins s σ H Q I h
 refine wpAny_Call_Name_kw (dL I hg hm ?_ hdb)
 refine PySem.W.callWith_K (h₀:=X.base) I.ok.mod.kin hk (bH (ha pos pins s σ H _ I h) fun us s1 ⟨vs,H1,I1,r,q⟩=>⟨I1.kIn,?_⟩) he hpl
 exact sF F hr hb hd hx I1 r q
structure Mk (K:PySem.W.Frag)(C f:Addr):Prop where
 makes:PySem.W.makesIn K C=true
 init:PySem.W.findIn K (.ref C) "__init__"=some (some (.ref f))
 fn:PySem.W.isFn K (.ref f)=true
 kp:PySem.W.keepIn K (.ref C)=true
theorem ny {pins:List (Addr×Obj)}{σ:St}{H:Hp}{s:Shared}{Q:VK}{us:List Value}{vs:List V}(M:Mk X.K C f)(F:FnOk X.prog X.w X.K X.mg X.base CX k f fd ps sp)(hr:Room (k+1) X.A)(hb:Binds X.K fd ps ds)(hd:Vals dvs ds)
  (hx:eW CX X E) (I:Inv X pins σ H s) (r:Vals vs us)
  (h:∀ x dx,H x=none->H dx=none->dx≠x->sp (.ref x::(vs++dvs)) (upd (upd H dx (.own x)) x (.ins C dx [])) (fun v H2=>v=.non/\Q (.ref x) H2) E):
  wpAny (model X.prog X.w) X.A (call (.ref C) us) (EP X pins σ Q) X.xe s:=by
 have hq:=h (s.heap.objs.size+1) s.heap.objs.size (I.hok.fresh (Nat.le_succ _)) (I.hok.fresh (Nat.le_refl _)) (Nat.ne_of_lt (Nat.lt_succ_self _))
 have I2:=Inv.made (C:=C) I
 have r2:Vals (V.ref (s.heap.objs.size+1)::(vs++dvs)) (Value.ref (s.heap.objs.size+1)::(us++ds)):=.cons rfl (r.append hd)
 have hl:(Value.ref (s.heap.objs.size+1)::us++ds).length=ps.length:=by
  have e:=r2.length
  rw[F.len _ _ _ _ hq] at e
  exact e.symm
 refine wpAny_call (nt (f:=f) I.kIn M.makes M.init (beq_iff_eq.mp M.fn) (codeAny_mono (F.run _ X.stack _ _ ⟨Value.ref (s.heap.objs.size+1)::us,[]⟩ (Value.ref (s.heap.objs.size+1)::(us++ds)) _ _ E (hr.make C us [])
  (I2.env0.make C us []) (hb _ (Value.ref (s.heap.objs.size+1)::us) I2.kIn hl) r2 hq) fun r s' hq'=>?_))
 cases r with
 |error e=>exact hx pins σ _ _ e s' I2 hq'
 |ok fl=>
  cases fl with
  |ret u=>
   obtain⟨v,H',I3,rv,ev,q3⟩:=I2.after hq'
   subst ev
   exact⟨rv,⟨V.ref (s.heap.objs.size+1),H',I3,rfl,q3⟩⟩
  |next=>exact False.elim hq'
  |brk=>exact False.elim hq'
  |cont=>exact False.elim hq'
theorem qf (M:Mk X.K C f)(F:FnOk X.prog X.w X.K X.mg X.base CX k f fd ps sp)(hr:Room (k+1) X.A)(hg:Gl X x)(hm:X.mg x=some (.ref C))(hb:Binds X.K fd ps ds)(hd:Vals dvs ds)(hx:eW CX X E)
  (ha:PA X (e::es) t) (hdb:(x == ("__debug__":Str))=false:=by decide) (he:starEach (e::es) X.env=(false,eval e X.env)::starEach es X.env:=by rfl) (hpl:(backTo pos (starEach es X.env)).any (·.1)=false:=by rfl):
  PE X (.Call (.Name x p) (e::es) [] pos) (rm C sp dvs E t):=by
 intro pins s σ H Q I h
 refine wpAny_Call_Name_kw (dL I hg hm ?_ hdb)
 refine PySem.W.callWith_K (h₀:=X.base) I.ok.mod.kin M.kp (bH (ha pos pins s σ H _ I h) fun us s1 ⟨vs,H1,I1,r,q⟩=>⟨I1.kIn,?_⟩) he hpl
 exact ny M F hr hb hd hx I1 r q
end
section
variable {X:Cx}{CX:mf}{k:Nat}{f C:Addr}{fd:FuncData}{ps ks:List Str}{sp:Sp}{E:XK}{x m:Str}{p pos apos kpos:Pos}{e o:Expr}{es:List Expr}{kws:List Keyword}{te ta:TE}{t tk:TA}{nm:Option Str}
variable {g:List Value->List Value->List Value}{gV:List V->List V->List V}
end
structure aF (N P:List Str)(sc:Scope):Prop where
 kind:sc.kind=.function
 co:sc.isCoroutine=false
 gen:sc.isGenerator=false
 nd:N.Nodup
 pre:N.take P.length=P
 par:∀ x∈P,sc.names.lookup x=some .local\/sc.names.lookup x=some .cell
 nofree:∀ y∈sc.names,y.2≠.free
theorem gI {kindOf:Str->Option NameKind}{x:Str}:∀ {binds:List (Str×Value)} {m:Str->Option Value},(∀ v,(x,v)∉binds)->bindL kindOf binds m x=m x
 |[],_,_=>rfl
 |(n,v)::r,m,h=>by
  unfold bindL
  rw[gI fun w hw=>h w (List.mem_cons_of_mem _ hw)]
  split
  ·have:x≠n:=by rintro rfl;exact h v List.mem_cons_self
   simp [this]
  ·rfl
theorem gJ {kindOf:Str->Option NameKind}{x:Str}:∀ {binds:List (Str×Value)} {m:Str->Option Value},(∀ v,(x,v)∉binds)->bindC kindOf binds m x=m x
 |[],_,_=>rfl
 |(n,v)::r,m,h=>by
  unfold bindC
  rw[gJ fun w hw=>h w (List.mem_cons_of_mem _ hw)]
  split
  ·rfl
  ·have:x≠n:=by rintro rfl;exact h v List.mem_cons_self
   simp [this]
theorem gK {kindOf:Str->Option NameKind}{x:Str}{v:Value}:∀ {P:List Str} {vs:List Value} {i:Nat} {m:Str->Option Value},P.Nodup->P[i]? =some x->vs[i]? =some v->kindOf x=some .local->
  bindL kindOf (P.zip vs) m x=some v
 |[],_,_,_,_,h,_,_=>by simp at h
 |_::_,[],_,_,_,_,h,_=>by simp at h
 |p::P,w::vs,0,m,nd,h1,h2,hk=>by
  simp at h1 h2;subst h1;subst h2
  show bindL kindOf ((p,w)::P.zip vs) m p=_
  unfold bindL
  rw[gI fun v hv=>(List.nodup_cons.mp nd).1 (List.of_mem_zip hv).1,if_pos hk]
  simp
 |p::P,w::vs,i+1,m,nd,h1,h2,hk=>by
  show bindL kindOf ((p,w)::P.zip vs) m x=_
  unfold bindL
  exact gK (i:=i) (List.nodup_cons.mp nd).2 (by simpa using h1) (by simpa using h2) hk
theorem gL {kindOf:Str->Option NameKind}{x:Str}{v:Value}:∀ {P:List Str} {vs:List Value} {i:Nat} {m:Str->Option Value},P.Nodup->P[i]? =some x->vs[i]? =some v->kindOf x≠some .local->
  bindC kindOf (P.zip vs) m x=some v
 |[],_,_,_,_,h,_,_=>by simp at h
 |_::_,[],_,_,_,_,h,_=>by simp at h
 |p::P,w::vs,0,m,nd,h1,h2,hk=>by
  simp at h1 h2;subst h1;subst h2
  show bindC kindOf ((p,w)::P.zip vs) m p=_
  unfold bindC
  rw[gJ fun v hv=>(List.nodup_cons.mp nd).1 (List.of_mem_zip hv).1,if_neg hk]
  simp
 |p::P,w::vs,i+1,m,nd,h1,h2,hk=>by
  show bindC kindOf ((p,w)::P.zip vs) m x=_
  unfold bindC
  exact gL (i:=i) (List.nodup_cons.mp nd).2 (by simpa using h1) (by simpa using h2) hk
def er (N:List Str)(vs:List V):St:=vs.map some++List.replicate (N.length - vs.length) none
def cQ (CX:mf)(P:Program)(w:World)(K:PySem.W.Frag)(mg:Str->Option Value)(base:Heap)(N:List Str)(qual:Str)(scope:Scope)(f:Addr)(cd:Value)(A:Around)(outer:List Env)(s:Shared)(H:Hp)(E:XK):Cx where
 prog:=P
 w:=w
 K:=K
 mg:=mg
 base:=base
 A:=A.deeper (envOfC qual scope s.heap.objs.size f cd)
 N:=N
 s₀:=s
 H₀:=H
 env:=envOfC qual scope s.heap.objs.size f cd
 outer:=outer
 stack:=envOfC qual scope s.heap.objs.size f cd::outer
 ex:=[]
 calm:=true
 fn:=fun _=>true
 pn:=[]
 xe:=fun e s'=>wpAny (model P w) (A.deeper (envOfC qual scope s.heap.objs.size f cd)) (leaving (envOfC qual scope s.heap.objs.size f cd) e) (fun _ s''=>CX outer H s E e s'') (fun e' s''=>CX outer H s E e' s'') s'
theorem iV {sc:Scope}{n:Nat}{x:Str}(h:sc.names.lookup x=some .cell):∃ c,(cellsFrom n sc.names []).lookup x=some c:=by
 have q:=PySem.W.cellsFrom_some sc.names n [] (.inl h)
 exact Option.isSome_iff_exists.mp q
theorem mh {CX:mf}{P:Program}{w:World}{K:PySem.W.Frag}{mg:Str->Option Value}{base:Heap}{N ps:List Str}{qual:Str}{scope:Scope}{f:Addr}{cd:Value}{A:Around}{outer:List Env}{s s1:Shared}{H:Hp}{E:XK}{us:List Value}{vs:List V}
  (S:aF N ps scope) (hd:A.handled=none) (e0:Env0 P w K mg base A outer s H) (hl:vs.length=ps.length) (r:Vals vs us)
  (x:InCallC s s.heap.objs.size (bindL (envOfC qual scope s.heap.objs.size f cd).kindOf (ps.zip us) fun _=>none) (cellsFrom (s.heap.objs.size+1) scope.names []) (bindC (envOfC qual scope s.heap.objs.size f cd).kindOf (ps.zip us) fun _=>none) s1):
  Inv (cQ CX P w K mg base N qual scope f cd A outer s H E) [] (er N vs) H s1:=by
 have hpl:ps.length<=N.length:=by have:=congrArg List.length S.pre;rw[List.length_take] at this;omega
 obtain⟨h1,tk,rfl,hk⟩:=x.done
 have noA:∀ b:Addr,b∉(cQ CX P w K mg base N qual scope f cd A outer s H E).ex:=fun b z=>absurd (show b∈([]:List Addr) from z) (by simp)
 refine⟨⟨e0.mod,S.kind,rfl,rfl,Nat.le_refl _,fun y z c h1 h2=>?_,fun y hy=>?_,fun y c _ h=>?_,fun _=>hd,Around.frames_deeper e0.frames,.inr ⟨rfl,rfl⟩,fun b z=>absurd z (noA b),e0.bs,e0.bsz,fun b _ _=>noA b,fun b z=>absurd z (noA b),e0.funs,e0.frf⟩,
  rfl,e0.bare,Un.kept hk,⟨_,x.toInCall.ns,fun i y v h1 h2 h3=>?_⟩,fun y c h=>⟨_,x.cell y c h⟩,e0.hok.fresh (Nat.le_refl _),fun y c h=>?_,fun p hp=>absurd (show p∈([]:List (Addr×Obj)) from hp) (by simp),e0.hok.kept hk,?_⟩
 ·exact name_of_addr x.apart (PySem.mem_of_lookup h1) (PySem.mem_of_lookup h2)
 ·have hy:scope.names.lookup y=some .cell\/scope.names.lookup y=some .free:=hy
  rcases hy with hy|hy
  ·exact iV hy
  ·exact absurd rfl (S.nofree _ (PySem.mem_of_lookup hy))
 ·exact Nat.le_of_lt (x.above y c (PySem.mem_of_lookup h))
 ·have hi:i < vs.length:=by
   unfold er at h2
   by_cases hi:i < vs.length
   ·exact hi
   ·rw[List.getElem?_append_right (by simpa using hi)] at h2
    rw[List.getElem?_replicate] at h2
    split at h2<;>cases h2
  have ha:vs[i]? =some v:=by
   unfold er at h2
   rw[List.getElem?_append_left (by simpa using hi),List.getElem?_map] at h2
   cases e:vs[i]? with
   |none=>rw[e] at h2;cases h2
   |some a=>rw[e] at h2;cases h2;rfl
  obtain⟨u,hu,rv⟩:=r.get ha
  have hp:ps[i]? =some y:=by
   rw[← S.pre,List.getElem?_take_of_lt (by omega)];exact h1
  have ndP:ps.Nodup:=by rw[← S.pre];exact S.nd.sublist (List.take_sublist _ _)
  refine⟨u,rv,?_⟩
  rcases S.par y (List.mem_of_getElem? hp) with k|k
  ·exact .inl ⟨k,gK ndP hp hu k⟩
  ·obtain⟨c,e⟩:=iV (n:=s.heap.objs.size+1) k
   refine .inr ⟨.inl k,c,e,?_⟩
   have q:=x.cell y c e
   rw[gL ndP hp hu (by show scope.names.lookup y≠_;rw[k];decide)] at q
   exact q
 ·exact e0.hok.fresh (Nat.le_of_lt (x.above y c (PySem.mem_of_lookup h)))
 ·unfold er
  show _=N.length
  rw[List.length_append,List.length_map,List.length_replicate]
  omega
theorem rn {CX:mf}{P:Program}{w:World}{K:PySem.W.Frag}{mg:Str->Option Value}{base:Heap}{k:Nat}{f:Addr}{name qual:Str}{params:Arguments}{body:List Stmt}{scope:Scope}{dV kV doc pm cdv ct oc:Value}{an od:Option Addr}
  {osl:Array (Option Value)} {N ps:List Str} {sp:Sp} (lk:K.lookup f=some ⟨oc,od,.func (PySem.W.fnOf name qual params body scope dV kV doc pm an cdv ct),osl⟩) (hcd:PySem.W.codeIn K cdv qual=true) (S:aF N ps scope)
  (len:∀ vs H Q E,sp vs H Q E->vs.length=ps.length)
  (hbody:∀ (A:Around) (outer:List Env) (s:Shared) (H:Hp) (vs:List V) (Q:VK) (E:XK),Room k (A.deeper (envOfC qual scope s.heap.objs.size f cdv))->sp vs H Q E->
   ∃ t,PSs (cQ CX P w K mg base N qual scope f cdv A outer s H E) body t/\t {nx:=fun _ H'=>Q .non H',rt:=Q} (er N vs) H):
  FnOk P w K mg base CX (k+1) f (PySem.W.fnOf name qual params body scope dV kV doc pm an cdv ct) ps sp:=by
 refine⟨len,fun A outer s H args us vs Q E hr e0 hb r hsp=>?_⟩
 have hl:=len _ _ _ _ hsp
 have KX:K.In s.heap:=e0.mod.kin.keeps fun b o e=>(e0.bs b o e).1
 have lim:s.heap.NoLimit:=e0.mod.nolimit.keeps fun b o e=>(e0.bs b o e).1
 have hkind:∀ y∈ps.zip us,scope.names.lookup y.1=some .local\/(scope.names.lookup y.1=some .cell/\((cellsFrom (s.heap.objs.size+1) scope.names []).lookup y.1).isSome=true):=fun⟨n,v⟩ hy=>by
  rcases S.par n (List.of_mem_zip hy).1 with q|q
  ·exact .inl q
  ·exact .inr ⟨q,PySem.W.cellsFrom_some _ _ _ (.inl q)⟩
 refine codeAny_call_function hr.depth (KX _ _ lk) rfl S.co S.gen rfl (PySem.W.codeRec_of KX hcd) (hb _ _ _ _ ?_)
 refine wpAny_newFunctionEnv_cells S.kind hkind fun env he s1 x=>?_
 subst he
 refine⟨lim.keeps x.toInCall.keep,codeAny_func ?_⟩
 obtain⟨t,ht,hq⟩:=hbody A outer s H vs Q E (hr.deeper _) hsp
 have I:Inv (cQ CX P w K mg base N qual scope f cdv A outer s H E) [] (er N vs) H s1:=mh S hr.hd e0 hl r x
 refine wpAny_mono (ht [] s1 (er N vs) H _ I hq) (fun fl s' hs=>?_) fun e s' hs=>hs
 have fin:∀ {σ':St} {H':Hp} {v:V} {u:Value},Inv (cQ CX P w K mg base N qual scope f cdv A outer s H E) [] σ' H' s'->RelV v u->Q v H'->CE outer P w H s Q u s':=
  fun {σ' H' v u} J rv q=>⟨v,H',J.os,J.bare,J.base,J.hok,rv,q⟩
 cases fl with
 |ret u=>
  obtain⟨v,σ',H',J,rv,q⟩:=hs
  exact fin J rv q
 |next=>
  obtain⟨σ',H',J,q⟩:=hs
  exact fin (v:=V.non) (u:=Value.none) J rfl q
 |brk=>
  obtain⟨_,_,_,q⟩:=hs
  exact False.elim q
 |cont=>
  obtain⟨_,_,_,q⟩:=hs
  exact False.elim q
end L2
namespace L2
open PySem PySem.Spec PyProof.Rows
section
variable {X:Cx}{x:Str}{p pos:Pos}{e:Expr}{es:List Expr}{t:TA}{id T:String}{r:List V->Hp->VK->Prop}
def vV (r:List V->Hp->VK->Prop)(t:TA):TE:=fun σ H Q=>t σ H fun vs H1=>r vs H1 Q
theorem ai (hc:cL X (.builtin id) r)(hg:Gl X x)(hm:X.mg x=none)(hv:bootBuiltins x=some (.builtin id))(ha:PA X (e::es) t)(hn:x≠"__name__":=by decide)(hdb:(x == ("__debug__":Str))=false:=by decide)
  (he:starEach (e::es) X.env=(false,eval e X.env)::starEach es X.env:=by rfl) (hpl:(backTo pos (starEach es X.env)).any (·.1)=false:=by rfl):PE X (.Call (.Name x p) (e::es) [] pos) (vV r t):=by
 intro pins s σ H Q I h
 refine wpAny_Call_Name_kw (eR I hg hm hv ?_ hn hdb)
 exact PyProof.Rows.callWith_builtin1 (bH (ha pos pins s σ H _ I h) fun us s1 ⟨vs,H1,I1,r1,q1⟩=>hc pins s1 σ H1 vs us Q I1 r1 q1) he hpl
theorem bj (hc:cL X (.type T) r)(hg:Gl X x)(hm:X.mg x=none)(hv:bootBuiltins x=some (.type T))(ha:PA X (e::es) t)(hn:x≠"__name__":=by decide)(hdb:(x == ("__debug__":Str))=false:=by decide)
  (he:starEach (e::es) X.env=(false,eval e X.env)::starEach es X.env:=by rfl) (hpl:(backTo pos (starEach es X.env)).any (·.1)=false:=by rfl):PE X (.Call (.Name x p) (e::es) [] pos) (vV r t):=by
 intro pins s σ H Q I h
 refine wpAny_Call_Name_kw (eR I hg hm hv ?_ hn hdb)
 exact PyProof.Rows.callWith_type1 (bH (ha pos pins s σ H _ I h) fun us s1 ⟨vs,H1,I1,r1,q1⟩=>hc pins s1 σ H1 vs us Q I1 r1 q1) he hpl
end
end L2
namespace HT
open PySem PyProof.Rows
section
open PySem.SeqAt
open PySem.AutoSeq1 (wpAny_loadPart')
open PySem.MeetsSeq PySem.MeetsSeq2 PySem.MeetsSeq3
end
section
variable {prog:Program}{w:World}{A:Around}{E:Value->Shared->Prop}{s:Shared}
def sIx (n d:Nat):Option Int->Nat
 |none=>d
 |some v=>if v < 0 then (v+(n:Int)).toNat else min v.toNat n
theorem sIx_nat (n d k:Nat):sIx n d (some (k:Int))=min k n:=by
 show (if (k:Int) < 0 then ((k:Int)+(n:Int)).toNat else min (k:Int).toNat n)=min k n
 rw[if_neg (by omega),Int.toNat_natCast]
end
end HT
namespace L2
open PySem PySem.Spec PyProof.Rows
abbrev TO:=St->Hp->(Option Int->Hp->Prop)->Prop
def PO (X:Cx)(e:Option Expr)(t:TO):Prop:=
 ∀ (pins:List (Addr×Obj)) (s:Shared) (σ:St) (H:Hp) (Q:Option Int->Hp->Prop),Inv X pins σ H s->t σ H Q->
  wpAny (model X.prog X.w) X.A (evalPart e X.env) (fun u s'=>∃ o H',Inv X pins σ H' s'/\IsPart u o/\Q o H') X.xe s
def qg:TO:=fun _ H Q=>Q none H
def ul (t:TE):TO:=fun σ H Q=>t σ H fun x H1=>∃ i,x=.int i/\Q (some i) H1
theorem fR {ns:List Int}:∀ {us:List Value},Vals (ns.map V.int) us->IntsAre us ns:=by
 induction ns with
 |nil=>intro us r;rw[List.map_nil] at r;cases r;exact .nil
 |cons n ns ih=>
  intro us r
  rw[List.map_cons] at r
  cases r with
  |cons r1 r2=>
   obtain⟨t,e⟩:=r1
   subst e
   exact .cons n t (ih r2)
section
variable {X:Cx}{e:Expr}{te:TE}{lo hi:Option Expr}{tl th:TO}{pos p2:Pos}
theorem bw:PO X none qg:=by
 intro pins s σ H Q I h
 rw[evalPart_none]
 exact wpAny_pure ⟨none,H,I,.none,h⟩
theorem bf (h:PE X e te):PO X (some e) (ul te):=by
 intro pins s σ H Q I hw
 rw[evalPart_some]
 refine bH (h pins s σ H _ I hw) fun u s1 ⟨x,H1,I1,r1,q1⟩=>?_
 obtain⟨i,rfl,q⟩:=q1
 obtain⟨t,rfl⟩:=r1
 exact⟨some i,H1,I1,.int i t,q⟩
def vW (X:Cx)(r:V->Option Int->Option Int->Hp->VK->Prop):Prop:=
 ∀ (pins:List (Addr×Obj)) (s:Shared) (σ:St) (H:Hp) (x:V) (v vl vu:Value) (lo hi:Option Int) (sl:Addr) (Q:VK),Inv X pins σ H s->RelV x v->s.heap.IsSliceOf sl vl vu .none->IsPart vl lo->IsPart vu hi->r x lo hi H Q->
  ∃ T id,typeLookup (.type T) "__getitem__"=pure (some (.builtin id))/\s.TypeIs v T/\wpAny (model X.prog X.w) X.A (getItem v (.ref sl)) (EP X pins σ Q) X.xe s
def wj (r:V->Option Int->Option Int->Hp->VK->Prop)(te:TE)(tl th:TO):TE:=fun σ H Q=>te σ H fun x H1=>tl σ H1 fun l H2=>th σ H2 fun u H3=>r x l u H3 Q
theorem aX {r:V->Option Int->Option Int->Hp->VK->Prop}(hr:vW X r)(he:PE X e te)(hl:PO X lo tl)(hu:PO X hi th):PE X (.Subscript e (.Slice lo hi none p2) pos) (wj r te tl th):=by
 intro pins s σ H Q I h
 refine Subscript_ (bH (he pins s σ H _ I h) fun v s1 ⟨x,H1,I1,r1,q1⟩=>?_)
 refine wpAny_Slice (bH (hl pins s1 σ H1 _ I1 q1) fun vl s2 ⟨l,H2,I2,pl,q2⟩=>bH (hu pins s2 σ H2 _ I2 q2) fun vu s3 ⟨u,H3,I3,pu,q3⟩=>?_)
 rw[evalPart_none]
 refine wpAny_pure ?_
 have I4:Inv X pins σ H3 {s3 with heap:=s3.heap.push {cls:=.type "slice",data:=.fields #[vl,vu,.none]}}:=I3.kept (t':=s3.toks) fun b ob q=>Heap.get?_push_of_some _ q
 obtain⟨T,id,hT,ht,hg⟩:=hr pins {s3 with heap:=s3.heap.push {cls:=.type "slice",data:=.fields #[vl,vu,.none]}} σ H3 x v vl vu l u s3.heap.objs.size Q I4 r1 (Heap.IsSliceOf.new ..) pl pu q3
 show wpAny (model X.prog X.w) X.A (subscriptTail e (.Slice lo hi none p2) v (.ref s3.heap.objs.size)) (EP X pins σ Q) X.xe {s3 with heap:=s3.heap.push {cls:=.type "slice",data:=.fields #[vl,vu,.none]}}
 exact tail_any (ops:=[.ref s3.heap.objs.size,v]) ht hT hg (by with_unfolding_all rfl)
def cf (xs:List V)(lo hi:Option Int):List V:=(xs.drop (HT.sIx xs.length 0 lo)).take (HT.sIx xs.length xs.length hi - HT.sIx xs.length 0 lo)
theorem ft (xs:List V)(lo hi:Option Int):(cf xs lo hi).length<=xs.length:=by
 unfold cf
 rw[List.length_take,List.length_drop]
 omega
end
end L2
namespace L2
open PySem PySem.Spec PyProof.Rows
def tR (n:Nat)(i:Int):Option Nat:=if 0<=i then (if i < n then some i.toNat else none) else if -(n:Int)<=i then some (i+n).toNat else none
def ig {α:Type}(xs:List α)(i:Int):Option α:=(tR xs.length i).bind fun j=>xs[j]?
theorem qh {n:Nat}{i:Int}{j:Nat}(h:tR n i=some j):seqIndex? i n=some j/\j < n/\ -(n:Int)<=i/\i < n:=by
 unfold tR at h
 by_cases h0:0<=i
 ·rw[if_pos h0] at h
  by_cases h1:i < n
  ·rw[if_pos h1] at h
   have e:i.toNat=j:=Option.some.inj h
   exact⟨by rw[seqIndex_of h0 h1,e],by omega,by omega,h1⟩
  ·rw[if_neg h1] at h;cases h
 ·rw[if_neg h0] at h
  by_cases h1:-(n:Int)<=i
  ·rw[if_pos h1] at h
   have e:(i+n).toNat=j:=Option.some.inj h
   exact⟨by rw[seqIndex_neg (by omega) h1,e],by omega,h1,by omega⟩
  ·rw[if_neg h1] at h;cases h
theorem ii {α:Type}{xs:List α}{i:Int}{v:α}(h:ig xs i=some v):∃ j,seqIndex? i xs.length=some j/\xs[j]? =some v/\j < xs.length/\ -(xs.length:Int)<=i/\i < xs.length:=by
 unfold ig at h
 cases e:tR xs.length i with
 |none=>rw[e] at h;cases h
 |some j=>
  rw[e] at h
  obtain⟨h1,h2,h3,h4⟩:=qh e
  exact⟨j,h1,h,h2,h3,h4⟩
theorem aS {α:Type}{xs:List α}{j:Nat}{v:α}(h:xs[j]? =some v):ig xs (j:Int)=some v:=by
 have hj:j < xs.length:=(List.getElem?_eq_some_iff.mp h).1
 have e:tR xs.length (j:Int)=some j:=by
  unfold tR
  rw[if_pos (by omega),if_pos (by omega)];simp
 unfold ig;rw[e];exact h
def qi (b:Expr):Prop:=∀ o i,subscripted b false o i=operate [o,i] (getItem o i)
def IxR (X:Cx)(r:R2):Prop:=
 ∀ (value slice:Expr) (pins:List (Addr×Obj)) (s:Shared) (σ:St) (H:Hp) (x y:V) (v u:Value) (Q:VK),Inv X pins σ H s->RelV x v->RelV y u->r x y H Q->
  subscripted slice false v u=operate [v,u] (getItem v u)->wpAny (model X.prog X.w) X.A (subscriptTail value slice v u) (EP X pins σ Q) X.xe s
def vX (X:Cx)(id:String)(r:V->List V->Hp->VK->Prop):Prop:=
 ∀ (pins:List (Addr×Obj)) (s:Shared) (σ:St) (H:Hp) (x:V) (xs:List V) (v:Value) (us:List Value) (Q:VK),Inv X pins σ H s->RelV x v->Vals xs us->r x xs H Q->
  wpAny (model X.prog X.w) X.A (call (.builtin id) (v::us)) (EP X pins σ Q) X.xe s
section
variable {X:Cx}{a b:Expr}{ta tb:TE}{pos:Pos}
theorem IxR.or {r r':R2}(h:IxR X r)(h':IxR X r'):IxR X (fun x y H Q=>r x y H Q\/r' x y H Q):=by
 intro value slice pins s σ H x y v u Q I rx ry q hs
 rcases q with q|q
 ·exact h value slice pins s σ H x y v u Q I rx ry q hs
 ·exact h' value slice pins s σ H x y v u Q I rx ry q hs
theorem ao {r:R2}(hr:IxR X r)(ha:PE X a ta)(hb:PE X b tb)(hs:qi b):PE X (.Subscript a b pos) (u7 r ta tb):=by
 intro pins s σ H Q I h
 exact Subscript_ (sv ha hb I h fun v u s2 x y H2 I2 rx ry q=>hr a b pins s2 σ H2 x y v u Q I2 rx ry q (hs _ _))
inductive um (K:PySem.W.Frag)(x y:V)(H:Hp)(Q:VK):Prop
 |mk (p:Addr)(xs:List V)(i:Int)(v:V)(hx:x=.ref p)(hy:y=.int i)(h:SqL K H p xs)(e:ig xs i=some v)(q:Q v H):um K x y H Q
inductive uo (K:PySem.W.Frag)(x y:V)(H:Hp)(Q:VK):Prop
 |mk (p:Addr)(xs:List V)(i:Int)(v:V)(hx:x=.ref p)(hy:y=.int i)(h:SqT K H p xs)(e:ig xs i=some v)(q:Q v H):uo K x y H Q
inductive uq (x y:V)(H:Hp)(Q:VK):Prop
 |mk (z:Str)(i:Int)(c:Nat)(hx:x=.str z)(hy:y=.int i)(h:z.length<=sizeLine)(e:ig z.cps.toList i=some c)(q:Q (.str ⟨#[c]⟩) H):uq x y H Q
def ur (K:PySem.W.Frag):R2:=fun x y H Q=>um K x y H Q
def ut (K:PySem.W.Frag):R2:=fun x y H Q=>uo K x y H Q
def uu:R2:=fun x y H Q=>uq x y H Q
theorem ix_list:IxR X (ur X.K):=by
 intro value slice pins s σ H x y v u Q I rx ry h hs
 obtain⟨p,xs,i,z,rfl,rfl,hq,he,q⟩:=h
 cases rx
 obtain⟨t,rfl⟩:=ry
 obtain⟨its,r,pl,hz⟩:=I.list hq
 obtain⟨j,h1,h2,h3,h4,h5⟩:=ii he
 obtain⟨w,ew,rw'⟩:=r.get h2
 have hl:=r.length
 have hn:=ib
 have fin:EP X pins σ Q w s:=⟨z,H,I,rw',q⟩
 by_cases h0:0<=i
 ·have hj:i.toNat=j:=by
   rw[seqIndex_of h0 h5] at h1
   exact Option.some.inj h1
  exact item_listR pl.isList h0 (by omega) (by rw[hj];simpa using ew) fin hs
 ·have hj:(i+(its.toArray.size:Int)).toNat=j:=by
   rw[seqIndex_neg (by omega) h4] at h1
   rw[List.size_toArray,← hl]
   exact Option.some.inj h1
  exact subscriptTail_builtinR (x:=w) pl.isList.typeIs slot_list_getitem.lookup
   (wpAny_getItem_list_neg (Q:=fun r s'=>r=w/\EP X pins σ Q r s') pl.isList (by omega) (by rw[List.size_toArray]<;>omega) (by omega) (by rw[hj];simpa using ew) ⟨rfl,fin⟩) hs
theorem ix_tup:IxR X (ut X.K):=by
 intro value slice pins s σ H x y v u Q I rx ry h hs
 obtain⟨p,xs,i,z,rfl,rfl,hq,he,q⟩:=h
 cases rx
 obtain⟨t,rfl⟩:=ry
 obtain⟨its,r,pl,hz⟩:=I.tuple hq
 obtain⟨j,h1,h2,h3,h4,h5⟩:=ii he
 obtain⟨w,ew,rw'⟩:=r.get h2
 have hl:=r.length
 have hn:=ib
 have fin:EP X pins σ Q w s:=⟨z,H,I,rw',q⟩
 exact subscriptTail_builtinR (x:=w) pl.typeIs slot_tuple_getitem.lookup
  (getItem_tuple (j:=j) (Q:=fun r s'=>r=w/\EP X pins σ Q r s') pl (by omega) (by omega) (by rw[List.size_toArray,← hl];exact h1) (by simpa using ew) ⟨rfl,fin⟩) hs
theorem sG:IxR X uu:=by
 intro value slice pins s σ H x y v u Q I rx ry h hs
 obtain⟨z,i,c,rfl,rfl,hz,he,q⟩:=h
 obtain⟨t,rfl⟩:=rx
 obtain⟨t',rfl⟩:=ry
 obtain⟨j,h1,h2,h3,h4,h5⟩:=ii he
 have hl:z.cps.toList.length=z.length:=by simp [Str.length]
 rw[hl] at h1 h4 h5
 have hn:=ib
 exact tail_any (typeIs_str s z t) slot_str_getitem.lookup (getItem_str (c:=c) (by
  have e1:decide (i < -(2 ^ 63:Int))=false:=decide_eq_false (by omega)
  have e2:decide (i>=2 ^ 63)=false:=decide_eq_false (by omega)
  rw[e1,e2,Bool.or_false]) (by rw[h1];simpa using h2) ⟨.str ⟨#[c]⟩,H,I.tok _,⟨_,rfl⟩,q⟩) hs
def vY (K:PySem.W.Frag):R2:=fun x y H Q=>ur K x y H Q\/ut K x y H Q\/uu x y H Q
theorem ak:IxR X (vY X.K):=ix_list.or (ix_tup.or sG)
theorem ij (lo hi:Option Int)(n:Nat):(sliceBounds lo hi none n).1=((HT.sIx n 0 lo:Nat):Int)/\(sliceBounds lo hi none n).2.1=((HT.sIx n n hi:Nat):Int)/\(sliceBounds lo hi none n).2.2=1:=by
 refine⟨?_,?_,rfl⟩
 ·cases lo with
  |none=>simp [sliceBounds,HT.sIx]
  |some i=>
   simp only [sliceBounds,HT.sIx,Option.getD_none,show (1:Int) > 0 by decide,if_true]
   by_cases h:i < 0
   ·simp only [h,if_true]<;>omega
   ·simp only [h,if_false]<;>omega
 ·cases hi with
  |none=>simp [sliceBounds,HT.sIx]
  |some i=>
   simp only [sliceBounds,HT.sIx,Option.getD_none,show (1:Int) > 0 by decide,if_true]
   by_cases h:i < 0
   ·simp only [h,if_true]<;>omega
   ·simp only [h,if_false]<;>omega
theorem gy (its:List Value)(lo hi:Option Int):slicePick its.toArray lo hi none=((its.drop (HT.sIx its.length 0 lo)).take (HT.sIx its.length its.length hi - HT.sIx its.length 0 lo)).toArray:=by
 obtain⟨h1,h2,h3⟩:=ij lo hi its.toArray.size
 unfold slicePick
 rw[h1,h2,h3]
 simp only [sliceRange_one,pick_run,List.size_toArray]<;>rfl
def vB (K:PySem.W.Frag):V->Option Int->Option Int->Hp->VK->Prop:=fun x lo hi H Q=>∃ a xs,x=.ref a/\SqL K H a xs/\∀ p,H p=none->Q (.ref p) (upd H p (.lst (cf xs lo hi)))
theorem bn:vW X (vB X.K):=by
 intro pins s σ H x v vl vu lo hi sl Q I rx hs pl pu h
 obtain⟨a,xs,rfl,hx,q⟩:=h
 cases rx
 obtain⟨its,r,ht,hz⟩:=I.list hx
 have hlen:=r.length
 refine⟨"list",_,slot_list_getitem.lookup,ht.isList.typeIs,?_⟩
 refine wpAny_getItem_list_slice ht.isList hs pl pu .none (by simp) ?_ (by rw[List.size_toArray]<;>omega)
 rw[gy,← hlen]
 refine⟨.ref s.heap.objs.size,_,I.laid (t':=s.toks) (o:=.lst (cf xs lo hi)) (fun b ob q=>Heap.get?_push_of_some _ q) (Nat.le_refl _) ?_,rfl,q _ (I.hok.fresh (Nat.le_refl _))⟩
 exact⟨Nat.le_trans (ft xs lo hi) hz,_,0,(r.drop (HT.sIx xs.length 0 lo)).take (HT.sIx xs.length xs.length hi - HT.sIx xs.length 0 lo),Heap.get?_push_size _ rfl⟩
def cj:V->Bool
 |.non=>true
 |.bl _=>true
 |.int _=>true
 |.str _=>true
 |_=>false
def jU:V->V->Bool
 |.non,.non=>true
 |.bl a,.bl b=>a == b
 |.bl a,.int b=>(if a then 1 else 0) == b
 |.int a,.bl b=>a == (if b then 1 else 0)
 |.int a,.int b=>a == b
 |.str a,.str b=>a == b
 |_,_=>false
theorem sH {A:Around}{s:Shared}{y x:V}{u v:Value}(ry:RelV y u)(rx:RelV x v)(fy:cj y=true)(fx:cj x=true):SeqAt.EqAt A s u v (jU y x):=by
 cases y with
 |non=>
  cases ry
  cases x with
  |non=>cases rx;exact SeqAt.EqAt.same _
  |bl b=>cases rx;exact SeqAt.EqAt.none_bool b
  |int b=>obtain⟨t,rfl⟩:=rx;exact SeqAt.EqAt.none_int b t
  |str b=>obtain⟨t,rfl⟩:=rx;exact SeqAt.EqAt.none_str b t
  |_=>exact absurd (show false=true from fx) Bool.false_ne_true
 |bl a=>
  cases ry
  cases x with
  |non=>cases rx;exact SeqAt.EqAt.bool_none a
  |bl b=>cases rx;exact SeqAt.EqAt.bool_bool a b
  |int b=>obtain⟨t,rfl⟩:=rx;exact SeqAt.EqAt.bool_int a b t
  |str b=>obtain⟨t,rfl⟩:=rx;exact SeqAt.EqAt.bool_str a b t
  |_=>exact absurd (show false=true from fx) Bool.false_ne_true
 |int a=>
  obtain⟨t',rfl⟩:=ry
  cases x with
  |non=>cases rx;exact SeqAt.EqAt.int_none a t'
  |bl b=>cases rx;exact SeqAt.EqAt.int_bool a t' b
  |int b=>obtain⟨t,rfl⟩:=rx;exact SeqAt.EqAt.int_int a t' b t
  |str b=>obtain⟨t,rfl⟩:=rx;exact SeqAt.EqAt.int_str a t' b t
  |_=>exact absurd (show false=true from fx) Bool.false_ne_true
 |str a=>
  obtain⟨t',rfl⟩:=ry
  cases x with
  |non=>cases rx;exact SeqAt.EqAt.str_none a t'
  |bl b=>cases rx;exact SeqAt.EqAt.str_bool a t' b
  |int b=>obtain⟨t,rfl⟩:=rx;exact SeqAt.EqAt.str_int a t' b t
  |str b=>obtain⟨t,rfl⟩:=rx;exact SeqAt.EqAt.str_str a t' b t
  |_=>exact absurd (show false=true from fx) Bool.false_ne_true
 |_=>exact absurd (show false=true from fy) Bool.false_ne_true
def jV (x:V)(u:Value):Bool:=match u with
 |.none=>jU .non x
 |.bool b=>jU (.bl b) x
 |.int i _=>jU (.int i) x
 |.str z _=>jU (.str z) x
 |_=>false
theorem nz {x y:V}{u:Value}(r:RelV y u)(f:cj y=true):jV x u=jU y x:=by
 cases y with
 |non=>cases r;rfl
 |bl b=>cases r;rfl
 |int i=>obtain⟨t,rfl⟩:=r;rfl
 |str z=>obtain⟨t,rfl⟩:=r;rfl
 |_=>exact absurd (show false=true from f) Bool.false_ne_true
theorem eu {x:V}:∀ {xs:List V} {us:List Value},Vals xs us->xs.all cj=true->us.any (jV x)=xs.any fun y=>jU y x
 |_,_,.nil,_=>rfl
 |y::xs,u::us,.cons r t,f=>by
  rw[List.all_cons,Bool.and_eq_true] at f
  rw[List.any_cons,List.any_cons,nz r f.1,eu t f.2]
theorem dq {A:Around}{s:Shared}{x:V}{v:Value}(rx:RelV x v)(fx:cj x=true):∀ {xs:List V} {us:List Value},Vals xs us->xs.all cj=true->∀ u∈us,SeqAt.EqAt A s u v (jV x u)
 |_,_,.nil,_=>fun u hu=>by cases hu
 |y::xs,u::us,.cons r t,f=>fun u' hu=>by
  rw[List.all_cons,Bool.and_eq_true] at f
  rcases List.mem_cons.mp hu with rfl|hu
  ·rw[nz r f.1];exact sH r rx f.1 fx
  ·exact dq rx fx t f.2 u' hu
def cy (x:V)(xs:List V):Bool:=xs.any fun y=>jU y x
inductive vZ (K:PySem.W.Frag)(neg:Bool)(x y:V)(H:Hp)(Q:VK):Prop
 |mk (p:Addr)(xs:List V)(hy:y=.ref p)(h:SqL K H p xs\/SqT K H p xs)(fx:cj x=true)(fs:xs.all cj=true)(q:Q (.bl (if neg then !cy x xs else cy x xs)) H):vZ K neg x y H Q
def u8 (K:PySem.W.Frag)(neg:Bool):R2:=fun x y H Q=>vZ K neg x y H Q
theorem cI:OpR X (compareOp .In) (u8 X.K false):=by
 intro pins s σ H x y v u Q I rx ry h
 obtain⟨p,xs,rfl,hq,fx,fs,q⟩:=h
 cases ry
 rcases hq with hq|hq
 ·obtain⟨its,r,pl,hz⟩:=I.list hq
  refine SeqAt.in_listAt (jV x) pl.isList (fun w hw=>dq rx fx r fs w (by simpa using hw)) ⟨.bl _,H,I,rfl,?_⟩
  rw[show its.toArray.any (jV x)=its.any (jV x) by simp,eu r fs]
  exact q
 ·obtain⟨its,r,pl,hz⟩:=I.tuple hq
  refine SeqAt.in_tupleAt (jV x) pl (fun w hw=>dq rx fx r fs w (by simpa using hw)) ⟨.bl _,H,I,rfl,?_⟩
  rw[show its.toArray.any (jV x)=its.any (jV x) by simp,eu r fs]
  exact q
theorem bB:OpR X (compareOp .NotIn) (u8 X.K true):=by
 intro pins s σ H x y v u Q I rx ry h
 obtain⟨p,xs,rfl,hq,fx,fs,q⟩:=h
 cases ry
 rcases hq with hq|hq
 ·obtain⟨its,r,pl,hz⟩:=I.list hq
  refine SeqAt.notIn_listAt (jV x) pl.isList (fun w hw=>dq rx fx r fs w (by simpa using hw)) ⟨.bl _,H,I,rfl,?_⟩
  rw[show its.toArray.any (jV x)=its.any (jV x) by simp,eu r fs]
  exact q
 ·obtain⟨its,r,pl,hz⟩:=I.tuple hq
  refine SeqAt.notIn_tupleAt (jV x) pl (fun w hw=>dq rx fx r fs w (by simpa using hw)) ⟨.bl _,H,I,rfl,?_⟩
  rw[show its.toArray.any (jV x)=its.any (jV x) by simp,eu r fs]
  exact q
theorem bM:cL X (.type "tuple") (fun xs H Q=>∃ p ys,xs=[.ref p]/\((SqL X.K H p ys/\∀ l,H l=none->Q (.ref l) (upd H l (.tup ys)))\/(SqT X.K H p ys/\Q (.ref p) H))):=by
 intro pins s σ H xs us Q I r h
 obtain⟨p,ys,rfl,h⟩:=h
 obtain⟨u,rfl,rx⟩:=dU r
 cases rx
 rcases h with⟨hq,q⟩|⟨hq,q⟩
 ·obtain⟨its,r',pl,hz⟩:=I.list hq
  have hlen:=r'.length
  refine call_tuple_list pl.isList (fun h' kp=>?_) (by simp only [List.size_toArray]<;>omega)
  have I1:Inv X pins σ H {s with heap:=h'}:=I.kept (t':=s.toks) kp
  have I2:Inv X pins σ (upd H h'.objs.size (.tup ys)) {s with heap:=h'.push {cls:=.type "tuple",data:=.seq its.toArray}}:=
   I1.laid (t':=s.toks) (fun b o e=>Heap.get?_push_of_some _ e) (Nat.le_refl _) (show ObjOk X.prog X.w _ _ _ (.tup ys) from ⟨hz,its,r',IsTup.new _ _⟩)
  exact⟨.ref h'.objs.size,_,I2,rfl,q _ (I1.hok.fresh (Nat.le_refl _))⟩
 ·obtain⟨its,r',pl,hz⟩:=I.tuple hq
  exact call_tuple_same pl ⟨.ref p,H,I,rfl,q⟩
def v6 (K:PySem.W.Frag)(T:String)(x:V)(H:Hp):Prop:=match x with
 |.str _=>T="str"
 |.int _=>T="int"
 |.ref p=>(T="list"/\∃ xs,SqL K H p xs)\/(T="tuple"/\∃ o,K.lookup p=some o/\o.cls=.type "tuple"/\o.dict=none)\/
   (T="dict"/\((∃ kvs,H p=some (.dK kvs))\/∃ kvs,H p=some (.dT kvs)))\/(T="set"/\∃ S n,H p=some (.set S n))
 |_=>False
theorem sI {pins:List (Addr×Obj)}{σ:St}{H:Hp}{s:Shared}{T:String}{x:V}{v:Value}(I:Inv X pins σ H s)(r:RelV x v)(ty:v6 X.K T x H):
  s.TypeIs v T/\∀ a,v=.ref a->∃ ob,s.heap.get? a=some ob/\ob.dict=none:=by
 cases x with
 |str z=>
  obtain⟨t,rfl⟩:=r
  cases (show T="str" from ty)
  exact⟨typeIs_str s z t,fun _ e=>nomatch e⟩
 |int i=>
  obtain⟨t,rfl⟩:=r
  cases (show T="int" from ty)
  exact⟨typeIs_int s i t,fun _ e=>nomatch e⟩
 |ref p=>
  cases r
  rcases ty with⟨rfl,xs,hq⟩|⟨rfl,o,hk,hc,hd⟩|⟨rfl,hk⟩|⟨rfl,S,n,hk⟩
  ·obtain⟨its,_,pl,_⟩:=I.list hq
   refine⟨pl.isList.typeIs,fun a e=>?_⟩
   cases e
   obtain⟨o,n,e,c,hd,_⟩:=pl
   exact⟨o,e,hd⟩
  ·refine⟨⟨o,I.kIn p o hk,hc⟩,fun a e=>?_⟩
   cases e
   exact⟨o,I.kIn _ o hk,hd⟩
  ·have z:∃ o,s.heap.get? p=some o/\o.ExactDict:=by
    rcases hk with⟨kvs,hk⟩|⟨kvs,hk⟩
    ·obtain⟨_,_,_,_,o,_,_,e,ex,_⟩:=I.hok p _ hk
     exact⟨o,e,ex⟩
    ·obtain⟨_,_,_,_,o,_,_,e,ex,_⟩:=I.hok p _ hk
     exact⟨o,e,ex⟩
   obtain⟨o,e,ex⟩:=z
   refine⟨⟨o,e,ex.1⟩,fun a e2=>?_⟩
   cases e2
   exact⟨o,e,ex.2.1⟩
  ·obtain⟨o,_,_,_,e,ex,_⟩:=I.hok p _ hk
   refine⟨⟨o,e,ex.1⟩,fun a e2=>?_⟩
   cases e2
   exact⟨o,e,ex.2.1⟩
 |_=>exact False.elim ty
def wk (K:PySem.W.Frag)(T:String)(r:V->List V->Hp->VK->Prop)(to:TE)(t:TA):TE:=fun σ H Q=>to σ H fun x H1=>v6 K T x H1/\t σ H1 fun xs H2=>r x xs H2 Q
variable {o e:Expr}{es:List Expr}{to:TE}{t:TA}{name:Str}{apos cpos:Pos}{T id:String}{r:V->List V->Hp->VK->Prop}
theorem fS (pa:PlainAttrs T)(slot:Slot T name id)(hty:typeOf (.builtin id)=pure (.type "method_descriptor"))(hm:vX X id r)(ho:PE X o to)(ha:PA X (e::es) t)
  (hbase:attributeBase o name X.env (eval o X.env)=eval o X.env:=by rfl)
  (hfew:((backTo cpos (starEach (e::es) X.env)).all (fun x=>!x.1)&&(backToKw cpos (keywordEach [] X.env)).all (fun x=>x.1.isSome)
   &&decide ((e::es).length+([]:List Keyword).length+(if ([]:List Keyword).isEmpty then 0 else 1) < 30))=true:=by rfl)
  (hline:(apos.endLine == cpos.line)=true:=by rfl) (hs:starEach (e::es) X.env=(false,eval e X.env)::starEach es X.env:=by rfl) (hplain:(backTo cpos (starEach es X.env)).any (·.1)=false:=by rfl):
  PE X (.Call (.Attribute o name apos) (e::es) [] cpos) (wk X.K T r to t):=by
 intro pins s σ H Q I h
 refine wpAny_Call_method_late hbase hfew hline rfl (bH (ho pins s σ H _ I h) fun v s1 ⟨x,H1,I1,r1,ty,q1⟩=>?_)
 obtain⟨h1,h2⟩:=sI I1 r1 ty
 refine⟨T,id,pa,slot,hty,h1,h2,?_⟩
 have hA:=ha cpos pins s1 σ H1 _ I1 q1
 rw[hs] at hA ⊢
 refine Calls.callWith_builtin (by show (false || (backTo cpos (starEach es X.env)).any (·.1))=false;rw[hplain]<;>rfl) (Calls.evalArgs_plain ?_)
 exact bH hA fun us s2 ⟨vs,H2,I2,r2,q2⟩=>hm pins s2 σ H2 x vs v us Q I2 r1 r2 q2
end
end L2
namespace L2
open PySem PySem.Spec PyProof.Rows
def v8 (X:Cx)(id:String)(r:V->List V->Hp->VK->Prop):Prop:=
 ∀ (pins:List (Addr×Obj)) (s:Shared) (σ:St) (H:Hp) (x:V) (xs:List V) (v:Value) (us:List Value) (Q:VK),Inv X pins σ H s->RelV x v->Vals xs us->r x xs H Q->
  wpAny (model X.prog X.w) X.A (call (.builtin id) (v::us)) (EP X pins σ Q) X.xe s
theorem Vals.one:∀ {x:V} {us:List Value},Vals [x] us->∃ u,us=[u]/\RelV x u
 |_,_,.cons r .nil=>⟨_,rfl,r⟩
theorem Vals.two:∀ {x y:V} {us:List Value},Vals [x,y] us->∃ u v,us=[u,v]/\RelV x u/\RelV y v
 |_,_,_,.cons r (.cons q .nil)=>⟨_,_,rfl,r,q⟩
theorem Vals.rep {xs:List V}{us:List Value}(h:Vals xs us):∀ k:Nat,Vals (List.replicate k xs).flatten (List.replicate k us).flatten
 |0=>.nil
 |k+1=>by
  rw[List.replicate_succ,List.replicate_succ,List.flatten_cons,List.flatten_cons]
  exact Vals.append h (Vals.rep h k)
theorem gM (its:List Value):∀ (k:Nat) (acc:List Value),
  List.foldl (fun x1 x2=>x1++x2) acc.toArray (List.replicate k its.toArray)=(acc++(List.replicate k its).flatten).toArray
 |0,acc=>by simp
 |k+1,acc=>by
  have e:acc.toArray++its.toArray=(acc++its).toArray:=by simp
  have e2:(acc++its)++(List.replicate k its).flatten=acc++(List.replicate (k+1) its).flatten:=by
   rw[List.replicate_succ,List.flatten_cons,List.append_assoc]
  rw[← e2,← gM its k (acc++its),← e,List.replicate_succ,List.foldl_cons]
section
variable {X:Cx}{pins:List (Addr×Obj)}{σ:St}{H:Hp}{s:Shared}{l b:Addr}{xs ys zs:List V}
theorem Inv.lset {its its':List Value}{n:Nat}{f:Array Value->Array Value}{t':Nat}(I:Inv X pins σ H s)(hH:H l=some (.lst xs))
  (e:s.heap.get? l=some {cls:=.type "list",data:=.seq its.toArray n}) (hf:f its.toArray=its'.toArray) (hv:Vals ys its') (hz:ys.length<=sizeLine):
  Inv X pins σ (upd H l (.lst ys)) {s with heap:=s.heap.update l (Obj.mapSeq f),toks:=t'}:=by
 have q:=PySem.IsL.update e f
 rw[hf] at q
 refine I.write (x:=l) (e:=l) (by rw[hH];exact trivial) (.inl rfl) (fun b' u hb hu=>(Heap.get?_update_other s.heap (Obj.mapSeq f) (Ne.symm hb)).trans hu) ⟨_,q⟩ ?_
 exact⟨hz,its',_,hv,q⟩
theorem Inv.lnew {its:List Value}{t':Nat}(I:Inv X pins σ H s)(hv:Vals ys its)(hz:ys.length<=sizeLine):
  Inv X pins σ (upd H s.heap.objs.size (.lst ys)) {s with heap:=s.heap.push {cls:=.type "list",data:=.seq its.toArray},toks:=t'}:=
 I.laid (fun _ _ q=>Heap.get?_push_of_some _ q) (Nat.le_refl _) ⟨hz,its,0,hv,Heap.get?_push_size _ rfl⟩
theorem Inv.fresh (I:Inv X pins σ H s):H s.heap.objs.size=none:=I.hok.fresh (Nat.le_refl _)
theorem Inv.lstM (I:Inv X pins σ H s)(hH:H l=some (.lst xs)):xs.length<=sizeLine/\∃ (its:List Value) (n:Nat),Vals xs its/\xs.length=its.length/\s.heap.get? l=some {cls:=.type "list",data:=.seq its.toArray n}:=by
 obtain⟨z,its,n,r,e⟩:=I.hok l _ hH
 exact⟨z,its,n,r,r.length,e⟩
theorem iW {n:Nat}(h:n<=sizeLine):Builtin.List.listTooLong n=false:=by
 unfold Builtin.List.listTooLong
 exact decide_eq_false (by omega)
end
section
variable {X:Cx}
inductive uv (x:V)(vs:List V)(H:Hp)(Q:VK):Prop
 |mk (l:Addr)(xs:List V)(y:V)(hx:x=.ref l)(hv:vs=[y])(h:H l=some (.lst xs))(z:xs.length < sizeLine)(q:Q .non (upd H l (.lst (xs++[y])))):uv x vs H Q
def qj:V->List V->Hp->VK->Prop:=fun x vs H Q=>uv x vs H Q
theorem cJ:v8 X "list.append" qj:=by
 intro pins s σ H x vs v us Q I rx rv h
 obtain⟨l,xs,y,rfl,rfl,hH,hz,q⟩:=h
 cases rx
 obtain⟨u,rfl,ru⟩:=rv.one
 obtain⟨z,its,n,r,hl,e⟩:=I.lstM hH
 refine call_meets F.slot_list_append ⟨_,e,rfl⟩ F.entry_list_append (F.args_list_append_2 _ _) (PySem.list_append l its.toArray n u (by rw[List.size_toArray];omega)) ⟨e,?_⟩
 refine⟨.non,_,I.lset (its':=its++[u]) hH e (by simp) (r.append (.cons ru .nil)) ?_,rfl,q⟩
 rw[List.length_append,List.length_singleton]
 omega
def qk:V->List V->Hp->VK->Prop:=fun x vs H Q=>∃ l b xs zs,x=.ref l/\vs=[.ref b]/\H l=some (.lst xs)/\H b=some (.lst zs)/\xs.length+zs.length<=sizeLine/\Q .non (upd H l (.lst (xs++zs)))
theorem mi:v8 X "list.extend" qk:=by
 intro pins s σ H x vs v us Q I rx rv h
 obtain⟨l,b,xs,zs,rfl,rfl,hH,hB,hz,q⟩:=h
 cases rx
 obtain⟨u,rfl,ru⟩:=rv.one
 cases ru
 obtain⟨z,its,n,r,hl,e⟩:=I.lstM hH
 obtain⟨z2,its2,n2,r2,hl2,e2⟩:=I.lstM hB
 have hsz:its.toArray.size+its2.toArray.size<=sizeLine:=by rw[List.size_toArray,List.size_toArray];omega
 have hlong:¬ (!its.toArray.isEmpty&&Builtin.List.listTooLong (its.toArray.size+its2.toArray.size))=true:=by
  rw[iW hsz,Bool.and_false]
  exact Bool.false_ne_true
 refine call_meets F.slot_list_extend ⟨_,e,rfl⟩ F.entry_list_extend (F.args_list_extend_2 _ _)
  (AutoSeq1.list_extend_list_list_0 l its.toArray n b its2.toArray n2 hlong (by rw[List.size_toArray];omega) (by omega)) ⟨e,e2,?_⟩
 refine⟨.non,_,I.lset (its':=its++its2) hH e (by simp) (r.append r2) ?_,rfl,q⟩
 rw[List.length_append]
 omega
def vC:R2:=fun x y H Q=>∃ l b xs zs,x=.ref l/\y=.ref b/\H l=some (.lst xs)/\H b=some (.lst zs)/\xs.length+zs.length<=sizeLine/\∀ p,H p=none->Q (.ref p) (upd H p (.lst (xs++zs)))
theorem bv:OpR X (binaryOp .Add) vC:=by
 intro pins s σ H x y v u Q I rx ry h
 obtain⟨l,b,xs,zs,rfl,rfl,hH,hB,hz,q⟩:=h
 cases rx
 cases ry
 obtain⟨z,its,n,r,hl,e⟩:=I.lstM hH
 obtain⟨z2,its2,n2,r2,hl2,e2⟩:=I.lstM hB
 refine PySem.P.add_list e e2 ?_ (by rw[List.size_toArray,List.size_toArray];omega)
 have ea:its.toArray++its2.toArray=(its++its2).toArray:=by simp
 rw[ea]
 exact⟨.ref _,_,I.lnew (t':=s.toks) (r.append r2) (by rw[List.length_append];omega),rfl,q _ I.fresh⟩
def vD:R2:=fun x y H Q=>∃ l k xs,x=.ref l/\y=.int k/\H l=some (.lst xs)/\ -(2 ^ 63)<=k/\k < 2 ^ 63/\xs.length*k.toNat<=sizeLine/\
 ∀ p,H p=none->Q (.ref p) (upd H p (.lst (List.replicate k.toNat xs).flatten))
theorem qm {α:Type}(xs:List α)(k:Nat):(List.replicate k xs).flatten.length=k*xs.length:=by
 induction k with
 |zero=>simp
 |succ k ih=>rw[List.replicate_succ,List.flatten_cons,List.length_append,ih,Nat.succ_mul,Nat.add_comm]
theorem nA:OpR X (binaryOp .Mult) vD:=by
 intro pins s σ H x y v u Q I rx ry h
 obtain⟨l,k,xs,rfl,rfl,hH,h1,h2,hz,q⟩:=h
 cases rx
 obtain⟨t,rfl⟩:=ry
 obtain⟨z,its,n,r,hl,e⟩:=I.lstM hH
 have hlen:its.toArray.size*k.toNat<=sizeLine:=by rw[List.size_toArray,← hl];exact hz
 have hcap:¬ its.toArray.size*k.toNat > (2 ^ 63 - 1) / 8:=by
  have:(sizeLine:Nat)<=(2 ^ 63 - 1) / 8:=by decide
  omega
 have hfit:¬ (!Builtin.List.listFitsIndex k)=true:=by
  rw[fitsIndex_both h1 h2]
  exact Bool.false_ne_true
 have hlong:¬ Builtin.List.listTooLong (its.toArray.size*k.toNat)=true:=by
  rw[iW hlen]
  exact Bool.false_ne_true
 have hnew:List.foldl (fun x1 x2=>x1++x2) #[] (List.replicate (if its.toArray.isEmpty=true then 0 else k.toNat) its.toArray)=(List.replicate k.toNat its).flatten.toArray:=by
  have f0:∀ m:Nat,List.foldl (fun x1 x2=>x1++x2) #[] (List.replicate m its.toArray)=(List.replicate m its).flatten.toArray:=fun m=>by
   have:=gM its m []
   rw[List.nil_append] at this
   exact this
  rw[f0]
  cases its with
  |nil=>simp
  |cons a r'=>rw[if_neg (by simp)]
 refine wpAny_binaryOp_repeat_ref (T:="list") (U:="int") (by decide) ⟨_,e,rfl⟩ (fun s'=>typeIs_int s' k t) noFill_list_mul F.fills_int_mul F.slot_int_rmul repeat_list F.slot_int_index.lookup
  (call_meets F.slot_int_rmul (typeIs_int s k t) F.entry_int_rmul (F.args_int_rmul_2 _ _) (int___rmul___int_list k t l its.toArray n)
   ⟨e,rfl,⟨_,e,rfl⟩,call_meets F.slot_list_mul ⟨_,e,rfl⟩ F.entry_list_mul (F.args_list_mul_2 _ _) (AutoListH.list___mul___list_int_3 l its.toArray n k t hfit hcap hlong) ⟨e,?_⟩⟩)
 rw[hnew]
 exact⟨.ref _,_,I.lnew (t':=s.toks) (r.rep k.toNat) (by rw[qm,Nat.mul_comm];exact hz),rfl,q _ I.fresh⟩
end
section
variable {prog:Program}{w:World}{A:Around}{E:Value->Shared->Prop}{s:Shared}
set_option maxRecDepth 100000 in
end
section
variable {X:Cx}
end
end L2
namespace L2
open PySem PySem.Spec PyProof.Rows
section
variable {κ:Type} [DecidableEq κ]
def eX (kvs:List (κ×V))(k:κ):Option V:=(kvs.find? fun kv=>decide (kv.1=k)).map (·.2)
def dr (kvs:List (κ×V))(k:κ)(v:V):List (κ×V):=
 if (kvs.any fun kv=>decide (kv.1=k))=true then kvs.map (fun kv=>if kv.1=k then (kv.1,v) else kv) else kvs++[(k,v)]
theorem eA {p:κ×V}{r:List (κ×V)}{k:κ}(e:p.1=k):eX (p::r) k=some p.2:=by simp [eX,List.find?_cons,e]
theorem eB {p:κ×V}{r:List (κ×V)}{k:κ}(e:¬ p.1=k):eX (p::r) k=eX r k:=by simp [eX,List.find?_cons,e]
theorem iX (k:κ):∀ kvs:List (κ×V),(kvs.any fun kv=>decide (kv.1=k))=(eX kvs k).isSome
 |[]=>rfl
 |p::r=>by
  rw[List.any_cons]
  by_cases e:p.1=k
  ·simp only [eA e,decide_eq_true e,Bool.true_or,Option.isSome_some]
  ·rw[eB e,decide_eq_false e,Bool.false_or];exact iX k r
theorem du (kvs:List (κ×V))(k:κ)(v:V):(dr kvs k v).length<=kvs.length+1:=by
 unfold dr
 split
 ·rw[List.length_map];omega
 ·rw[List.length_append,List.length_cons,List.length_nil];omega
theorem RelO.isSome_eq {o:Option V}{u:Option Value}(r:RelO o u):o.isSome=u.isSome:=by
 cases o with
 |none=>cases u with
  |none=>rfl
  |some _=>exact (show False from r).elim
 |some _=>cases u with
  |none=>exact (show False from r).elim
  |some _=>rfl
theorem KV.val {kvs:List (κ×V)}{vs:List (κ×Value)}(r:KV kvs vs)(k:κ):RelO (eX kvs k) (valueAt vs k):=by
 unfold KV at r
 induction r with
 |nil=>exact True.intro
 |@cons p q ps qs h t ih=>
  obtain⟨h1,h2⟩:=h
  by_cases e:p.1=k
  ·have e':q.1=k:=h1.symm.trans e
   have b:valueAt (q::qs) k=some q.2:=by simp [valueAt,List.find?_cons,e']
   rw[eA e,b];exact h2
  ·have e':¬ q.1=k:=fun z=>e (h1.trans z)
   have b:valueAt (q::qs) k=valueAt qs k:=by simp [valueAt,List.find?_cons,e']
   rw[eB e,b];exact ih
theorem KV.any {kvs:List (κ×V)}{vs:List (κ×Value)}(r:KV kvs vs)(k:κ):(kvs.any fun kv=>decide (kv.1=k))=vs.any fun kv=>decide (kv.1=k):=by
 unfold KV at r
 induction r with
 |nil=>rfl
 |cons h t ih=>rw[List.any_cons,List.any_cons,ih,h.1]
theorem KV.repl {kvs:List (κ×V)}{vs:List (κ×Value)}(r:KV kvs vs)(k:κ){y:V}{u:Value}(ry:RelV y u):
  KV (kvs.map fun kv=>if kv.1=k then (kv.1,y) else kv) (vs.map fun kv=>if kv.1=k then (kv.1,u) else kv):=by
 unfold KV at r ⊢
 induction r with
 |nil=>exact .nil
 |@cons p q ps qs h t ih=>
  rw[List.map_cons,List.map_cons]
  refine .cons ?_ ih
  obtain⟨h1,h2⟩:=h
  by_cases e:p.1=k
  ·rw[if_pos e,if_pos (h1.symm.trans e)];exact⟨h1,ry⟩
  ·rw[if_neg e,if_neg (fun z=>e (h1.trans z))];exact⟨h1,h2⟩
theorem KV.put {kvs:List (κ×V)}{vs:List (κ×Value)}(r:KV kvs vs)(k:κ){y:V}{u:Value}(ry:RelV y u):KV (dr kvs k y) (stored vs k u):=by
 unfold dr stored
 rw[r.any k]
 by_cases e:(vs.any fun kv=>decide (kv.1=k))=true
 ·rw[if_pos e,if_pos e];exact r.repl k ry
 ·rw[if_neg e,if_neg e];exact Paired.snoc r ⟨rfl,ry⟩
theorem KV.length {kvs:List (κ×V)}{vs:List (κ×Value)}(r:KV kvs vs):kvs.length=vs.length:=Paired.length r
end
theorem iY {P:Program}{w:World}{k:bG}{u:Value}(r:RelV (kV k) u):(br P w).is k u=true:=by
 cases k with
 |inl i=>obtain⟨t,e⟩:=(show ∃ t,u=Value.int i t from r);subst e;exact iR P w i t
 |inr x=>obtain⟨t,e⟩:=(show ∃ t,u=Value.str x t from r);subst e;exact iS P w x t
theorem gN {P:Program}{w:World}:∀ {ks:List bG} {us:List Value},Vals (ks.map kV) us->ItemsAre (br P w) ks us
 |[],_,r=>by rw[List.map_nil] at r;cases r;exact .nil
 |k::ks,_,r=>by
  rw[List.map_cons] at r
  cases r with
  |cons h t=>exact .cons (iY h) (gN t)
abbrev KT (H:Hp):List (List bG×V)->List (List bG×Addr×Value)->Prop:=Paired fun p q=>p.1=q.1/\H q.2.1=some (.tup (p.1.map kV))/\RelV p.2 q.2.2
theorem KT.val {H:Hp}{kvs:List (List bG×V)}{xs:List (List bG×Addr×Value)}(r:KT H kvs xs)(k:List bG):RelO (eX kvs k) ((atKey xs k).map (·.2)):=by
 induction r with
 |nil=>exact True.intro
 |@cons p q ps qs h t ih=>
  obtain⟨h1,_,h2⟩:=h
  by_cases e:p.1=k
  ·have e':q.1=k:=h1.symm.trans e
   have b:atKey (q::qs) k=some q.2:=by simp [atKey,List.find?_cons,e']
   rw[eA e,b];exact h2
  ·have e':¬ q.1=k:=fun z=>e (h1.trans z)
   have b:atKey (q::qs) k=atKey qs k:=by simp [atKey,List.find?_cons,e']
   rw[eB e,b];exact ih
theorem KT.repl {H:Hp}{kvs:List (List bG×V)}{xs:List (List bG×Addr×Value)}(r:KT H kvs xs)(k:List bG){y:V}{u:Value}(ry:RelV y u):
  KT H (kvs.map fun kv=>if kv.1=k then (kv.1,y) else kv) (xs.map (putAt k u)):=by
 induction r with
 |nil=>exact .nil
 |@cons p q ps qs h t ih=>
  rw[List.map_cons,List.map_cons]
  refine .cons ?_ ih
  obtain⟨h1,h2,h3⟩:=h
  unfold putAt
  by_cases e:p.1=k
  ·rw[if_pos e,if_pos (h1.symm.trans e)];exact⟨h1,h2,ry⟩
  ·rw[if_neg e,if_neg (fun z=>e (h1.trans z))];exact⟨h1,h2,h3⟩
theorem KT.put {H:Hp}{kvs:List (List bG×V)}{xs:List (List bG×Addr×Value)}(r:KT H kvs xs)(k:List bG){b:Addr}{y:V}{u:Value}(hb:H b=some (.tup (k.map kV)))(ry:RelV y u):
  KT H (dr kvs k y) (storedH xs k b u):=by
 have e:(kvs.any fun kv=>decide (kv.1=k))=(atKey xs k).isSome:=by
  rw[iX,(r.val k).isSome_eq,Option.isSome_map]
 unfold dr storedH
 rw[e]
 by_cases q:(atKey xs k).isSome=true
 ·rw[if_pos q,if_pos q];exact r.repl k ry
 ·rw[if_neg q,if_neg q];exact Paired.snoc r ⟨rfl,hb,ry⟩
theorem KT.keeps {H H':Hp}{kvs:List (List bG×V)}{xs:List (List bG×Addr×Value)}(r:KT H kvs xs)(ht:∀ b ys,H b=some (.tup ys)->H' b=some (.tup ys)):KT H' kvs xs:=
 Paired.mapP r fun _ _ z=>⟨z.1,ht _ _ z.2.1,z.2.2⟩
section
variable {P:Program}{w:World}{H:Hp}{h:Heap}{a:Addr}
theorem ro {u:HO}(ok:HOk P w H h)(e:Rd H a u):ObjOk P w H h a u:=e.ok ok
theorem nB {kvs:List (bG×V)}(ok:HOk P w H h)(e:Rd H a (.dK kvs)):kvs.length<=sizeLine/\(a == sysModules)=false/\∃ vs,KV kvs vs/\h.DictOf (br P w) a vs:=
 show ObjOk P w H h a (.dK kvs) from ro ok e
theorem rp {kvs:List (bG×V)}(ok:HOk P w H h)(e:H a=some (.dK kvs)):kvs.length<=sizeLine/\(a == sysModules)=false/\∃ vs,KV kvs vs/\h.DictOf (br P w) a vs:=nB ok (.inl e)
theorem jW {ks:List bG}(ok:HOk P w H h)(e:H a=some (.tup (ks.map kV))):(tupleKind (br P w)).is h ks a:=by
 obtain⟨_,its,r,o,h1,h2,n,h3⟩:=(show ObjOk P w H h a (.tup (ks.map kV)) from ok a _ e)
 exact⟨o,its.toArray,n,h1,h2,h3,by simpa using gN r⟩
theorem nC {kvs:List (List bG×V)}(ok:HOk P w H h)(e:Rd H a (.dT kvs)):kvs.length<=sizeLine/\(a == sysModules)=false/\
  ∃ xs,KT H kvs xs/\h.DictOfH (tupleKind (br P w)) a xs:=by
 obtain⟨z,y,xs,r,o,es,ep,h1,h2,h3,h4,h5⟩:=(show ObjOk P w H h a (.dT kvs) from ro ok e)
 refine⟨z,y,xs,r,o,es,ep,h1,h2,h3,h4,fun x hx=>?_,h5⟩
 have all:∀ {l:List (List bG×V)} {m:List (List bG×Addr×Value)},KT H l m->∀ x∈m,(tupleKind (br P w)).is h x.1 x.2.1:=by
  intro l m q
  induction q with
  |nil=>intro x hx;exact nomatch hx
  |@cons p q ps qs hq t ih=>
   intro x hx
   rcases List.mem_cons.mp hx with e|hx
   ·subst e
    exact jW ok (by rw[← hq.1];exact hq.2.1)
   ·exact ih x hx
 exact all r x hx
theorem uw {kvs:List (List bG×V)}(ok:HOk P w H h)(e:H a=some (.dT kvs)):kvs.length<=sizeLine/\(a == sysModules)=false/\
  ∃ xs,KT H kvs xs/\h.DictOfH (tupleKind (br P w)) a xs:=nC ok (.inl e)
end
def DGet (H:Hp)(a:Addr)(y:V)(r:Option V):Prop:=
 (∃ kvs k,Rd H a (.dK kvs)/\y=kV k/\r=eX kvs k)\/∃ kvs k b,Rd H a (.dT kvs)/\y=.ref b/\H b=some (.tup (k.map kV))/\r=eX kvs k
def DPut (H:Hp)(a:Addr)(y v:V)(H':Hp):Prop:=
 (∃ kvs k,H a=some (.dK kvs)/\y=kV k/\kvs.length < sizeLine/\H'=upd H a (.dK (dr kvs k v)))\/
 ∃ kvs k b,H a=some (.dT kvs)/\y=.ref b/\H b=some (.tup (k.map kV))/\kvs.length < sizeLine/\H'=upd H a (.dT (dr kvs k v))
theorem DGet.k {H:Hp}{a:Addr}{kvs:List (bG×V)}{k:bG}(e:H a=some (.dK kvs)):DGet H a (kV k) (eX kvs k):=.inl ⟨kvs,k,.inl e,rfl,rfl⟩
theorem DPut.k {H:Hp}{a:Addr}{kvs:List (bG×V)}{k:bG}{v:V}(e:H a=some (.dK kvs))(hl:kvs.length < sizeLine):DPut H a (kV k) v (upd H a (.dK (dr kvs k v))):=.inl ⟨kvs,k,e,rfl,hl,rfl⟩
section
variable {X:Cx}{pins:List (Addr×Obj)}{σ:St}{H:Hp}{s:Shared}{a:Addr}{y v:V}{u r:Value}{o:Option V}{A:Around}{E:Value->Shared->Prop}
theorem Inv.big (I:Inv X pins σ H s):sysModules < s.heap.objs.size:=by
 have h:mainGlobals < s.heap.objs.size:=(I.mod.glob.keeps I.bk).lt
 exact Nat.lt_trans (by decide) h
theorem mj {Q:Value->Shared->Prop}(hu:A.units+1 < cLine)(I:Inv X pins σ H s)(g:DGet H a y (some v))(ry:RelV y u)(h:∀ w' s',Inv X pins σ H s'->RelV v w'->Q w' s'):
  wpAny (model X.prog X.w) A (getItem (.ref a) u) Q E s:=by
 rcases g with⟨kvs,k,e,ey,l⟩|⟨kvs,k,b,e,ey,eb,l⟩
 ·subst ey
  obtain⟨z,hd,vs,rel,dd⟩:=nB I.hok e
  obtain⟨w',hw,rw'⟩:=RelO.some_of (v:=v) (o:=valueAt vs k) (by rw[l];exact rel.val k)
  exact wpAny_getItem_of (iY ry) dd.mapOf hw (h w' _ (I.tok _) rw')
 ·subst ey
  cases (show u=Value.ref b from ry)
  obtain⟨z,hd,xs,rel,dd⟩:=nC I.hok e
  obtain⟨w',hw,rw'⟩:=RelO.some_of (v:=v) (o:=(atKey xs k).map (·.2)) (by rw[l];exact rel.val k)
  obtain⟨p,hp,hp2⟩:=Option.map_eq_some_iff.mp hw
  refine wpAny_getItem_heap (tupleKind_room_in1 hu) (jW I.hok eb) dd hp ?_
  rw[hp2]
  exact h w' _ (I.tok _) rw'
theorem ik {h':Heap}{t':Nat}{ob:HO}(I:Inv X pins σ H s)(mu:t0 (H a))(hs:Heap.SameBut a s.heap h')(he:∃ q,h'.get? a=some q)(new:ObjOk X.prog X.w (upd H a ob) h' a ob):
  Inv X pins σ (upd H a ob) {s with heap:=h',toks:=t'}:=
 I.write (x:=a) (e:=a) mu (.inl rfl) (fun b q hb z=>(hs.2 b hb).trans z) he new
theorem jX {P:Program}{w:World}{H':Hp}{h':Heap}{kvs:List (bG×V)}{vs:List (bG×Value)}(z:kvs.length<=sizeLine)(hd:(a == sysModules)=false)(rel:KV kvs vs)(dd:h'.DictOf (br P w) a vs):
  ObjOk P w H' h' a (.dK kvs):=⟨z,hd,vs,rel,dd⟩
theorem mm {H':Hp}{Q:Unit->Shared->Prop}(hu:A.units+1 < cLine)(I:Inv X pins σ H s)(g:DPut H a y v H')(ry:RelV y u)(rv:RelV v r)(h:∀ s',Inv X pins σ H' s'->Q () s'):
  wpAny (model X.prog X.w) A (setItem (.ref a) u r) Q E s:=by
 rcases g with⟨kvs,k,e,ey,l,eH⟩|⟨kvs,k,b,e,ey,eb,l,eH⟩
 ·subst ey eH
  obtain⟨z,hd,vs,rel,dd⟩:=rp I.hok e
  have hz:vs.length<=sizeLine:=by rw[← rel.length];exact z
  have hl:(dr kvs k v).length<=sizeLine:=by have:=du kvs k v;omega
  refine wpAny_setItem_pairs (hsz:=hz) (iY ry) dd fun h' dd' hs=>h _ ?_
  have he:∃ q,h'.get? a=some q:=let ⟨q,_,_,hq,_⟩:=dd';⟨q,hq⟩
  exact ik I (by rw[e];exact True.intro) hs he (jX hl hd (rel.put k rv) dd')
 ·subst ey eH
  cases (show u=Value.ref b from ry)
  obtain⟨z,hd,xs,rel,dd⟩:=uw I.hok e
  have hz:xs.length<=sizeLine:=by rw[← Paired.length rel];exact z
  have hl:(dr kvs k v).length<=sizeLine:=by have:=du kvs k v;omega
  refine wpAny_setItem_heap (hsz:=hz) (tupleKind_room_in1 hu) (jW I.hok eb) dd fun h' dd' hs=>h _ ?_
  obtain⟨q,es,ep,hq,h2,h3,h4,_,h5⟩:=dd'
  refine ik I (by rw[e];exact True.intro) hs ⟨q,hq⟩ ⟨hl,hd,_,(rel.put k eb rv).keeps fun c ys ec=>?_,q,es,ep,hq,h2,h3,h4,h5⟩
  rw[ay (re ec e (fun z=>nomatch z))]
  exact ec
end
section
variable {X:Cx}{pins:List (Addr×Obj)}{σ:St}{H:Hp}{s:Shared}{a:Addr}{kvs:List (bG×V)}{k:bG}{u:Value}{A:Around}{E:Value->Shared->Prop}
end
def ux (i:Expr):Prop:=∀ ov iv,subscripted i false ov iv=operate [ov,iv] (getItem ov iv)
theorem qo {prog:Program}{w:World}{A:Around}{E:Value->Shared->Prop}{s:Shared}{env:Env}{value slice:Expr}{pos:Pos}{T id:String}{Q:Value->Shared->Prop}
  (hl:typeLookup (.type T) "__getitem__"=pure (some (.builtin id))) (hs:ux slice)
  (h:wpAny (model prog w) A (eval value env) (fun o s₁=>wpAny (model prog w) A (eval slice env) (fun i s₂=>s₂.TypeIs o T/\wpAny (model prog w) A (getItem o i) Q E s₂) E s₁) E s):
  wpAny (model prog w) A (eval (.Subscript value slice pos) env) Q E s:=by
 refine Subscript_ (wpAny_mono h (fun o s₁ h₁=>wpAny_mono h₁ (fun i s₂ h₂=>?_) fun _ _ x=>x) fun _ _ x=>x)
 obtain⟨hT,h₂⟩:=h₂
 unfold subscriptTail
 refine wpAny_bind ?_
 rw[getitemInPython_of_ne hT.not_modules]
 refine wpAny_bind (wpAny_specialOf hT hl ?_)
 have fin:wpAny (model prog w) A (subscripted slice false o i) (fun r s₃=>wpAny (model prog w) A (letTemporaryGo value o r >>=fun _=>pure r) Q E s₃) E s₂:=by
  rw[hs o i]
  exact wpAny_operating (wpAny_mono h₂ (fun r s₃ h₃=>wpAny_bind (wpAny_letTemporaryGo (wpAny_pure h₃))) fun _ _ x=>x)
 first
  |exact wpAny_pure (wpAny_bind fin)
  |exact wpAny_bind (wpAny_pure (wpAny_bind fin))
  |exact wpAny_bind fin
theorem iZ {X:Cx}{pins:List (Addr×Obj)}{σ:St}{H:Hp}{s:Shared}{a:Addr}{y:V}{o:Option V}(I:Inv X pins σ H s)(g:DGet H a y o):s.TypeIs (.ref a) "dict":=by
 rcases g with⟨kvs,k,e,_,_⟩|⟨kvs,k,b,e,_,_,_⟩
 ·obtain⟨_,_,vs,_,dd⟩:=nB I.hok e
  exact dd.typeIs
 ·obtain⟨_,_,xs,_,dd⟩:=nC I.hok e
  exact dd.typeIs
def uy (td ty:TE):TE:=fun σ H Q=>td σ H fun x H1=>ty σ H1 fun y H2=>∃ a v,x=.ref a/\DGet H2 a y (some v)/\Q v H2
def uz (td ty tv:TE):TS:=fun D σ H=>tv σ H fun v H1=>td σ H1 fun x H2=>ty σ H2 fun y H3=>∃ a H4,x=.ref a/\DPut H3 a y v H4/\D.nx σ H4
section
variable {X:Cx}{o i e value:Expr}{pos pos' tpos:Pos}{td ty tv:TE}
theorem qp (hu:X.A.units+1 < cLine)(ho:PE X o td)(hi:PE X i ty)(hs:ux i):PE X (.Subscript o i pos) (uy td ty):=by
 intro pins s σ H Q I h
 refine qo PySem.F.slot_dict_getitem.lookup hs (bH (ho pins s σ H _ I h) fun u s1 ⟨x,H1,I1,rx,q1⟩=>bH (hi pins s1 σ H1 _ I1 q1) fun iv s2 ⟨y,H2,I2,ry,a,v,ex,g,q2⟩=>?_)
 subst ex
 obtain rfl:u=Value.ref a:=rx
 exact⟨iZ I2 g,mj hu I2 g ry fun w' s3 I3 rw'=>⟨v,H2,I3,rw',q2⟩⟩
theorem qq (hu:X.A.units+1 < cLine)(ho:PE X o td)(hi:PE X i ty)(hv:PE X value tv)(hs:swapsWith value (some (.Subscript o i pos')) pos.line X.env=pure false):
  PS X (.Assign [.Subscript o i pos'] value pos) (uz td ty tv):=by
 intro pins s σ H D I h
 refine wpAny_Assign_Subscript (bH (hv pins s σ H _ I h) fun r s1 ⟨v,H1,I1,rv,q1⟩=>bH (ho pins s1 σ H1 _ I1 q1) fun u s2 ⟨x,H2,I2,rx,q2⟩=>bH (hi pins s2 σ H2 _ I2 q2) fun iv s3 ⟨y,H3,I3,ry,a,H4,ex,g,q3⟩=>?_) hs
 subst ex
 obtain rfl:u=Value.ref a:=rx
 exact mm hu I3 g ry rv fun s4 I4=>⟨σ,H4,I4,q3⟩
end
theorem i8 {P:Program}{w:World}{H:Hp}(h:Heap)(hb:sysModules < h.objs.size):ObjOk P w H (h.push {cls:=.type "dict",data:=.dict #[]}) h.objs.size (.dK []):=
 ⟨Nat.zero_le _,beq_eq_false_iff_ne.mpr (Ne.symm (Nat.ne_of_lt hb)),[],.nil,Heap.DictOf.new h⟩
def sJ:TE:=fun _ H Q=>∀ p,H p=none->Q (.ref p) (upd H p (.dK []))
section
variable {X:Cx}{pos:Pos}
theorem i9:PE X (.Dict [] [] pos) sJ:=fun pins s σ H Q I h=>
 wpAny_Dict_empty ⟨.ref s.heap.objs.size,_,I.laid (a:=s.heap.objs.size) (o:=.dK []) (t':=s.toks) (fun _ _ q=>Heap.get?_push_of_some _ q) (Nat.le_refl _) (i8 s.heap I.big),rfl,h _ (I.hok.fresh (Nat.le_refl _))⟩
end
def jY:List (TE×TE)->St->Hp->(List (V×V)->Hp->Prop)->Prop
 |[],_,H,Q=>Q [] H
 |(tk,tv)::r,σ,H,Q=>tk σ H fun x H1=>tv σ H1 fun y H2=>jY r σ H2 fun ps H3=>Q ((x,y)::ps) H3
abbrev VV:List (V×V)->List (Value×Value)->Prop:=Paired fun p q=>RelV p.1 q.1/\RelV p.2 q.2
def u9 (X:Cx)(pos:Pos)(keys:List (Option Expr))(values:List Expr)(trs:List (TE×TE)):Prop:=
 ∀ (pins:List (Addr×Obj)) (s:Shared) (σ:St) (H:Hp) (Q:List (V×V)->Hp->Prop),Inv X pins σ H s->jY trs σ H Q->
  wpAny (model X.prog X.w) X.A (evalPairs (pairTrees keys values X.env pos)) (fun vs s'=>∃ ps H',Inv X pins σ H' s'/\VV ps vs/\Q ps H') X.xe s
theorem qr {X:Cx}{pos:Pos}:u9 X pos [] [] []:=fun pins s σ H Q I h=>pairTrees_nil_walk ⟨[],H,I,.nil,h⟩
theorem nE {X:Cx}{pos:Pos}{k v:Expr}{ks:List (Option Expr)}{vs:List Expr}{tk tv:TE}{trs:List (TE×TE)}(hk:PE X k tk)(hv:PE X v tv)(hr:u9 X pos ks vs trs):
  u9 X pos (some k::ks) (v::vs) ((tk,tv)::trs):=fun pins s σ H Q I h=>
 pairTrees_cons_walk (bH (hk pins s σ H _ I h) fun u s1 ⟨x,H1,I1,rx,q1⟩=>bH (hv pins s1 σ H1 _ I1 q1) fun w2 s2 ⟨y,H2,I2,ry,q2⟩=>
  bH (hr pins s2 σ H2 _ I2 q2) fun ws s3 ⟨ps,H3,I3,rel,q3⟩=>⟨(x,y)::ps,H3,I3,.cons ⟨rx,ry⟩ rel,q3⟩)
def fT (kvs more:List (bG×V)):List (bG×V):=more.foldl (fun acc kv=>dr acc kv.1 kv.2) kvs
theorem KV.merge:∀ {more:List (bG×V)} {rs:List (bG×Value)} {kvs:List (bG×V)} {vs:List (bG×Value)},KV more rs->KV kvs vs->KV (fT kvs more) (merged vs rs):=by
 intro more rs kvs vs r
 unfold KV at r
 induction r generalizing kvs vs with
 |nil=>intro q;exact q
 |@cons p q ps qs h t ih=>
  intro r0
  have e:KV (dr kvs p.1 p.2) (stored vs q.1 q.2):=by
   have:=r0.put p.1 h.2
   rw[← h.1];exact this
  exact ih e
theorem dW:∀ (more kvs:List (bG×V)),(fT kvs more).length<=kvs.length+more.length
 |[],kvs=>by show kvs.length<=kvs.length+0;omega
 |p::r,kvs=>by
  have h1:=dW r (dr kvs p.1 p.2)
  have h2:=du kvs p.1 p.2
  show (fT (dr kvs p.1 p.2) r).length<=_
  rw[List.length_cons];omega
theorem fU {P:Program}{w:World}:∀ {kvs:List (bG×V)} {ws:List (Value×Value)},VV (kvs.map fun kv=>(kV kv.1,kv.2)) ws->∃ rs,Carries (br P w) ws rs/\KV kvs rs
 |[],_,r=>by rw[List.map_nil] at r;cases r;exact⟨[],True.intro,.nil⟩
 |p::kvs,_,r=>by
  rw[List.map_cons] at r
  cases r with
  |@cons a b as bs h t=>
   obtain⟨rs,c,q⟩:=fU (P:=P) (w:=w) t
   obtain⟨b1,b2⟩:=b
   exact⟨(p.1,b2)::rs,⟨iY h.1,rfl,c⟩,.cons ⟨rfl,h.2⟩ q⟩
def rq (trs:List (TE×TE)):TE:=fun σ H Q=>∀ p,H p=none->jY trs σ (upd H p (.dK [])) fun ps H2=>H2 p=some (.dK [])/\∃ kvs:List (bG×V),ps=kvs.map (fun kv=>(kV kv.1,kv.2))/\kvs.length<=15/\Q (.ref p) (upd H2 p (.dK (fT [] kvs)))
theorem qt {X:Cx}{pos:Pos}{keys:List (Option Expr)}{values:List Expr}{trs:List (TE×TE)}(h:u9 X pos keys values trs)(hall:keys.all (·.isSome)=true)(hl:keys.length=values.length)(h0:keys≠[])
  (h15:keys.length<=15):PE X (.Dict keys values pos) (rq trs):=by
 intro pins s σ H Q I q
 have hn:=I.hok.fresh (Nat.le_refl s.heap.objs.size)
 have I1:=I.laid (a:=s.heap.objs.size) (o:=.dK []) (h':=s.heap.push {cls:=.type "dict",data:=.dict #[]}) (t':=s.toks) (fun _ _ q=>Heap.get?_push_of_some _ q) (Nat.le_refl _) (i8 s.heap I.big)
 refine wpAny_Dict_walk (knd:=br X.prog X.w) hall hl h0 h15 (bH (h pins _ σ _ _ I1 (q _ hn)) fun ws s2 ⟨ps,H2,I2,rel,e,kvs,ep,lk,q2⟩=>?_)
 subst ep
 obtain⟨rs,c,rk⟩:=fU (P:=X.prog) (w:=X.w) rel
 obtain⟨z,hd,vs0,r0,dd⟩:=rp I2.hok e
 cases r0
 refine⟨rs,c,dd,fun h' dd' hs=>⟨.ref s.heap.objs.size,_,?_,rfl,q2⟩⟩
 have hz:(fT [] kvs).length<=sizeLine:=by
  have h1:=dW kvs []
  rw[List.length_nil] at h1
  rw[sizeLine_eq];omega
 have he:∃ q,h'.get? s.heap.objs.size=some q:=let ⟨q,_,_,hq,_⟩:=dd';⟨q,hq⟩
 exact ik I2 (by rw[e];exact True.intro) hs he (jX hz hd (rk.merge .nil) dd')
section
variable {X:Cx}{pins:List (Addr×Obj)}{σ:St}{H:Hp}{s:Shared}{a:Addr}{y d:V}{u r:Value}{o:Option V}{A:Around}{E:Value->Shared->Prop}
end
section
variable {X:Cx}{o e f:Expr}{apos cpos:Pos}{td ty tx:TE}
end
section
variable {X:Cx}{pins:List (Addr×Obj)}{σ:St}{H:Hp}{s:Shared}{a:Addr}{kvs:List (bG×V)}{A:Around}{E:Value->Shared->Prop}
end
section
variable {X:Cx}{pins:List (Addr×Obj)}{σ:St}{H:Hp}{s:Shared}{a:Addr}{y:V}{u:Value}{A:Around}{E:Value->Shared->Prop}
end
end L2
namespace Att
open PySem PySem.W PySem.Calls PyProof.Rows
theorem fw {P:Params}{h:Heap}:∀ (ns:List Int) (vs:List Value),WellAll P h vs (ns.map WData.int)->IntsAre vs ns:=by
 intro ns
 induction ns with
 |nil=>
  intro vs w
  rw[List.map_nil] at w
  cases w
  exact .nil
 |cons n ns ih=>
  intro vs w
  rw[List.map_cons] at w
  cases w with
  |cons a b=>
   cases a
   exact .cons _ _ (ih _ b)
theorem mn {l:OpenLaw}{n:Nat}(hn:l.most=some n){P:Params}{h:Heap}{args:List WData}{vals:List Value}
  (hpre:l.row.toRowW.claim.pre args=true) (hwl:WellAll P h vals args):
  ∃ a vs ns,vals=[Value.ref a]/\args=[WData.list (ns.map WData.int)]/\h.get? a=some {cls:=.type "list",data:=.seq vs.toArray}/\IntsAre vs ns/\ns.length<=n:=by
 have hsh:WShape.hasAll [] args [.list .int]=true:=(pre_splitW hpre).1
 have hc:l.pre.holds [] {args:=args}=true:=(pre_splitW hpre).2
 obtain⟨d,r,rfl,h1,h2⟩:=hasAllW_cons hsh
 obtain rfl:=hasAllW_nil h2
 obtain⟨xs,rfl,h3⟩:=hasW_list h1
 obtain⟨ns,rfl⟩:=items_int h3
 have hlen:ns.length<=n:=by
  unfold OpenLaw.pre at hc
  have h4:(WTm.not (.lt (.lit (.int (n:Int))) (.len (.arg 0)))).holds [] {args:=[.list (ns.map .int)]}=true:=by
   have h4:=(holds_andW hc).1
   rw[hn] at h4
   exact h4
  have h5:=condW_of h4 (w_not (w_lt w_lit (w_len_list (w_arg rfl))))
  rw[List.length_map] at h5
  refine Nat.le_of_not_lt fun q=>?_
  have q':(n:Int) < ((ns.length:Nat):Int):=by omega
  first
   |(rw[decide_eq_true q'] at h5;exact absurd h5 (by decide))
   |(simp at h5;omega)
 cases hwl with
 |cons w1 w2=>
  cases w2
  cases w1 with
  |list ho hall=>exact⟨_,_,ns,rfl,rfl,ho,fw ns _ hall,hlen⟩
theorem mo (l:OpenLaw)(args:List WData):l.row.toRowW.claim.post args (.bool true) args=true:=
 postW_of (r:=l.row.toRowW) (X:=(true == true))
  (show WShape.has [] (.bool true) .bool=true by first|rfl|decide|simp [WShape.has,WShape.arms,WShape.armsAll])
  (show (WTm.eq .res (.lit (.bool true))).value [] {args:=args,res:=some (.bool true),after:=args}=some (.bool (true == true)) from w_eq_bool (w_res rfl) w_lit) rfl
theorem attach_call {l:OpenLaw}{n:Nat}{q:Program}{loose:List Str}{XP:(Str->Option Value)->Heap->Prop}{YP:World->Heap->Prop}{d:DefRec}
  (hn:l.most=some n) (hdf:d.params.defaults=[])
  (call:∀ (w:World) (s₀ s₁:Shared) (mg mb:Str->Option Value) (fa:Addr) (o:Obj) (pm cd doc:Value) (a:Addr) (vs:List Value) (ns:List Int),
   Ground q loose [] XP w s₀ mg mb s₁.heap->YP w s₁.heap->
   s₁.heap.get? fa=some o->o.data=.func (docDef d.name d.params d.body d.scope pm cd doc)->s₁.heap.CodeRec cd d.name->mg d.name=some (.ref fa)->
   s₁.heap.get? a=some {cls:=.type "list",data:=.seq vs.toArray}->IntsAre vs ns->ns.length<=n->s₁.gens=#[]->
   codeAny (model l.prog w) callerA (.call (.ref fa) ⟨[.ref a],[]⟩) (fun r s'=>r=.ok (.ret (.bool true))/\OldK s₁.heap s'.heap/\s'.os=s₁.os/\AllBare s'.gens) s₁):
  WalkO q loose XP YP l.row.toRowW d [] (fun f vs=>PySem.call f vs):=by
 intro w s₀ s₁ mg mb G Y fa o pm cd doc dV kV ho hd hcd hD hmg hg args vals as hpre hlay hrd hwl hlo
 obtain rfl:dV=.none:=Dflts.none hD hdf
 obtain rfl:kV=.none:=Dflts.noKw hD
 obtain⟨a,vs,ns,rfl,rfl,hobj,hints,hlen⟩:=mn hn hpre hwl
 refine enter_call (codeAny_mono (call w s₀ s₁ mg mb fa o pm cd doc a vs ns G Y ho (fd_plain hd) hcd hmg hobj hints hlen hg) fun r s' hq=>?_)
 obtain⟨rfl,h2,h3,h4⟩:=hq
 exact⟨.inl ⟨.bool true,.bool true,[],rfl,fun _=>rfl,.bool true,mo l _,fun _=>⟨List.Pairwise.nil,fun _ hm=>(nomatch hm)⟩⟩,h2,h3,h4⟩
section
variable {prog:Program}{w:World}{A:Around}{E:Value->Shared->Prop}{s:Shared}{K:Frag}
end
end Att
namespace L2
open PySem PySem.Spec PyProof.Rows
theorem eY:∀ {vs:List Value} {ns:List Int},IntsAre vs ns->Vals (ns.map V.int) vs
 |_,_,.nil=>.nil
 |_,_,.cons n t h=>.cons ⟨t,rfl⟩ (eY h)
def sK (H:Hp):Prop:=∀ b,H b=none\/∃ o xs,H b=some (.frz o (.lst xs))
theorem nF {P:Program}{w:World}{K:PySem.W.Frag}{mg mb:Str->Option Value}{CX:mf}{k:Nat}{fa a:Addr}{fd:FuncData}{x:Str}{sp:Sp}{s₁:Shared}{vs:List Value}{ns:List Int}
  (KX:K.In s₁.heap) (hns:s₁.heap.Ns mainGlobals mg) (hb:s₁.heap.Ns builtinsNs mb) (hbb:∀ x:Str,x≠"__name__"->mb x=bootBuiltins x) (hlim:s₁.heap.NoLimit) (hg:s₁.gens=#[])
  (ha:s₁.heap.get? a=some {cls:=.type "list",data:=.seq vs.toArray}) (hi:IntsAre vs ns) (hl:ns.length<=sizeLine) (hr:Room k callerA)
  (F:∀ base:Heap,K.In base->base.Ns mainGlobals mg->FnOk P w K mg base CX k fa fd [x] sp) (hbind:∀ (s:Shared) (u:Value),BindsTo s fd ⟨[u],[]⟩ [(x,u)])
  (hsp:∀ H:Hp,sK H->SqL K H a (ns.map V.int)->sp [.ref a] H (fun v _=>v=.bl true) fun _ _ _=>False)
  (hCX:∀ H e s',CX [] H s₁ (fun _ _ _=>False) e s'->False):
  codeAny (model P w) callerA (.call (.ref fa) ⟨[.ref a],[]⟩) (fun r s'=>r=.ok (.ret (.bool true))/\OldK s₁.heap s'.heap/\s'.os=s₁.os/\AllBare s'.gens) s₁:=by
 have rv:=eY hi
 have lenV:=hi.length
 have core:∀ H:Hp,sK H->SqL K H a (ns.map V.int)->HOk P w H s₁.heap->(∀ b,H b≠none->b=a)->(H a≠none->K.lookup a=none)->
   codeAny (model P w) callerA (.call (.ref fa) ⟨[.ref a],[]⟩) (fun r s'=>r=.ok (.ret (.bool true))/\OldK s₁.heap s'.heap/\s'.os=s₁.os/\AllBare s'.gens) s₁:=by
  intro H hO hS hok hA hK
  have base_of:∀ {b:Addr} {o:Obj},s₁.heap.get? b=some o->H b=none->(h_ s₁.heap H).get? b=some o:=fun e n=>m9 e n
  have noA:∀ {b:Addr} {o:Obj} {es:Array DictEntry} {ep:Nat},s₁.heap.get? b=some o->o.data=.dict es ep->H b=none:=fun {b o es ep} e d=>by
   cases q:H b with
   |none=>rfl
   |some u=>
    have e':b=a:=hA b (by rw[q];simp)
    subst e'
    rw[ha] at e;cases e
    have d':Data.seq vs.toArray _=Data.dict es ep:=d
    cases d'
  have nsK:∀ {b:Addr} {m:Str->Option Value},s₁.heap.Ns b m->(h_ s₁.heap H).Ns b m:=fun {b m} ⟨o,es,ep,e,d,r⟩=>⟨o,es,ep,base_of e (noA e d),d,r⟩
  have hKb:K.In (h_ s₁.heap H):=fun b o e=>base_of (KX b o e) (by
   cases q:H b with
   |none=>rfl
   |some u=>
    have e':b=a:=hA b (by rw[q];simp)
    subst e'
    rw[hK (by rw[q];simp)] at e;cases e)
  have hM:Mod K mg (h_ s₁.heap H):=⟨hKb,nsK hns,⟨mb,nsK hb,hbb⟩,let ⟨mc,h1,h2⟩:=hlim;⟨mc,nsK h1,h2⟩⟩
  have e0:Env0 P w K mg (h_ s₁.heap H) callerA [] s₁ H:=⟨rfl,hM,fun b o e=>pW e,Nat.le_of_eq (l8 _ _),trivial,fun b hb=>absurd (show b∈([]:List Addr) from hb) (by simp),hok,.of_eq hg⟩
  refine codeAny_mono ((F _ hKb (nsK hns)).run callerA [] s₁ H ⟨[.ref a],[]⟩ [.ref a] [.ref a] _ _ hr e0 (hbind s₁ (.ref a)) (.cons rfl .nil) (hsp H hO hS)) fun r s' h=>?_
  cases r with
  |error e=>exact (hCX H e s' h).elim
  |ok fl=>
   cases fl with
   |next=>exact False.elim h
   |brk=>exact False.elim h
   |cont=>exact False.elim h
   |ret u=>
    obtain⟨v,H',os,bare,un,hok',r',q⟩:=h
    have q':v=.bl true:=q
    subst q'
    obtain rfl:u=Value.bool true:=r'
    refine⟨rfl,OldK.of_keep fun b o e=>?_,os,bare⟩
    cases q:H b with
    |none=>exact un.keep b o e q (by intro z;exact absurd (show b∈([]:List Addr) from z) (by simp)) (by simp)
    |some u=>
     rcases hO b with z|⟨ob,xs,z⟩
     ·rw[q] at z;cases z
     ·have z2:=un.frzs b ob _ z
      obtain⟨e1,_⟩:=hok b _ z
      obtain⟨e2,_⟩:=hok' b _ z2
      rw[e] at e1;cases e1
      exact e2
 cases hk:K.lookup a with
 |some o=>
  have e:=KX a o hk
  rw[ha] at e
  cases e
  refine core (fun _=>none) (fun _=>.inl rfl) (.inr ⟨_,vs.toArray,_,hk,rfl,rfl,rfl,by rw[List.size_toArray,lenV];exact hl,by simpa using rv⟩) (fun b u z=>by have z':(none:Option HO)=some u:=z;cases z') (fun b z=>absurd rfl z) fun z=>absurd rfl z
 |none=>
  refine core (fun b=>if b=a then some (.frz {cls:=.type "list",data:=.seq vs.toArray} (.lst (ns.map V.int))) else none) (fun b=>?_) (.inl (.inr ⟨{cls:=.type "list",data:=.seq vs.toArray},if_pos rfl⟩)) (fun b u z=>?_) (fun b z=>?_) fun _=>hk
  ·by_cases hb:b=a
   ·exact .inr ⟨_,_,if_pos hb⟩
   ·exact .inl (if_neg hb)
  ·by_cases hb:b=a
   ·have z':=(if_pos hb).symm.trans z
    cases z'
    subst hb
    exact⟨ha,by rw[List.length_map];exact hl,vs,_,rv,ha⟩
   ·have z':=(if_neg hb).symm.trans z
    cases z'
  ·by_cases hb:b=a
   ·exact hb
   ·exact absurd (if_neg hb) z
end L2
namespace L2
open PySem PySem.Spec PyProof.Rows
theorem walk_of {l:PySem.W.OpenLaw}{n k:Nat}{q:Program}{loose:List Str}{XP:(Str->Option Value)->Heap->Prop}{YP:World->Heap->Prop}{d:DefRec}{K:Params->PySem.W.Frag}{CX:World->mf}{sp:World->Sp}{x:Str}
  (hn:l.most=some n) (hn2:n<=sizeLine) (hdf:d.params.defaults=[]) (hr:Room k callerA)
  (hY:∀ (w:World) (h:Heap),YP w h->(K w.params).In h)
  (F:∀ (w:World) (mg:Str->Option Value) (fa:Addr) (h:Heap),(K w.params).In h->h.Ns mainGlobals mg->mg d.name=some (.ref fa)->
   ∃ fd:FuncData,(∀ (s:Shared) (u:Value),BindsTo s fd ⟨[u],[]⟩ [(x,u)])/\
    ∀ base:Heap,(K w.params).In base->base.Ns mainGlobals mg->FnOk l.prog w (K w.params) mg base (CX w) k fa fd [x] (sp w))
  (hsp:∀ (w:World) (H:Hp) (a:Addr) (ns:List Int),ns.length<=n->sK H->SqL (K w.params) H a (ns.map V.int)->sp w [.ref a] H (fun v _=>v=.bl true) fun _ _ _=>False)
  (hCX:∀ (w:World) (H:Hp) (s:Shared) (e:Value) (s':Shared),CX w [] H s (fun _ _ _=>False) e s'->False):
  PySem.W.WalkO q loose XP YP l.row.toRowW d [] (fun f vs=>PySem.call f vs):=by
 refine Att.attach_call hn hdf fun w s₀ s₁ mg mb fa o pm cd doc a vs ns G Y ho hd hcd hmg hobj hints hlen hg=>?_
 have KX:=hY w _ Y
 obtain⟨fd,hb,hF⟩:=F w mg fa _ KX G.T.g hmg
 exact nF KX G.T.g G.T.b G.T.builtins G.T.nolimit hg hobj hints (Nat.le_trans hlen hn2) hr hF hb (fun H hO hS=>hsp w H a ns hlen hO hS) fun H e s'=>hCX w H s₁ e s'
end L2
namespace L2
open PySem PySem.Spec PyProof.Rows
def kY (s:Stmt)(j:Nat):Stmt:=match s with
 |.ClassDef _ _ _ body _ _ _ _ _ _ _=>body.getD j (.Pass ⟨0,0,0,0⟩)
 |_=>.Pass ⟨0,0,0,0⟩
def cu (s:Stmt):Arguments:=match s with
 |.FunctionDef _ a _ _ _ _ _ _ _ _=>a
 |_=>{posonlyargs:=[],args:=[],vararg:=none,kwonlyargs:=[],kw_defaults:=[],kwarg:=none,defaults:=[]}
def b9 (s:Stmt):List Stmt:=match s with
 |.FunctionDef _ _ b _ _ _ _ _ _ _=>b
 |_=>[]
def ap (s:Stmt):Scope:=match s with
 |.FunctionDef _ _ _ _ _ _ sc _ _ _=>sc
 |_=>{kind:=.function,names:=[],isGenerator:=false,isCoroutine:=false}
abbrev cA:mf:=fun _ _ _ _ _ _=>False
abbrev E0:XK:=fun _ _ _=>False
theorem rz {X:Cx}:eW cA X E0:=fun _ _ _ _ _ _ _ h=>h.elim
structure Fun (K:PySem.W.Frag)(x qual:Str)(st:Stmt)(f:Addr)(fd:FuncData):Prop where
 ex:∃ (oc:Value) (od:Option Addr) (kV doc pm:Value) (an:Option Addr) (cdv ct:Value) (osl:Array (Option Value)),
  fd=PySem.W.fnOf x qual (cu st) (b9 st) (ap st) .none kV doc pm an cdv ct/\K.lookup f=some ⟨oc,od,.func fd,osl⟩/\PySem.W.codeIn K cdv qual=true
 kp:PySem.W.keepIn K (.ref f)=true
section
variable {P:Program}{w:World}{K:PySem.W.Frag}{mg:Str->Option Value}{base:Heap}
theorem Fun.ok {x qual:Str}{st:Stmt}{f:Addr}{fd:FuncData}{N ps:List Str}{k:Nat}{sp:Sp}(F:Fun K x qual st f fd)(S:aF N ps (ap st))(len:∀ vs H Q E,sp vs H Q E->vs.length=ps.length)
  (hbody:∀ (cdv:Value) (A:Around) (outer:List Env) (s:Shared) (H:Hp) (vs:List V) (Q:VK) (E:XK),Room k (A.deeper (envOfC qual (ap st) s.heap.objs.size f cdv))->sp vs H Q E->
   ∃ t,PSs (cQ cA P w K mg base N qual (ap st) f cdv A outer s H E).nox (b9 st) t/\t {nx:=fun _ H'=>Q .non H',rt:=Q} (er N vs) H):FnOk P w K mg base cA (k+1) f fd ps sp:=by
 obtain⟨oc,od,kV,doc,pm,an,cdv,ct,osl,rfl,lk,hcd⟩:=F.ex
 refine rn lk hcd S len fun A outer s H vs Q E hr hsp=>?_
 obtain⟨t,h,q⟩:=hbody cdv A outer s H vs Q E hr hsp
 exact⟨t,h.nox,q⟩
theorem Fun.binds {x qual:Str}{st:Stmt}{f:Addr}{fd:FuncData}{ps:List Str}(F:Fun K x qual st f fd)
  (h:∀ (kV doc pm:Value) (an:Option Addr) (cdv ct:Value) (us:List Value),us.length=ps.length->bindArgs (PySem.W.fnOf x qual (cu st) (b9 st) (ap st) .none kV doc pm an cdv ct) ⟨us,[]⟩=pure (ps.zip us)):Binds K fd ps []:=by
 obtain⟨oc,od,kV,doc,pm,an,cdv,ct,osl,rfl,lk,hcd⟩:=F.ex
 exact .all (h kV doc pm an cdv ct)
theorem fun_mk {x qual:Str}{st:Stmt}{f:Addr}{oc:Value}{od an:Option Addr}{osl:Array (Option Value)}{kV doc pm cdv ct:Value}(l:K.lookup f=some ⟨oc,od,.func (PySem.W.fnOf x qual (cu st) (b9 st) (ap st) .none kV doc pm an cdv ct),osl⟩)
  (c:PySem.W.codeIn K cdv qual=true) (k:PySem.W.keepIn K (.ref f)=true):Fun K x qual st f (PySem.W.fnOf x qual (cu st) (b9 st) (ap st) .none kV doc pm an cdv ct):=⟨⟨oc,od,kV,doc,pm,an,cdv,ct,osl,rfl,l,c⟩,k⟩
end
theorem uA {A:Around}{k:Nat}(hr:Room k A):A.units+1 < cLine:=Nat.lt_of_le_of_lt (Nat.add_le_add_left (by decide:1<=64) _) hr.units
theorem aB {n:Nat}(h:n<=1000):n < sizeLine:=Nat.lt_of_le_of_lt h (by decide)
section
variable {X:Cx}
theorem pv (i:Nat){x:Str}{pos:Pos}(hN:X.N[i]? =some x:=by rfl) (hv:vf X.env.scope x:=by first|exact Or.inl rfl|exact Or.inr (Or.inl rfl)|exact Or.inr (Or.inr rfl)) (hd:(x == ("__debug__":Str))=false:=by decide)
  (hcd:(x == ("__classdict__":Str))=false:=by decide):PE X (.Name x pos) (t1 i):=sk hN hv hd hcd
end
theorem ax {A B:Prop}(h:B):if false=true then A else B:=by
 rw[if_neg Bool.false_ne_true]
 exact h
theorem aK {A B:Prop}(h:A):if true=true then A else B:=by
 rw[if_pos rfl]
 exact h
theorem cp {c A B:Prop} [Decidable c] (h1:c->A)(h2:¬ c->B):if c then A else B:=by
 by_cases h:c
 ·rw[if_pos h]
  exact h1 h
 ·rw[if_neg h]
  exact h2 h
def Same (H H':Hp):Prop:=∀ b o,H b=some o->H' b=some o
theorem Same.refl (H:Hp):Same H H:=fun _ _ h=>h
theorem Same.trans {H H1 H2:Hp}(a:Same H H1)(b:Same H1 H2):Same H H2:=fun c o h=>b c o (a c o h)
theorem Same.free {H H':Hp}(e:Same H H'){l:Addr}(h:H' l=Option.none):H l=Option.none:=by
 cases q:H l with
 |none=>rfl
 |some o=>
  rw[e l o q] at h
  cases h
theorem Same.seq {K:PySem.W.Frag}{H H':Hp}{a:Addr}{xs:List V}(e:Same H H')(h:SqL K H a xs):SqL K H' a xs:=by
 rcases h with (h|⟨o,h⟩)|h
 ·exact .inl (.inl (e _ _ h))
 ·exact .inl (.inr ⟨o,e _ _ h⟩)
 ·exact .inr h
section
variable {κ:Type} [DecidableEq κ]
theorem kZ:∀ {l:List κ} {k:κ},l.Nodup->¬ k∈l->(l++[k]).Nodup
 |[],k,_,_=>by simp
 |a::r,k,h,hk=>by
  obtain⟨h1,h2⟩:=List.nodup_cons.mp h
  show (a::(r++[k])).Nodup
  refine List.nodup_cons.mpr ⟨fun m=>?_,kZ h2 fun m=>hk (List.mem_cons.mpr (Or.inr m))⟩
  rcases List.mem_append.mp m with q|q
  ·exact h1 q
  ·exact hk (List.mem_cons.mpr (Or.inl (List.mem_singleton.mp q).symm))
end
end L2
set_option maxHeartbeats 4000000
set_option maxHeartbeats 4000000
namespace L2
open PySem PySem.Spec PyProof.Rows
mutual
def RD (H:Hp):PyData->V->Prop
 |.none,v=>v=.non
 |.bool b,v=>v=.bl b
 |.int i,v=>v=.int i
 |.str x,v=>v=.str x
 |.list ds,v=>∃ a xs,v=.ref a/\H a=some (.lst xs)/\d_ H ds xs
 |.tuple ds,v=>∃ a xs,v=.ref a/\H a=some (.tup xs)/\d_ H ds xs
 |.dict _,_=>False
def d_ (H:Hp):List PyData->List V->Prop
 |[],xs=>xs=[]
 |d::ds,xs=>∃ y ys,xs=y::ys/\RD H d y/\d_ H ds ys
end
theorem cw {H:Hp}{ds:List PyData}{a:Addr}{xs:List V}(h:H a=some (.lst xs))(r:d_ H ds xs):RD H (.list ds) (.ref a):=by
 unfold RD
 exact⟨a,xs,rfl,h,r⟩
theorem c6 {H:Hp}{ds:List PyData}{a:Addr}{xs:List V}(h:H a=some (.tup xs))(r:d_ H ds xs):RD H (.tuple ds) (.ref a):=by
 unfold RD
 exact⟨a,xs,rfl,h,r⟩
theorem cO {H:Hp}{ds:List PyData}{v:V}(h:RD H (.list ds) v):∃ a xs,v=.ref a/\H a=some (.lst xs)/\d_ H ds xs:=by
 unfold RD at h
 exact h
theorem aU {H:Hp}{ds:List PyData}{v:V}(h:RD H (.tuple ds) v):∃ a xs,v=.ref a/\H a=some (.tup xs)/\d_ H ds xs:=by
 unfold RD at h
 exact h
theorem qu {H:Hp}:RD H .none .non:=by unfold RD;rfl
theorem k_ {H:Hp}(b:Bool):RD H (.bool b) (.bl b):=by unfold RD;rfl
theorem bY {H:Hp}(i:Int):RD H (.int i) (.int i):=by unfold RD;rfl
theorem dw {H:Hp}(x:Str):RD H (.str x) (.str x):=by unfold RD;rfl
theorem ck {H:Hp}:d_ H [] []:=by unfold d_;rfl
theorem bd {H:Hp}{d:PyData}{ds:List PyData}{y:V}{ys:List V}(h:RD H d y)(t:d_ H ds ys):d_ H (d::ds) (y::ys):=by
 unfold d_
 exact⟨y,ys,rfl,h,t⟩
theorem bC {H:Hp}{xs:List V}(h:d_ H [] xs):xs=[]:=by
 unfold d_ at h
 exact h
theorem aQ {H:Hp}{d:PyData}{ds:List PyData}{xs:List V}(h:d_ H (d::ds) xs):∃ y ys,xs=y::ys/\RD H d y/\d_ H ds ys:=by
 unfold d_ at h
 exact h
theorem i_ {H:Hp}:∀ ns:List Int,d_ H (ns.map PyData.int) (ns.map V.int)
 |[]=>ck
 |n::r=>bd (bY n) (i_ r)
theorem fB {H:Hp}:∀ {ds:List PyData} {xs:List V},d_ H ds xs->xs.length=ds.length
 |[],_,h=>by
  rw[bC h]
  rfl
 |d::ds,_,h=>by
  obtain⟨y,ys,rfl,_,t⟩:=aQ h
  rw[List.length_cons,List.length_cons,fB t]
theorem c7 {H:Hp}:∀ {ds:List PyData} {xs:List V} {j:Nat} {v:V},d_ H ds xs->xs[j]? =some v->RD H (ds.getD j .none) v
 |[],_,_,_,h,e=>by rw[bC h] at e;cases e
 |d::ds,_,j,v,h,e=>by
  obtain⟨y,ys,rfl,h1,t⟩:=aQ h
  cases j with
  |zero=>
   have e':y=v:=by simpa using e
   subst e'
   exact h1
  |succ j=>exact c7 (ds:=ds) t (by simpa using e)
mutual
theorem fC {H H':Hp}(k:Same H H'):∀ (d:PyData) (v:V),RD H d v->RD H' d v
 |.none,v,h=>by unfold RD at h ⊢;exact h
 |.bool b,v,h=>by unfold RD at h ⊢;exact h
 |.int i,v,h=>by unfold RD at h ⊢;exact h
 |.str x,v,h=>by unfold RD at h ⊢;exact h
 |.list ds,v,h=>by
  obtain⟨a,xs,e,h1,h2⟩:=cO h
  subst e
  exact cw (k _ _ h1) (fV k ds xs h2)
 |.tuple ds,v,h=>by
  obtain⟨a,xs,e,h1,h2⟩:=aU h
  subst e
  exact c6 (k _ _ h1) (fV k ds xs h2)
 |.dict _,v,h=>by
  unfold RD at h
  exact h.elim
theorem fV {H H':Hp}(k:Same H H'):∀ (ds:List PyData) (xs:List V),d_ H ds xs->d_ H' ds xs
 |[],xs,h=>by
  rw[bC h]
  exact ck
 |d::ds,xs,h=>by
  obtain⟨y,ys,e,h1,h2⟩:=aQ h
  subst e
  exact bd (fC k d y h1) (fV k ds ys h2)
end
section
variable {X:Cx}{pins:List (Addr×Obj)}{σ:St}{H:Hp}{s:Shared}
mutual
theorem dy (I:Inv X pins σ H s):∀ (d:PyData) (x:V) (v:Value),RD H d x->RelV x v->∃ as,Reads s.heap v d as
 |.none,x,v,h,r=>by
  unfold RD at h
  subst h
  cases r
  exact⟨[],.none⟩
 |.bool b,x,v,h,r=>by
  unfold RD at h
  subst h
  cases r
  exact⟨[],.bool b⟩
 |.int i,x,v,h,r=>by
  unfold RD at h
  subst h
  obtain⟨t,rfl⟩:=r
  exact⟨[],.int i t⟩
 |.str y,x,v,h,r=>by
  unfold RD at h
  subst h
  obtain⟨t,rfl⟩:=r
  exact⟨[],.str y t⟩
 |.list ds,x,v,h,r=>by
  obtain⟨a,xs,e,h1,h2⟩:=cO h
  subst e
  cases r
  obtain⟨its,rv,⟨o,n,e1,e2,_,e4⟩,_⟩:=I.list (SqL.of h1)
  obtain⟨as,q⟩:=eZ I ds xs its h2 rv
  exact⟨a::as,.list e1 e2 e4 (by simpa using q)⟩
 |.tuple ds,x,v,h,r=>by
  obtain⟨a,xs,e,h1,h2⟩:=aU h
  subst e
  cases r
  obtain⟨its,rv,⟨o,e1,e2,n,e4⟩,_⟩:=I.tuple (SqT.of h1)
  obtain⟨as,q⟩:=eZ I ds xs its h2 rv
  exact⟨as,.tuple e1 e2 e4 (by simpa using q)⟩
 |.dict _,x,v,h,_=>by
  unfold RD at h
  exact h.elim
theorem eZ (I:Inv X pins σ H s):∀ (ds:List PyData) (xs:List V) (vs:List Value),d_ H ds xs->Vals xs vs->∃ as,ReadsAll s.heap vs ds as
 |[],xs,vs,h,r=>by
  rw[bC h] at r
  cases r
  exact⟨[],.nil⟩
 |d::ds,xs,vs,h,r=>by
  obtain⟨y,ys,e,h1,h2⟩:=aQ h
  subst e
  cases r with
  |cons r1 r2=>
   obtain⟨as,q1⟩:=dy I d y _ h1 r1
   obtain⟨bs,q2⟩:=eZ I ds ys _ h2 r2
   exact⟨as++bs,.cons q1 q2⟩
end
end
section
variable {X:Cx}
inductive uB (x y:V)(H:Hp)(Q:VK):Prop
 |mk (da db:PyData)(ra:RD H da x)(rb:RD H db y)(sa:SeqAt.shaped da=true)(sb:SeqAt.shaped db=true)(q:Q (.bl (PyData.eqv da db)) H):uB x y H Q
inductive uC (x y:V)(H:Hp)(Q:VK):Prop
 |mk (da db:PyData)(ra:RD H da x)(rb:RD H db y)(sa:SeqAt.shaped da=true)(sb:SeqAt.shaped db=true)(q:Q (.bl (!PyData.eqv da db)) H):uC x y H Q
def uD:R2:=fun x y H Q=>uB x y H Q
def sM:R2:=fun x y H Q=>uC x y H Q
theorem sN (hu:X.A.units+64 < cLine):OpR X (compareOp .Eq) uD:=by
 intro pins s σ H x y v u Q I rx ry h
 obtain⟨da,db,ra,rb,sa,sb,q⟩:=h
 obtain⟨as,qa⟩:=dy I da x v ra rx
 obtain⟨bs,qb⟩:=dy I db y u rb ry
 exact eq_dataH qa qb sa sb hu ⟨.bl _,H,I,rfl,q⟩
theorem sO (hu:X.A.units+64 < cLine):OpR X (compareOp .NotEq) sM:=by
 intro pins s σ H x y v u Q I rx ry h
 obtain⟨da,db,ra,rb,sa,sb,q⟩:=h
 obtain⟨as,qa⟩:=dy I da x v ra rx
 obtain⟨bs,qb⟩:=dy I db y u rb ry
 exact ne_dataH qa qb sa sb hu ⟨.bl _,H,I,rfl,q⟩
theorem aM (hu:X.A.units+64 < cLine):OpR X (compareOp .Eq) (fun x y H Q=>vU x y H Q\/uD x y H Q):=OpR.or ug (sN hu)
theorem cR (hu:X.A.units+64 < cLine):OpR X (compareOp .NotEq) (fun x y H Q=>vx x y H Q\/sM x y H Q):=OpR.or uh (sO hu)
theorem bU:cL X (.builtin "isinstance") (fun xs H Q=>∃ x t c b,xs=[x,.ty c]/\dZ X.K H x t/\PySem.W.kitOne X.K t (.type c)=some b/\Q (.bl b) H):=by
 intro pins s σ H xs us Q I r h
 obtain⟨x,t,c,b,rfl,ty,e,q⟩:=h
 obtain⟨u,w',rfl,rx,ry⟩:=rj r
 obtain rfl:w'=Value.type c:=ry
 exact gH I rx ty e fun tk=>⟨.bl b,H,I.tok _,rfl,q⟩
def cT (T c:String):Option Bool:=if (Value.type T == Value.type c)=true then some true else if PySem.W.kitMeta c=true then (fastBuiltinMro T).map (·.contains (Value.type c)) else none
theorem aY {K:PySem.W.Frag}{T c:String}{b:Bool}(h:cT T c=some b):PySem.W.kitOne K (.type T) (.type c)=some b:=h
def il:PyData->String
 |.none=>"NoneType"
 |.bool _=>"bool"
 |.int _=>"int"
 |.str _=>"str"
 |.list _=>"list"
 |.tuple _=>"tuple"
 |.dict _=>"dict"
theorem ja {K:PySem.W.Frag}{H:Hp}:∀ (d:PyData) (v:V),RD H d v->dZ K H v (.type (il d))
 |.none,v,h=>by
  unfold RD at h
  subst h
  exact .non
 |.bool b,v,h=>by
  unfold RD at h
  subst h
  exact .bl b
 |.int i,v,h=>by
  unfold RD at h
  subst h
  exact .int i
 |.str x,v,h=>by
  unfold RD at h
  subst h
  exact .str x
 |.list ds,v,h=>by
  obtain⟨a,xs,e,h1,_⟩:=cO h
  subst e
  exact .lst h1
 |.tuple ds,v,h=>by
  obtain⟨a,xs,e,h1,_⟩:=aU h
  subst e
  exact .tup h1
 |.dict _,v,h=>by
  unfold RD at h
  exact h.elim
def sP:PyData->Bool
 |.tuple _=>true
 |_=>false
def fW:PyData->Bool
 |.int _=>true
 |.bool _=>true
 |_=>false
def im:PyData->Bool
 |.bool _=>true
 |_=>false
def fD:PyData->Bool
 |.dict _=>true
 |_=>false
theorem nG:cT "NoneType" "tuple"=some false/\cT "bool" "tuple"=some false/\cT "int" "tuple"=some false/\cT "str" "tuple"=some false/\cT "list" "tuple"=some false/\cT "tuple" "tuple"=some true:=by
 refine⟨?_,?_,?_,?_,?_,?_⟩<;>decide+kernel
theorem sQ:cT "NoneType" "int"=some false/\cT "bool" "int"=some true/\cT "int" "int"=some true/\cT "str" "int"=some false/\cT "list" "int"=some false/\cT "tuple" "int"=some false:=by
 refine⟨?_,?_,?_,?_,?_,?_⟩<;>decide+kernel
theorem qv:cT "NoneType" "bool"=some false/\cT "bool" "bool"=some true/\cT "int" "bool"=some false/\cT "str" "bool"=some false/\cT "list" "bool"=some false/\cT "tuple" "bool"=some false:=by
 refine⟨?_,?_,?_,?_,?_,?_⟩<;>decide+kernel
theorem mq {K:PySem.W.Frag}(d:PyData)(h:fD d=false):PySem.W.kitOne K (.type (il d)) (.type "tuple")=some (sP d):=by
 obtain⟨h1,h2,h3,h4,h5,h6⟩:=nG
 cases d with
 |none=>exact aY h1
 |bool _=>exact aY h2
 |int _=>exact aY h3
 |str _=>exact aY h4
 |list _=>exact aY h5
 |tuple _=>exact aY h6
 |dict _=>cases h
theorem lb {K:PySem.W.Frag}(d:PyData)(h:fD d=false):PySem.W.kitOne K (.type (il d)) (.type "int")=some (fW d):=by
 obtain⟨h1,h2,h3,h4,h5,h6⟩:=sQ
 cases d with
 |none=>exact aY h1
 |bool _=>exact aY h2
 |int _=>exact aY h3
 |str _=>exact aY h4
 |list _=>exact aY h5
 |tuple _=>exact aY h6
 |dict _=>cases h
theorem jb {K:PySem.W.Frag}(d:PyData)(h:fD d=false):PySem.W.kitOne K (.type (il d)) (.type "bool")=some (im d):=by
 obtain⟨h1,h2,h3,h4,h5,h6⟩:=qv
 cases d with
 |none=>exact aY h1
 |bool _=>exact aY h2
 |int _=>exact aY h3
 |str _=>exact aY h4
 |list _=>exact aY h5
 |tuple _=>exact aY h6
 |dict _=>cases h
theorem e_ {H:Hp}{d:PyData}{v:V}(h:RD H d v):fD d=false:=by
 cases d with
 |dict _=>
  unfold RD at h
  exact h.elim
 |_=>rfl
end
structure Fn (P:Program)(w:World)(K:PySem.W.Frag)(mg:Str->Option Value)(base:Heap)(k:Nat)(x:Str)(f:Addr)(fd:FuncData)(ps:List Str)(sp:Sp):Prop where
 ok:FnOk P w K mg base cA k f fd ps sp
 b:Binds K fd ps []
 kp:PySem.W.keepIn K (.ref f)=true
 at_:mg x=some (.ref f)
section
variable {X:Cx}{j k:Nat}{f:Addr}{fd:FuncData}{ps:List Str}{sp:Sp}{x:Str}{p pos:Pos}{e:Expr}{es:List Expr}{t:TA}
theorem aC (G:Fn X.prog X.w X.K X.mg X.base j x f fd ps sp)(hr:Room k X.A)(hjk:j<=k)(hg:Gl X x)(ha:PA X (e::es) t)(hdb:(x == ("__debug__":Str))=false:=by decide)
  (he:starEach (e::es) X.env=(false,eval e X.env)::starEach es X.env:=by rfl) (hpl:(backTo pos (starEach es X.env)).any (·.1)=false:=by rfl):PE X (.Call (.Name x p) (e::es) [] pos) (nw sp [] E0 t):=
 kX G.ok (hr.mono hjk) hg G.at_ G.kp G.b .nil rz ha hdb he hpl
end
theorem ae {H:Hp}{p:Addr}(h:H p=none)(o:HO):Same H (upd H p o):=fun b u q=>by rw[ay (am q h)];exact q
theorem Same.upd_new {H0 H:Hp}{p:Addr}(k:Same H0 H)(h:H0 p=none)(o:HO):Same H0 (upd H p o):=fun b u q=>by rw[ay (am q h)];exact k b u q
theorem nI {α:Type}{xs:List α}{i:Int}(h0:0<=i)(h1:i < xs.length):∃ v,xs[i.toNat]? =some v/\ig xs i=some v:=by
 have hk:i.toNat < xs.length:=by omega
 have ek:i=((i.toNat:Nat):Int):=by omega
 have q:ig xs ((i.toNat:Nat):Int)=some xs[i.toNat]:=aS (List.getElem?_eq_getElem hk)
 rw[← ek] at q
 exact⟨_,List.getElem?_eq_getElem hk,q⟩
theorem nJ {ns:List Int}{i:Int}(h0:0<=i)(h1:i < ns.length):∃ v,ns[i.toNat]? =some v/\ig (ns.map V.int) i=some (.int v):=by
 obtain⟨v,h2,h3⟩:=nI (xs:=ns.map V.int) h0 (by rw[List.length_map];exact h1)
 rw[List.getElem?_map] at h2
 cases e:ns[i.toNat]? with
 |none=>rw[e] at h2;cases h2
 |some z=>
  rw[e] at h2
  have h2':V.int z=v:=by simpa using h2
  subst h2'
  exact⟨z,rfl,h3⟩
end L2
namespace L2
open PySem PySem.Spec PyProof.Rows
def AllIn (f:Str->Option Addr):List (Str×Addr)->Prop
 |[]=>True
 |p::r=>f p.1=some p.2/\AllIn f r
theorem AllIn.look {f:Str->Option Addr}:∀ {cl:List (Str×Addr)},AllIn f cl->∀ {y:Str} {c:Addr},cl.lookup y=some c->f y=some c
 |[],_,y,c,e=>by cases e
 |(n,a)::r,h,y,c,e=>by
  rw[List.lookup_cons] at e
  cases q:(y == n) with
  |true=>
   rw[q] at e
   have e1:y=n:=eq_of_beq q
   have e2:a=c:=Option.some.inj e
   rw[e1,← e2]
   exact h.1
  |false=>
   rw[q] at e
   exact AllIn.look h.2 e
def bZ (X:Cx)(scope:Scope)(cl:List (Str×Addr))(NY:List Str)(C:Addr)(fp:List Addr)(s₀:Shared)(H₀:Hp):Cx where
 prog:=X.prog
 w:=X.w
 K:=X.K
 mg:=X.mg
 base:=X.base
 A:=X.A
 N:=NY
 s₀:=s₀
 H₀:=H₀
 env:=compEnvC scope (cellsFrom (C+1) scope.names cl) C X.env
 outer:=X.stack
 stack:=X.stack
 ex:=fp
 fn:=fun x=>(cl.lookup x).isNone
 calm:=X.calm
 pn:=[]
 xe:=fun _ _=>False
structure CompSc (X:Cx)(scope:Scope)(cl:List (Str×Addr))(NY:List Str)(idx:List (Option Nat)):Prop where
 clos:closureFor scope X.env=pure cl
 all:AllIn (fun y=>X.env.cells.lookup y) cl
 c2:∀ n,((relabel scope X.env).names.all fun q=>!(decide (q.2=.cell) || decide (q.2=.free)) || ((cellsFrom n scope.names cl).lookup q.1).isSome)=true
 ix:((NY.zip idx).all fun p=>match p.2 with
  |none=>true
  |some i=>decide (X.N[i]? =some p.1)&&(decide (X.env.kindOf p.1=some .cell) || decide (X.env.kindOf p.1=some .free))&&(decide ((relabel scope X.env).names.lookup p.1=some .cell) || decide ((relabel scope X.env).names.lookup p.1=some .free))&&(scope.names.all fun q=>!decide (q.2=.cell) || !decide (q.1=p.1)))=true
 len:idx.length=NY.length
 kind:scope.kind=.function
 names:∀ y∈scope.names,y.2=.local->scope.names.lookup y.1=some .local
theorem bN:∀ (names:List (Str×NameKind)) (n:Nat) (acc:List (Str×Addr)),cellsFrom n names acc=cellsFrom n names []++acc
 |[],_,_=>rfl
 |(x,k)::r,n,acc=>by
  unfold cellsFrom
  split
  ·rw[bN r (n+1) ((x,n)::acc),bN r (n+1) [(x,n)],List.append_assoc]
   rfl
  ·exact bN r n acc
theorem fb:∀ {names:List (Str×NameKind)} {n:Nat} {y:Str} {c:Addr},(y,c)∈cellsFrom n names []->(y,NameKind.cell)∈names
 |(x,k)::r,n,y,c,h=>by
  unfold cellsFrom at h
  split at h
  ·rename_i hk
   rw[bN] at h
   rcases List.mem_append.mp h with h|h
   ·exact List.mem_cons_of_mem _ (fb h)
   ·cases List.mem_singleton.mp h
    rw[eq_of_beq hk]
    exact List.mem_cons_self
  ·exact List.mem_cons_of_mem _ (fb h)
theorem fX {names:List (Str×NameKind)}{n:Nat}{cl:List (Str×Addr)}{y:Str}{c:Addr}(h:(cellsFrom n names cl).lookup y=some c):(y,c)∈cellsFrom n names []\/cl.lookup y=some c:=by
 rw[bN,List.lookup_append] at h
 cases e:(cellsFrom n names []).lookup y with
 |some d=>
  rw[e] at h
  cases h
  exact .inl (PySem.mem_of_lookup e)
 |none=>
  rw[e] at h
  exact .inr h
theorem nK {names:List (Str×NameKind)}{n:Nat}{cl:List (Str×Addr)}{y:Str}(hn:∀ q∈names,q.2=NameKind.cell->q.1≠y):(cellsFrom n names cl).lookup y=cl.lookup y:=by
 rw[bN,List.lookup_append]
 cases e:(cellsFrom n names []).lookup y with
 |some d=>exact absurd rfl (hn _ (fb (PySem.mem_of_lookup e)) rfl)
 |none=>rfl
theorem gz {M:Model}{A:Around}{E:Value->Shared->Prop}{s:Shared}{scope:Scope}{globals:Addr}{closure:List (Str×Addr)}{qual:Str}{outer:Env}{Q:Env->Shared->Prop}
  (hQ:∀ h',h'.Ns s.heap.objs.size (fun _=>none)->(∀ b o,s.heap.get? b=some o->h'.get? b=some o)->CellsOk h' (s.heap.objs.size+1) (cellsFrom (s.heap.objs.size+1) scope.names [])->
   Q (newEnv scope s.heap.objs.size globals (cellsFrom (s.heap.objs.size+1) scope.names closure) qual none .none (some outer) outer.builtins) {s with heap:=h'}):
  wpAny M A (newFunctionEnv scope globals closure [] qual none .none (some outer)) Q E s:=by
 simp only [newFunctionEnv,Option.isSome_some,if_true]
 refine wpAny_bind (wpAny_alloc ?_)
 refine wpAny_bind (wpAny_layCells _ (fun name kind cells=>by cases hkc:kind == NameKind.cell<;>simp [hkc]) _ _ _ _ ?_)
 have ok:=cellsFrom_ok scope.names (s.heap.push {cls:=.type "dict",data:=.dict #[]}) (s.heap.objs.size+1) [] ⟨fun _ _ hm=>(nomatch hm),List.Pairwise.nil⟩ (by rw[Heap.size_push];exact Nat.le_refl _)
 rw[Heap.size_push] at ok
 rw[show ({s with heap:=s.heap.push {cls:=.type "dict",data:=.dict #[]}}:Shared).heap.objs.size=s.heap.objs.size+1 from Heap.size_push ..]
 refine wpAny_bind ?_
 rw[List.forIn_nil]
 exact wpAny_pure (wpAny_pure (hQ _ ((Heap.Ns.new s.heap (.type "dict")).keeps (pushCells_keeps _ _)) (fun b o e=>pushCells_keeps _ _ b o (Heap.get?_push_of_some _ e)) ok))
def nM (idx:List (Option Nat))(σ:St):St:=idx.map fun o=>match o with
 |none=>none
 |some i=>(σ[i]?).getD none
section
variable {X:Cx}{scope:Scope}{cl:List (Str×Addr)}{NY:List Str}{idx:List (Option Nat)}
theorem CompSc.look (S:CompSc X scope cl NY idx){y:Str}(n:Nat)(h:(relabel scope X.env).names.lookup y=some .cell\/(relabel scope X.env).names.lookup y=some .free):∃ c,(cellsFrom n scope.names cl).lookup y=some c:=by
 have hm:∃ k,(y,k)∈(relabel scope X.env).names/\(k=.cell\/k=.free):=by
  rcases h with h|h
  ·exact⟨_,PySem.mem_of_lookup h,.inl rfl⟩
  ·exact⟨_,PySem.mem_of_lookup h,.inr rfl⟩
 obtain⟨k,hk,hkk⟩:=hm
 have q:=List.all_eq_true.mp (S.c2 n) _ hk
 have e:(decide (k=NameKind.cell) || decide (k=NameKind.free))=true:=by
  rcases hkk with rfl|rfl
  ·rfl
  ·rfl
 have q':(!(decide (k=NameKind.cell) || decide (k=NameKind.free)) || ((cellsFrom n scope.names cl).lookup y).isSome)=true:=q
 rw[e] at q'
 exact Option.isSome_iff_exists.mp q'
theorem nN {pins:List (Addr×Obj)}{σ:St}{H:Hp}{s:Shared}{fp:List Addr}{h₁:Heap}{m:Str->Option Value}{tk:Nat}(S:CompSc X scope cl NY idx)(I:Inv X pins σ H s)
  (f2:∀ b∈fp,ia X pins H b) (hfl:∀ b∈fp,b < s.heap.objs.size) (hns:h₁.Ns s.heap.objs.size m) (old:∀ b o,s.heap.get? b=some o->h₁.get? b=some o) (hcs:CellsOk h₁ (s.heap.objs.size+1) (cellsFrom (s.heap.objs.size+1) scope.names [])):
  Inv (bZ X scope cl NY s.heap.objs.size fp s H) [] (nM idx σ) H {s with heap:=h₁,toks:=tk}:=by
 have hC:H s.heap.objs.size=none:=I.hok.fresh (Nat.le_refl _)
 have hcl:∀ {x:Str} {c:Addr},cl.lookup x=some c->X.env.cells.lookup x=some c:=fun e=>S.all.look e
 have cellLt:∀ {x:Str} {c:Addr},X.env.cells.lookup x=some c->c < s.heap.objs.size:=fun {x c} e=>by
  obtain⟨v,z⟩:=I.cell x c e
  exact z.lt
 have two:∀ {x:Str} {c:Addr},(cellsFrom (s.heap.objs.size+1) scope.names cl).lookup x=some c->((x,c)∈cellsFrom (s.heap.objs.size+1) scope.names []/\s.heap.objs.size < c/\h₁.IsCell c none)\/(X.env.cells.lookup x=some c/\c < s.heap.objs.size):=fun {x c} e=>by
  rcases fX e with h|h
  ·exact .inl ⟨h,(hcs.empty x c h).2,(hcs.empty x c h).1⟩
  ·exact .inr ⟨hcl h,cellLt (hcl h)⟩
 have inj:∀ x y c,(cellsFrom (s.heap.objs.size+1) scope.names cl).lookup x=some c->(cellsFrom (s.heap.objs.size+1) scope.names cl).lookup y=some c->x=y:=fun x y c h1 h2=>by
  rcases two h1 with a|a<;>rcases two h2 with b|b
  ·exact name_of_addr hcs.apart a.1 b.1
  ·exact absurd (Nat.lt_trans a.2.1 b.2) (Nat.lt_irrefl _)
  ·exact absurd (Nat.lt_trans b.2.1 a.2) (Nat.lt_irrefl _)
  ·exact I.ok.inj x y c a.1 b.1
 have ne:∀ b∈fp,∀ x c,(cellsFrom (s.heap.objs.size+1) scope.names cl).lookup x=some c->c≠b:=fun b hb x c e=>by
  rcases two e with a|a
  ·exact Nat.ne_of_gt (Nat.lt_trans (hfl b hb) a.2.1)
  ·exact (f2 b hb).2.2.2.2.1 x c a.1
 have fr:∀ x c,(cellsFrom (s.heap.objs.size+1) scope.names cl).lookup x=some c->H c=none:=fun x c e=>by
  rcases two e with a|a
  ·exact I.hok.fresh (Nat.le_of_lt a.2.1)
  ·exact I.freeC x c a.1
 have cab:∀ x c,(cl.lookup x).isNone=true->(cellsFrom (s.heap.objs.size+1) scope.names cl).lookup x=some c->s.heap.objs.size<=c:=fun x c hf e=>by
  rcases fX e with h|h
  ·exact Nat.le_of_succ_le (hcs.empty x c h).2
  ·rw[h] at hf
   cases hf
 refine⟨⟨I.ok.mod,?_,I.ok.glob,I.ok.blt,Nat.le_refl _,inj,fun x hx=>S.look _ hx,cab,I.ok.hd,I.ok.frames,.inl rfl,fun b hb=>⟨Nat.ne_of_lt (hfl b hb),ne b hb⟩,
  I.bs,Nat.le_trans I.ok.bsz I.sz,fun b o e hb=>?_,fun b hb hz=>?_,I.stack,I.stkFree⟩,rfl,I.bare,Un.kept old,⟨m,hns,fun j y v h1 h2 h3=>?_⟩,fun x c e=>?_,hC,fr,fun p hp=>absurd (show p∈([]:List (Addr×Obj)) from hp) (by simp),I.hok.kept old,?_⟩
 ·exact S.kind
 ·rcases (f2 b hb).2.2.2.1 with z|z
  ·exact I.ok.noex b o e z
  ·exact absurd (Nat.lt_of_lt_of_le (Heap.lt_size e) (Nat.le_trans I.ok.bsz z)) (Nat.lt_irrefl _)
 ·rcases List.mem_cons.mp (I.stkSub b hz) with e|e
  ·exact (f2 b hb).2.1 e
  ·exact (f2 b hb).2.2.1 e
 ·
  have h2':(nM idx σ)[j]? =some (some v):=h2
  unfold nM at h2'
  rw[List.getElem?_map] at h2'
  cases ej:idx[j]? with
  |none=>rw[ej] at h2';cases h2'
  |some o=>
   rw[ej] at h2'
   cases o with
   |none=>cases h2'
   |some i=>
    have e3:(σ[i]?).getD none=some v:=by simpa using h2'
    have e4:σ[i]? =some (some v):=by
     cases q:σ[i]? with
     |none=>rw[q] at e3;cases e3
     |some z=>
      rw[q] at e3
      exact congrArg some e3
    have hz:(NY.zip idx)[j]? =some (y,some i):=by
     rw[List.getElem?_zip_eq_some]
     exact⟨h1,ej⟩
    have q:=List.all_eq_true.mp S.ix _ (List.mem_of_getElem? hz)
    have q':(decide (X.N[i]? =some y)&&(decide (X.env.kindOf y=some .cell) || decide (X.env.kindOf y=some .free))&&(decide ((relabel scope X.env).names.lookup y=some .cell) || decide ((relabel scope X.env).names.lookup y=some .free))&&(scope.names.all fun q=>!decide (q.2=.cell) || !decide (q.1=y)))=true:=q
    rw[Bool.and_eq_true,Bool.and_eq_true,Bool.and_eq_true,Bool.or_eq_true,Bool.or_eq_true] at q'
    obtain⟨⟨⟨q1,q2⟩,q3⟩,q4⟩:=q'
    have q5:∀ q∈scope.names,q.2=NameKind.cell->q.1≠y:=fun q hq e1 e2=>by
     have:=List.all_eq_true.mp q4 q hq
     rw[decide_eq_true e1,decide_eq_true e2] at this
     cases this
    have q1':=of_decide_eq_true q1
    have q2':X.env.kindOf y=some .cell\/X.env.kindOf y=some .free:=q2.elim (fun z=>.inl (of_decide_eq_true z)) fun z=>.inr (of_decide_eq_true z)
    have q3':(relabel scope X.env).names.lookup y=some .cell\/(relabel scope X.env).names.lookup y=some .free:=q3.elim (fun z=>.inl (of_decide_eq_true z)) fun z=>.inr (of_decide_eq_true z)
    obtain⟨mX,_,hl⟩:=I.loc
    obtain⟨u,ru,lk⟩:=hl i y v q1' e4 (.inr q2')
    refine⟨u,ru,.inr ⟨q3',?_⟩⟩
    obtain⟨c,hc0⟩:=S.look (s.heap.objs.size+1) q3'
    have hc:=hc0
    rw[nK q5] at hc
    rcases lk with⟨hk,_⟩|⟨_,c',hc',hcell⟩
    ·rcases q2' with z|z
     ·rw[hk] at z;cases z
     ·rw[hk] at z;cases z
    ·have e5:=hcl hc
     rw[hc'] at e5
     cases e5
     obtain⟨oc,ho,hd⟩:=hcell
     exact⟨_,hc0,oc,old _ _ ho,hd⟩
 ·rcases two e with a|a
  ·exact⟨none,a.2.2⟩
  ·obtain⟨v,oc,ho,hd⟩:=I.cell x c a.1
   exact⟨v,oc,old _ _ ho,hd⟩
 ·unfold nM
  rw[List.length_map]
  exact S.len
end
def uE (Y:Cx)(ifs:List Expr)(t:TT):Prop:=
 ∀ (pins:List (Addr×Obj)) (s:Shared) (σ:St) (H:Hp) (Q:Bool->Hp->Prop),Inv Y pins σ H s->t σ H Q->
  wpAny (model Y.prog Y.w) Y.A (forIn ifs true fun c r=>if r=true then do let ok ← isTrue c Y.env (eval c Y.env);pure (ForInStep.yield ok) else pure (ForInStep.yield r)) (TP Y pins σ Q) Y.xe s
def vE:TT:=fun _ H Q=>Q true H
theorem fY {i:Nat}{x:V}{σ:St}{H:Hp}{A B:St->Hp->Prop}(h:A (σ.set i (some x)) H):eg i x σ H (fun σ3 H3=>vE σ3 H3 fun b H4=>if b=true then A σ3 H4 else B σ3 H4):=by
 show (if true=true then A (σ.set i (some x)) H else B (σ.set i (some x)) H)
 exact aK h
theorem cE {Y:Cx}:uE Y [] vE:=fun pins s σ H Q I h=>wpAny_tests_nil ⟨H,I,h⟩
theorem aZ {Y:Cx}{c:Expr}{t:TT}(h:PT Y c t):uE Y [c] t:=fun pins s σ H Q I hw=>wpAny_tests_one (h pins s σ H Q I hw)
def gO (J:It)(D:Addr)(g:TG)(tt:TT)(te:TE)(σ0:St)(H1:Hp)(Q:VK):Prop:=
 ∃ W:Nat->Nat->St->List V->Hp->Prop,(∃ m,W 0 m σ0 [] (upd H1 D (.lst [])))/\∀ i m σ ys H,W i m σ ys H->H D=some (.lst ys)/\
  ((J.stop i H/\Q (.ref D) H)\/(J.go i H/\∃ N:St->List V->Hp->Prop,(∀ σ' ys' H',N σ' ys' H'->∃ m',m' < m/\W (i+1) m' σ' ys' H')/\
   ∀ x H2,J.yld i H x H2->g x σ H2 fun σ3 H3=>tt σ3 H3 fun b H4=>if b=true then te σ3 H4 fun y H5=>H5 D=some (.lst ys)/\ys.length < sizeLine/\N σ3 (ys++[y]) (upd H5 D (.lst (ys++[y]))) else N σ3 ys H4))
def nO (idx:List (Option Nat))(wi:TI)(g:TG)(tt:TT)(te:TE):TE:=fun σ H Q=>wi σ H fun J H1=>∀ D,H1 D=none->gO J D g tt te (nM idx σ) H1 Q
section
variable {prog:Program}{w:World}{A:Around}{R:Result->Shared->Prop}{s:Shared}
theorem dz {elt target iter:Expr}{ifs:List Expr}{scope:Scope}{pos:Pos}{it acc:Value}{env:Env}(I:Nat->Shared->Prop)
  (turn:∀ n s,I n s->wpAny (model prog w) A (pyNext it) (fun r s₁=>match r with
   |none=>R (.ok .next) s₁
   |some v=>wpAny (model prog w) A (letOwnedTupleGo target it v) (fun _ s₀=>wpAny (model prog w) A (assign target env v) (fun _ s₂=>
     wpAny (model prog w) A (forIn ifs true fun c r=>if r=true then do let ok ← isTrue c env (eval c env);pure (ForInStep.yield ok) else pure (ForInStep.yield r)) (fun ok s₃=>
      if ok=true then wpAny (model prog w) A (eval elt env) (fun x s₄=>
       wpAny (model prog w) A (call (.builtin "list.append") [acc,x]) (fun _ s₅=>∃ m,m < n/\I m s₅) (fun _ _=>False) s₄) (fun _ _=>False) s₃
      else ∃ m,m < n/\I m s₃) (fun _ _=>False) s₂) (fun _ _=>False) s₀) (fun _ _=>False) s₁) (fun _ _=>False) s)
  (n:Nat) (h:I n s):
  codeAny (model prog w) A (.compLoop (.ListComp elt [⟨target,iter,ifs,0⟩] scope pos) 0 it acc env) R s:=by
 refine codeAny_loop rfl I (fun n s hI=>?_) n h
 show wpAny _ A ((compTurn (.ListComp elt [⟨target,iter,ifs,0⟩] scope pos) 0 it acc env).onRaise (fun x=>do noteFrame x env;theTreesLotGoes x)) _ _ s
 refine wpAny_noted ?_
 rw[compTurn_list]
 have no:∀ {α:Type} {t:Sem α} {Q:α->Shared->Prop} {E:Value->Shared->Prop} {s:Shared},wpAny (model prog w) A t Q (fun _ _=>False) s->wpAny (model prog w) A t Q E s:=fun hq=>wpAny_mono hq (fun _ _ z=>z) fun _ _ z=>z.elim
 refine wpAny_bind (wpAny_standAt (wpAny_bind (wpAny_mono (turn n s hI) (fun r s₁ h₁=>?_) fun _ _ h'=>h'.elim)))
 cases r with
 |none=>exact wpAny_pure h₁
 |some v=>
  refine wpAny_bind (wpAny_mono h₁ (fun _ s₀ h₀=>?_) fun _ _ h'=>h'.elim)
  refine wpAny_bind (wpAny_mono h₀ (fun _ s₂ h₂=>wpAny_bind (wpAny_mono h₂ (fun ok s₃ h₃=>?_) fun _ _ h'=>h'.elim)) fun _ _ h'=>h'.elim)
  cases ok with
  |false=>exact wpAny_pure ⟨rfl,h₃⟩
  |true=>
   exact wpAny_bind (wpAny_bind (wpAny_mono h₃ (fun x s₄ h₄=>wpAny_bind (wpAny_mono h₄ (fun _ s₅ h₅=>wpAny_pure (wpAny_pure ⟨rfl,h₅⟩)) fun _ _ h'=>h'.elim)) fun _ _ h'=>h'.elim))
end
section
variable {X:Cx}{scope:Scope}{cl:List (Str×Addr)}{NY:List Str}{idx:List (Option Nat)}{elt iter target:Expr}{ifs:List Expr}{pos:Pos}{wi:TI}{g:TG}{tt:TT}{te:TE}
structure CompEnd (X:Cx)(pins:List (Addr×Obj))(σ:St)(H:Hp)(C:Addr)(s:Shared):Prop where
 inv:Inv X pins σ H s
 ns:∃ m,s.heap.Ns C m
 free:H C=none
 loc:C≠X.env.locals
 young:X.s₀.heap.objs.size<=C
 cells:∀ x c,X.env.cells.lookup x=some c->c≠C
 pin:∀ p∈X.pn++pins,p.1≠C
theorem CompEnd.gone {pins:List (Addr×Obj)}{σ:St}{H:Hp}{C:Addr}{s:Shared}{h':Heap}(e:CompEnd X pins σ H C s)(hs:Heap.SameBut C s.heap h'):Inv X pins σ H {s with heap:=h'}:=
 e.inv.turned (t':=s.toks) (fun b o hb q=>(hs.2 b hb).trans q) e.free e.loc (.inr e.young) e.cells e.pin
theorem jc {pins:List (Addr×Obj)}{σ:St}{H:Hp}{s:Shared}{Q:VK}{RR:Value->Addr->Result->Shared->Prop}(hcalm:X.calm=true)(S:CompSc X scope cl NY idx)(hi:PI X target iter wi)
  (hg:∀ C fp s₀ H₀,PG (bZ X scope cl NY C fp s₀ H₀) target g) (ht:∀ C fp s₀ H₀,uE (bZ X scope cl NY C fp s₀ H₀) ifs tt) (he:∀ C fp s₀ H₀,PE (bZ X scope cl NY C fp s₀ H₀) elt te)
  (I:Inv X pins σ H s) (h:nO idx wi g tt te σ H Q)
  (hRR:∀ D C H' s',CompEnd X pins σ H' C s'->Q (.ref D) H'->RR (.ref D) C (.ok .next) s'):
  wpAny (model X.prog X.w) X.A (eval iter X.env) (fun x s₁=>wpAny (model X.prog X.w) X.A (pyIter x) (fun it s₂=>wpAny (model X.prog X.w) X.A (newList []) (fun acc s₃=>
   wpAny (model X.prog X.w) X.A (newFunctionEnv scope X.env.globals cl [] X.env.qual none .none (some X.env)) (fun cenv s₄=>
    codeAny (model X.prog X.w) X.A (.compStart (.ListComp elt [⟨target,iter,ifs,0⟩] scope pos) 0 it acc {cenv with scope:=relabel scope X.env}) (RR acc cenv.locals) s₄) X.xe s₃) X.xe s₂) X.xe s₁) X.xe s:=by
 refine bH (hi pins s σ H _ I h) fun v s1 h1=>bH h1 fun itv s2 h2=>?_
 obtain⟨it,fp,tn,J,H2,e,I2,T,st2,f2,r2⟩:=h2
 subst e
 have hD:H2 s2.heap.objs.size=none:=I2.hok.fresh (Nat.le_refl _)
 have r3:=r2 s2.heap.objs.size hD
 have I3:Inv X pins σ (upd H2 s2.heap.objs.size (.lst [])) {s2 with heap:=s2.heap.push {cls:=.type "list",data:=.seq ([]:List Value).toArray}}:=
  I2.laid (t':=s2.toks) (fun b u q=>Heap.get?_push_of_some _ q) (Nat.le_refl _) ⟨Nat.zero_le _,[],0,.nil,Heap.get?_push_size _ rfl⟩
 refine wpAny_newObj_type (gz fun h₁ hns hsb hcs=>?_)
 dsimp only at hns hsb hcs ⊢
 have hfl0:∀ b∈fp,b < s2.heap.objs.size:=fun b hb=>by
  obtain⟨o,q,_⟩:=T.obj 0 _ st2 b hb
  exact Heap.lt_size q
 have neD:∀ b∈fp,b≠s2.heap.objs.size:=fun b hb=>Nat.ne_of_lt (hfl0 b hb)
 have f3:∀ b∈fp,ia X pins (upd H2 s2.heap.objs.size (.lst [])) b:=fun b hb=>⟨by rw[ay (neD b hb)];exact (f2 b hb).1,(f2 b hb).2⟩
 generalize hs3:({s2 with heap:=s2.heap.push {cls:=.type "list",data:=.seq ([]:List Value).toArray}}:Shared)=s3 at I3
 have es3:s3.heap=s2.heap.push {cls:=.type "list",data:=.seq ([]:List Value).toArray}:=by rw[← hs3]
 have hfl:∀ b∈fp,b < s3.heap.objs.size:=fun b hb=>by
  rw[es3,Heap.size_push]
  exact Nat.lt_succ_of_lt (hfl0 b hb)
 have hns':h₁.Ns s3.heap.objs.size (fun _=>none):=by rw[es3];exact hns
 have old:∀ b o,s3.heap.get? b=some o->h₁.get? b=some o:=fun b o q=>by
  rw[es3] at q
  exact hsb b o q
 have hcs':CellsOk h₁ (s3.heap.objs.size+1) (cellsFrom (s3.heap.objs.size+1) scope.names []):=by rw[es3];exact hcs
 have st3:tn 0 h₁:=T.keep _ _ _ st2 fun b hb o q=>old b o (by rw[es3];exact Heap.get?_push_of_some _ q)
 have IY0:=nN (tk:=s2.toks) S I3 f3 hfl hns' old hcs'
 have e4:({s3 with heap:=h₁,toks:=s2.toks}:Shared)={s2 with heap:=h₁,toks:=s2.toks}:=by rw[← hs3]
 rw[e4] at IY0
 have eC:s3.heap.objs.size=(s2.heap.push {cls:=.type "list",data:=.seq ([]:List Value).toArray}).objs.size:=by rw[es3]
 have hC3:s3.heap.get? s3.heap.objs.size=none:=Heap.get?_none_of_le (Nat.le_refl _)
 obtain⟨W,⟨m0,w0⟩,turn⟩:=r3
 have loop:∀ s4:Shared,s4={s2 with heap:=h₁,toks:=s2.toks}->
   codeAny (model X.prog X.w) X.A (.compLoop (.ListComp elt [⟨target,iter,ifs,0⟩] scope pos) 0 (.ref it) (.ref s2.heap.objs.size) (compEnvC scope (cellsFrom (s3.heap.objs.size+1) scope.names cl) s3.heap.objs.size X.env)) (RR (.ref s2.heap.objs.size) s3.heap.objs.size) s4:=by
  rintro s4 rfl
  have stat:∀ {H':Hp},(∀ b∈fp,H' b=none)->∀ b∈fp,ia (bZ X scope cl NY s3.heap.objs.size fp s3 (upd H2 s2.heap.objs.size (.lst []))) [] H' b:=fun {H'} hn b hb=>
   ⟨hn b hb,Nat.ne_of_lt (hfl b hb),(fun z=>(IY0.ok.exfs b hb) z),.inl hb,fun x c e=>(IY0.ok.exf b hb).2 x c e,fun p hp=>absurd (show p∈([]:List (Addr×Obj)) from hp) (by simp)⟩
  refine dz (fun n s'=>∃ i σ' ys H',Inv (bZ X scope cl NY s3.heap.objs.size fp s3 (upd H2 s2.heap.objs.size (.lst []))) [] σ' H' s'/\tn i s'.heap/\(∀ b∈fp,H' b=none)/\W i n σ' ys H') ?_ m0
   ⟨0,_,[],_,IY0,st3,fun b hb=>(f3 b hb).1,w0⟩
  rintro n s5 ⟨i,σ5,ys,H5,I5,st5,fr5,w5⟩
  obtain⟨hacc,alt⟩:=turn i n σ5 ys H5 w5
  rcases alt with⟨stop,qn⟩|⟨go,N,hN,step⟩
  ·refine bH (T.done (bZ X scope cl NY s3.heap.objs.size fp s3 (upd H2 s2.heap.objs.size (.lst []))) rfl rfl rfl hcalm i [] s5 σ5 H5 (fun _ _=>False) I5 (stat fr5) st5 stop) fun r s6 ⟨hr,I6⟩=>?_
   subst hr
   have I7:Inv X pins σ H5 s6:=I3.call' (s':=s6) (ch:=fp) I6.os I6.base I6.hok I6.bare fun b hb=>⟨(f3 b hb).2.2.2.1,(f3 b hb).2.1,(f3 b hb).2.2.2.2.1,(f3 b hb).2.2.2.2.2⟩
   refine hRR _ _ H5 s6 ⟨I7,?_,I6.free,Nat.ne_of_gt I3.lt,I3.sz,fun x c e=>?_,fun p hp z=>?_⟩ qn
   ·obtain⟨m,hn,_⟩:=I6.loc
    exact⟨m,hn⟩
   ·obtain⟨v,q⟩:=I3.cell x c e
    exact Nat.ne_of_lt q.lt
   ·have q:=(I3.pin p hp).1
    rw[z,hC3] at q
    cases q
  ·refine bH (T.item (bZ X scope cl NY s3.heap.objs.size fp s3 (upd H2 s2.heap.objs.size (.lst []))) rfl rfl rfl hcalm i [] s5 σ5 H5 (fun _ _=>False) I5 (stat fr5) st5 go) fun r s6 ⟨u,hr,h6⟩=>?_
   subst hr
   refine bH h6 fun _ s7 ⟨x,H7,I7,r7,y7,st7,fr7⟩=>?_
   have I7':=I7.pinned (stat fr7) (T.obj _ _ st7)
   have back:∀ {σ8:St} {ys8:List V} {H8:Hp} {s8:Shared},Inv (bZ X scope cl NY s3.heap.objs.size fp s3 (upd H2 s2.heap.objs.size (.lst []))) ([]++fP fp s7.heap) σ8 H8 s8->N σ8 ys8 H8->
     ∃ m,m < n/\∃ i σ' ys H',Inv (bZ X scope cl NY s3.heap.objs.size fp s3 (upd H2 s2.heap.objs.size (.lst []))) [] σ' H' s8/\tn i s8.heap/\(∀ b∈fp,H' b=none)/\W i m σ' ys H':=fun {σ8 ys8 H8 s8} I8 n8=>by
    obtain⟨m',hm,w8⟩:=hN σ8 ys8 H8 n8
    refine⟨m',hm,i+1,σ8,ys8,H8,I8.unpinned,T.keep _ _ _ st7 fun b hb o e=>(I8.pin (b,o) (List.mem_append_right _ (List.mem_append_right _ (cZ hb e)))).1,fun b hb=>?_,w8⟩
    obtain⟨o,e,d⟩:=T.obj _ _ st7 b hb
    exact (I8.pin (b,o) (List.mem_append_right _ (List.mem_append_right _ (cZ hb e)))).2.1
   refine bH (hg _ _ _ _ _ s7 σ5 H7 x u _ I7' r7 (step x H7 y7)) fun _ s8 ⟨σ8,H8,I8,q8⟩=>?_
   refine bH (ht _ _ _ _ _ s8 σ8 H8 _ I8 q8) fun ok s9 ⟨H9,I9,q9⟩=>?_
   cases ok with
   |false=>exact ax (back I9 q9)
   |true=>
    refine aK ?_
    refine bH (he _ _ _ _ _ s9 σ8 H9 _ I9 q9) fun y s10 ⟨yv,H10,I10,r10,hD10,hz10,n10⟩=>?_
    refine bH (cJ _ s10 σ8 H10 (.ref s2.heap.objs.size) [yv] (.ref s2.heap.objs.size) [y] (fun v H'=>v=.non/\H'=upd H10 s2.heap.objs.size (.lst (ys++[yv]))) I10 rfl (.cons r10 .nil) ⟨_,ys,yv,rfl,rfl,hD10,hz10,rfl,rfl⟩) fun _ s11 ⟨_,H11,I11,_,_,e11⟩=>?_
    subst e11
    exact back I11 n10
 have e5:(compEnvC scope (cellsFrom (s3.heap.objs.size+1) scope.names cl) s3.heap.objs.size X.env)={newEnv scope (s2.heap.push {cls:=.type "list",data:=.seq ([]:List Value).toArray}).objs.size X.env.globals (cellsFrom ((s2.heap.push {cls:=.type "list",data:=.seq ([]:List Value).toArray}).objs.size+1) scope.names cl) X.env.qual none .none (some X.env) X.env.builtins with scope:=relabel scope X.env}:=by
  rw[es3]
  rfl
 have L1:=loop _ rfl
 rw[eC] at L1
 exact codeAny_compStart_list L1 (T.self _ 0 _ _ _ st3 L1)
theorem aN (hcalm:X.calm=true)(S:CompSc X scope cl NY idx)(hi:PI X target iter wi)(hg:∀ C fp s₀ H₀,PG (bZ X scope cl NY C fp s₀ H₀) target g)(ht:∀ C fp s₀ H₀,uE (bZ X scope cl NY C fp s₀ H₀) ifs tt)
  (he:∀ C fp s₀ H₀,PE (bZ X scope cl NY C fp s₀ H₀) elt te) (hs:∀ x,foldedSetIterable iter X.env x=pure x:=by intro _;rfl):PE X (.ListComp elt [⟨target,iter,ifs,0⟩] scope pos) (nO idx wi g tt te):=by
 intro pins s σ H Q I h
 rw[eval_ListComp]
 refine wpAny_comprehension_free (use:=none) rfl hs S.clos S.kind S.names ?_
 refine jc (RR:=fun acc C=>compPost (model X.prog X.w) X.A X.xe none (EP X pins σ Q) acc C) hcalm S hi hg ht he I h ?_
 intro D C H' s' e q
 obtain⟨m,hn⟩:=e.ns
 exact⟨m,hn,fun h' hs'=>⟨.ref D,H',e.gone hs',rfl,q⟩⟩
def nP (i:Nat)(te:TE):TS:=fun D σ H=>te σ H fun v H1=>D.nx (σ.set i (some v)) H1
theorem cM {i:Nat}{x:Str}{pos' spos:Pos}(hN:X.N.Nodup)(hx:X.N[i]? =some x) (hl:X.env.scope.names.lookup x=some .local) (hcalm:X.calm=true) (S:CompSc X scope cl NY idx) (hi:PI X target iter wi)
  (hg:∀ C fp s₀ H₀,PG (bZ X scope cl NY C fp s₀ H₀) target g) (ht:∀ C fp s₀ H₀,uE (bZ X scope cl NY C fp s₀ H₀) ifs tt) (he:∀ C fp s₀ H₀,PE (bZ X scope cl NY C fp s₀ H₀) elt te)
  (hsw:swapsWith (.ListComp elt [⟨target,iter,ifs,0⟩] scope pos) (some (.Name x pos')) spos.line X.env=pure true) (hs:∀ x,foldedSetIterable iter X.env x=pure x:=by intro _;rfl):
  PS X (.Assign [.Name x pos'] (.ListComp elt [⟨target,iter,ifs,0⟩] scope pos) spos) (nP i (nO idx wi g tt te)):=by
 intro pins s σ H D I h
 rw[exec_Assign_Name_used _ _ _ _ hsw]
 refine wpAny_bind (wpAny_standAt (wpAny_bind ?_))
 show wpAny _ X.A (do let _ ← comprehension (.ListComp elt [⟨target,iter,ifs,0⟩] scope pos) scope X.env _ (newList []) false (eval iter X.env) (some (assign (.Name x pos') X.env))) _ _ s
 refine wpAny_bind (wpAny_mono (wpAny_comprehension_free (use:=some (assign (.Name x pos') X.env)) (Q:=fun _ s'=>∃ σ' H',Inv X pins σ' H' s'/\D.nx σ' H') rfl hs S.clos S.kind S.names ?_) (fun _ s' hq=>wpAny_pure (wpAny_pure hq)) fun _ _ e=>e)
 refine jc (RR:=fun acc C=>compPost (model X.prog X.w) X.A X.xe (some (assign (.Name x pos') X.env)) (fun _ s'=>∃ σ' H',Inv X pins σ' H' s'/\D.nx σ' H') acc C) hcalm S hi hg ht he I h ?_
 intro D' C H' s' e q
 refine wpAny_assign_Name (gE e.inv hN hx (.inl hl) (v:=.ref D') (u:=.ref D') rfl (fun s'' I'' sb=>?_) (.inr hl))
 obtain⟨a,hsb,ha⟩:=sb
 have neC:C≠a:=by
  rcases ha with rfl|ha
  ·exact e.loc
  ·exact fun z=>e.cells _ _ ha z.symm
 obtain⟨m,hn⟩:=e.ns
 have e2:CompEnd X pins (σ.set i (some (.ref D'))) H' C s'':=⟨I'',⟨m,hn.sameBut hsb neC⟩,e.free,e.loc,e.young,e.cells,e.pin⟩
 exact⟨m,hn.sameBut hsb neC,fun h' hs'=>⟨_,H',e2.gone hs',q⟩⟩
end
section
variable {K:PySem.W.Frag}{a D:Addr}{xs:List V}{g:TG}{tt:TT}{te:TE}{σ0:St}{H1:Hp}{Q:VK}
theorem cr (Pv:Nat->St->List V->Hp->Prop)(h0:Pv 0 σ0 [] (upd H1 D (.lst [])))(hd:∀ i σ ys H,i<=xs.length->Pv i σ ys H->H D=some (.lst ys)/\SqL K H a xs)
  (hs:∀ i x σ ys H,xs[i]? =some x->Pv i σ ys H->g x σ H fun σ3 H3=>tt σ3 H3 fun b H4=>if b=true then te σ3 H4 fun y H5=>H5 D=some (.lst ys)/\ys.length < sizeLine/\Pv (i+1) σ3 (ys++[y]) (upd H5 D (.lst (ys++[y]))) else Pv (i+1) σ3 ys H4)
  (hq:∀ σ ys H,Pv xs.length σ ys H->Q (.ref D) H):gO (sr K a) D g tt te σ0 H1 Q:=by
 refine⟨fun i m σ ys H=>m=xs.length - i/\i<=xs.length/\Pv i σ ys H,⟨xs.length,by simp,Nat.zero_le _,h0⟩,?_⟩
 rintro i m σ ys H ⟨rfl,hi,p⟩
 obtain⟨hD,q⟩:=hd i σ ys H hi p
 refine⟨hD,?_⟩
 by_cases hlt:i < xs.length
 ·refine .inr ⟨⟨xs,xs[i],q,by simp [hlt]⟩,Pv (i+1),fun σ' ys' H' p'=>⟨xs.length - (i+1),by omega,rfl,hlt,p'⟩,fun x H' y=>?_⟩
  obtain⟨e,y⟩:=y
  subst e
  exact hs i x σ ys _ (y xs q) p
 ·have e:i=xs.length:=by omega
  subst e
  exact .inl ⟨⟨xs,q,Nat.le_refl _⟩,hq σ ys H p⟩
theorem jd (Pv:Nat->St->List V->Hp->Prop)(h0:Pv 0 σ0 [] (upd H1 D (.lst [])))(hd:∀ i σ ys H,i<=xs.length->Pv i σ ys H->H D=some (.lst ys)/\SqT K H a xs)
  (hs:∀ i x σ ys H,xs[i]? =some x->Pv i σ ys H->g x σ H fun σ3 H3=>tt σ3 H3 fun b H4=>if b=true then te σ3 H4 fun y H5=>H5 D=some (.lst ys)/\ys.length < sizeLine/\Pv (i+1) σ3 (ys++[y]) (upd H5 D (.lst (ys++[y]))) else Pv (i+1) σ3 ys H4)
  (hq:∀ σ ys H,Pv xs.length σ ys H->Q (.ref D) H):gO (su K a) D g tt te σ0 H1 Q:=by
 refine⟨fun i m σ ys H=>m=xs.length - i/\i<=xs.length/\Pv i σ ys H,⟨xs.length,by simp,Nat.zero_le _,h0⟩,?_⟩
 rintro i m σ ys H ⟨rfl,hi,p⟩
 obtain⟨hD,q⟩:=hd i σ ys H hi p
 refine⟨hD,?_⟩
 by_cases hlt:i < xs.length
 ·refine .inr ⟨⟨xs,xs[i],q,by simp [hlt]⟩,Pv (i+1),fun σ' ys' H' p'=>⟨xs.length - (i+1),by omega,rfl,hlt,p'⟩,fun x H' y=>?_⟩
  obtain⟨e,y⟩:=y
  subst e
  exact hs i x σ ys _ (y xs q) p
 ·have e:i=xs.length:=by omega
  subst e
  exact .inl ⟨⟨xs,q,Nat.le_refl _⟩,hq σ ys H p⟩
theorem fZ {lo:Int}{n:Nat}(Pv:Nat->St->List V->Hp->Prop)(h0:Pv 0 σ0 [] (upd H1 D (.lst [])))(hd:∀ i σ ys H,i<=n->Pv i σ ys H->H D=some (.lst ys))
  (hs:∀ i σ ys H,i < n->Pv i σ ys H->g (.int (lo+i)) σ H fun σ3 H3=>tt σ3 H3 fun b H4=>if b=true then te σ3 H4 fun y H5=>H5 D=some (.lst ys)/\ys.length < sizeLine/\Pv (i+1) σ3 (ys++[y]) (upd H5 D (.lst (ys++[y]))) else Pv (i+1) σ3 ys H4)
  (hq:∀ σ ys H,Pv n σ ys H->Q (.ref D) H):gO (rg lo n) D g tt te σ0 H1 Q:=by
 refine⟨fun i m σ ys H=>m=n - i/\i<=n/\Pv i σ ys H,⟨n,by simp,Nat.zero_le _,h0⟩,?_⟩
 rintro i m σ ys H ⟨rfl,hi,p⟩
 refine⟨hd i σ ys H hi p,?_⟩
 by_cases hlt:i < n
 ·refine .inr ⟨hlt,Pv (i+1),fun σ' ys' H' p'=>⟨n - (i+1),by omega,rfl,hlt,p'⟩,fun x H' y=>?_⟩
  obtain⟨e,y⟩:=y
  subst e y
  exact hs i σ ys _ hlt p
 ·have e:i=n:=by omega
  subst e
  exact .inl ⟨Nat.le_refl _,hq σ ys H p⟩
end
end L2
namespace L2
open PySem PySem.Spec PyProof.Rows
section
variable {X:Cx}{pos:Pos}
theorem jZ {ss:List Str}:∀ {us:List Value},Vals (ss.map V.str) us->StrsAre us ss:=by
 induction ss with
 |nil=>intro us r;rw[List.map_nil] at r;cases r;exact .nil
 |cons n ns ih=>
  intro us r
  rw[List.map_cons] at r
  cases r with
  |cons r1 r2=>
   obtain⟨t,e⟩:=r1
   subst e
   exact .cons n t (ih r2)
theorem qw:vX X "str.join" (fun x vs H Q=>∃ (sep:Str) (p:Addr) (ys:List Str),x=.str sep/\vs=[.ref p]/\SqL X.K H p (ys.map V.str)/\(ys.map (·.length)).sum+ys.length*sep.length<=16777216/\Q (.str (Txt.join sep ys)) H):=by
 intro pins s σ H x vs v us Q I rx rv h
 obtain⟨sep,p,ys,rfl,rfl,hq,hz,q⟩:=h
 obtain⟨t,rfl⟩:=rx
 obtain⟨u,rfl,ru⟩:=dU rv
 cases ru
 obtain⟨its,r,pl,_⟩:=I.list hq
 exact join_list pl.isList (by simpa using jZ r) hz fun t' k=>⟨.str _,H,I.tok _,⟨_,rfl⟩,q⟩
def sR:V->Bool
 |.bl _=>true
 |.non=>true
 |_=>false
def je:V->Bool
 |.bl b=>b
 |_=>false
theorem qx {prog:Program}{w:World}{A:Around}{ys:List V}{its:List Value}(r:Vals ys its)(hb:ys.all sR=true):TruthOf prog w A (fun i v=>its.toArray[i]? =some v) (fun i=>(ys[i]?).elim false je):=by
 intro i v s Q E hv hq
 have hv':its[i]? =some v:=by simpa using hv
 cases e:ys[i]? with
 |none=>
  rw[r.none_of e] at hv'
  cases hv'
 |some y=>
  obtain⟨u,hu,ru⟩:=r.get e
  rw[hu] at hv'
  cases hv'
  have hq':Q ((ys[i]?).elim false je) s:=hq
  rw[e] at hq'
  have hy:=List.all_eq_true.mp hb y (List.mem_of_getElem? e)
  cases y with
  |bl b=>
   cases ru
   exact wpAny_truthy_bool hq'
  |non=>
   cases ru
   exact truthy_none hq'
  |_=>cases hy
theorem mr (ys:List V):(List.range ys.length).any (fun i=>(ys[i]?).elim false je)=ys.any je:=by
 rw[Bool.eq_iff_iff]
 simp only [List.any_eq_true,List.mem_range]
 constructor
 ·rintro⟨i,hi,h⟩
  refine⟨ys[i],List.getElem_mem hi,?_⟩
  simpa [hi] using h
 ·rintro⟨y,hy,h⟩
  obtain⟨i,hi,rfl⟩:=List.getElem_of_mem hy
  exact⟨i,hi,by simpa [hi] using h⟩
theorem jf (hc:X.calm=true):cL X (.builtin "any") (fun xs H Q=>∃ (p:Addr) (ys:List V),xs=[.ref p]/\SqL X.K H p ys/\ys.all sR=true/\Q (.bl (ys.any je)) H):=by
 intro pins s σ H xs us Q I r h
 obtain⟨p,ys,rfl,hq,hb,q⟩:=h
 obtain⟨u,rfl,ru⟩:=dU r
 cases ru
 obtain⟨its,rv,pl,hz⟩:=I.list hq
 have hl:=pl.isList
 obtain⟨o,ho,_⟩:=id hl
 have hlt:p < s.heap.objs.size:=Heap.lt_size ho
 refine call_any_walk (wpAny_pyIter_list hl ?_)
 refine⟨s.heap.objs.size,_,_,_,_,_,_,rfl,Walks.list (A:=X.A.in1) (I.ok.hd hc) s.heap.objs.size p (Nat.ne_of_lt hlt) its.toArray,⟨⟨_,Heap.get?_push_size _ rfl,rfl,rfl⟩,hl.push _⟩,qx rv hb,fun h' tk hk=>?_⟩
 have e:(List.range its.toArray.size).any (fun i=>(ys[i]?).elim false je)=ys.any je:=by
  rw[List.size_toArray,← rv.length]
  exact mr ys
 rw[e]
 refine⟨.bl _,H,I.kept fun b o e=>hk b o ?_ (Heap.get?_push_of_some _ e),rfl,q⟩
 intro hm
 exact absurd (List.mem_singleton.mp hm) (Nat.ne_of_lt (Heap.lt_size e))
end
theorem f_:∀ (l:List Value) (ks:List Int),l.length=ks.length->(∀ (i:Nat) (v:Value),l[i]? =some v->∃ (k:Int) (t:Tok),ks[i]? =some k/\v=.int k t)->IntsAre l ks
 |[],[],_,_=>.nil
 |[],_::_,h,_=>by cases h
 |_::_,[],h,_=>by cases h
 |v::l,k::ks,h,f=>by
  obtain⟨k',t,e1,e2⟩:=f 0 v rfl
  have e1':k=k':=Option.some.inj e1
  subst e1' e2
  exact .cons k t (f_ l ks (by simpa using h) fun i u hu=>f (i+1) u (by simpa using hu))
theorem jg {κ:Type}:∀ {kvs:List (κ×V)} {vs:List (κ×Value)} {i:Nat} {q:κ×Value},KV kvs vs->vs[i]? =some q->∃ p,kvs[i]? =some p/\p.1=q.1/\RelV p.2 q.2
 |_,_,_,_,.nil,e=>by cases e
 |_,_,0,_,.cons r _,e=>by
  have e':=Option.some.inj e
  subst e'
  exact⟨_,rfl,r.1,r.2⟩
 |_,_,i+1,q,.cons _ t,e=>by
  obtain⟨p,h1,h2⟩:=jg (i:=i) (q:=q) t (by simpa using e)
  exact⟨p,by simpa using h1,h2⟩
section
variable {X:Cx}
theorem jh (hc:X.calm=true):cL X (.builtin "sorted") (fun xs H Q=>∃ (p:Addr) (kvs:List (bG×V)) (ks:List Int),xs=[.ref p]/\H p=some (.dK kvs)/\kvs.map (·.1)=ks.map Sum.inl/\ks.length < 64/\
  ∀ (l:Addr) (ns':List Int),H l=none->List.Perm ns' ks->List.Pairwise (·<=·) ns'->Q (.ref l) (upd H l (.lst (List.map V.int ns')))):=by
 intro pins s σ H xs us Q I r h
 obtain⟨p,kvs,ks,rfl,hp,hk,h64,q⟩:=h
 obtain⟨u,rfl,ru⟩:=dU r
 cases ru
 obtain⟨z,hd,vs,rel,dd⟩:kvs.length<=sizeLine/\(p == sysModules)=false/\∃ vs,KV kvs vs/\s.heap.DictOf (br X.prog X.w) p vs:=I.hok p _ hp
 obtain⟨ep,hat⟩:=dd.dictAt
 have hlen:kvs.length=vs.length:=Paired.length rel
 have hkl:ks.length=kvs.length:=by
  have e:=congrArg List.length hk
  rw[List.length_map,List.length_map] at e
  exact e.symm
 refine Calls.call_function_entry kind_sorted plain_sorted entry_sorted (args_sorted1 _) ?_
 unfold Builtin.«sorted»
 refine wpAny_bind (m:=checkCount "sorted" 1 1 _) (wpAny_pure ?_)
 refine wpAny_bind (PySem.W.kdu_collect (A:=X.A.in1) (PySem.W.kdl_dict (knd:=br X.prog X.w) (kvs:=vs) (ep:=ep) hd) (I.ok.hd hc) hat (by omega) fun h' tk acc hkp hacc=>?_)
 have hl:acc.toList.length=vs.length:=by rw[Array.length_toList];exact hacc.1
 have hints:IntsAre acc.toList ks:=by
  refine f_ _ _ (by rw[hl];omega) fun i v hv=>?_
  obtain⟨k,x,hx,hkv⟩:=hacc.2 i v (by rw[← Array.getElem?_toList];exact hv)
  obtain⟨q1,hq1,hq2,_⟩:=jg rel hx
  have e1:(kvs.map (·.1))[i]? =some k:=by rw[List.getElem?_map,hq1];exact congrArg some hq2
  rw[hk,List.getElem?_map] at e1
  cases e2:ks[i]? with
  |none=>rw[e2] at e1;cases e1
  |some n=>
   rw[e2] at e1
   have e3:(Sum.inl n:bG)=k:=Option.some.inj e1
   subst e3
   obtain⟨t,et⟩:=Value.isInt_shape (k:=n) (v:=v) hkv
   exact⟨n,t,rfl,et⟩
 refine wpAny_bind (wpAny_newList ?_ (by rw[hl];omega))
 have I1:Inv X pins σ H {s with heap:=h',toks:=tk}:=I.kept hkp
 have hoL:(h'.push (seqObj "list" acc.toList.toArray 0)).get? h'.objs.size=some (seqObj "list" acc.toList.toArray 0):=Heap.get?_push_size _ rfl
 refine wpAny_bind (wpAny_holding (wpAny_call_entry slot_list_sort ⟨_,hoL,rfl⟩ entry_list_sort (list_sort_tree hoL hints (by omega) fun out ns' a1 a2 a3=>⟨_,rfl,?_⟩) (args_list_sort _)))
 refine wpAny_pure ⟨_,rfl,?_⟩
 have hn:=I1.hok.fresh (a:=h'.objs.size) (Nat.le_refl _)
 obtain⟨e,he⟩:=sortedHeap_at (out:=out) hoL
 have I2:Inv X pins σ (upd H h'.objs.size (.lst (ns'.map V.int))) {s with heap:=sortedHeap (h'.push (seqObj "list" acc.toList.toArray 0)) h'.objs.size acc.toList out,toks:=tk}:=by
  refine I1.laid (t':=tk) (fun b o eb=>?_) (Nat.le_refl _) ?_
  ·have hb:b < h'.objs.size:=Heap.lt_size eb
   rw[sortedHeap_old (Nat.ne_of_lt hb) (by rw[size_push'];exact Nat.lt_succ_of_lt hb)]
   exact Heap.get?_push_of_some _ eb
  ·refine⟨?_,out.toList,e,?_,?_⟩
   ·rw[List.length_map,a2.length_eq]
    exact Nat.le_of_lt (aB (by omega))
   ·exact eY a1
   ·simpa using he
 exact⟨.ref h'.objs.size,_,I2,rfl,q _ ns' hn a2 a3⟩
end
end L2
namespace L2
open PySem PySem.Spec PyProof.Rows
def uF (f:V->Hp->Prop):List V->Hp->Prop
 |[x],H=>f x H
 |_,_=>False
theorem nQ {f:V->Hp->Prop}:∀ {vs:List V} {H:Hp},uF f vs H->∃ x,vs=[x]/\f x H
 |[x],_,h=>⟨x,rfl,h⟩
section
variable {X:Cx}
end
end L2
namespace L2
section
open PySem
variable {X:Cx}{K:PySem.W.Frag}
theorem io (e:X.K=K){tg l:Expr}{tl:TE}(hl:PE X l tl):PI X tg l (ub K tl):=by subst e;exact ci hl
theorem dM (e:X.K=K):IxR X (vY K):=by subst e;exact ak
theorem bE (e:X.K=K):OpR X (compareOp .In) (u8 K false):=by subst e;exact cI
theorem bO (e:X.K=K):OpR X (compareOp .NotIn) (u8 K true):=by subst e;exact bB
theorem mt (e:X.K=K):cL X (.builtin "len") (sE K):=by subst e;exact aE
end
end L2
namespace OD
open PySem L2
def ar (i:Int):Int:=if i < 0 then -i else i
def tT:Int->List Int->Prop
 |_,[]=>True
 |b,l::r=>b < ar l/\tT (ar l) r
def ClOk (n:Int)(ls:List Int):Prop:=tT 0 ls/\∀ l∈ls,ar l<=n
def uG (c:List Int):PyData:=.tuple (c.map .int)
def nR (t:Str)(cs:List (List Int)):PyData:=.tuple [.str t,.list (cs.map uG)]
def WS (t:Str):Prop:=∀ ch∈t.cps.toList,ch=119\/ch=115
structure wl (most:Int)(t:Str)(cs:List (List Int)):Prop where
 len:(t.length:Int)<=most
 ws:WS t
 many:cs.length<=16
 cl:∀ c∈cs,ClOk t.length c
def dP (ps:List (Int×Int)):List (bG×V):=ps.map fun q=>(Sum.inl q.1,V.int q.2)
def gA (ps:List (Int×Int))(k s:Int):List (Int×Int):=if (ps.any fun q=>decide (q.1=k))=true then ps.map (fun q=>if q.1=k then (q.1,s) else q) else ps++[(k,s)]
theorem sS (ps:List (Int×Int))(k:Int):((dP ps).any fun kv=>decide (kv.1=(Sum.inl k:bG)))=ps.any fun q=>decide (q.1=k):=by
 unfold dP
 rw[List.any_map]
 congr 1
 funext q
 show decide ((Sum.inl q.1:bG)=Sum.inl k)=decide (q.1=k)
 by_cases e:q.1=k
 ·rw[decide_eq_true e,decide_eq_true (by rw[e])]
 ·rw[decide_eq_false e,decide_eq_false fun z=>e (Sum.inl.inj z)]
theorem sT (ps:List (Int×Int))(k s:Int):dr (dP ps) (Sum.inl k) (V.int s)=dP (gA ps k s):=by
 unfold dr gA
 rw[sS]
 by_cases h:(ps.any fun q=>decide (q.1=k))=true
 ·rw[if_pos h,if_pos h]
  unfold dP
  rw[List.map_map,List.map_map]
  congr 1
  funext q
  show (if (Sum.inl q.1:bG)=Sum.inl k then ((Sum.inl q.1:bG),V.int s) else (Sum.inl q.1,V.int q.2))=(Sum.inl (if q.1=k then (q.1,s) else q).1,V.int (if q.1=k then (q.1,s) else q).2)
  by_cases e:q.1=k
  ·rw[if_pos (by rw[e]),if_pos e]
  ·rw[if_neg (fun z=>e (Sum.inl.inj z)),if_neg e]
 ·rw[if_neg h,if_neg h]
  unfold dP
  rw[List.map_append]
  rfl
theorem qy (ps:List (Int×Int)):(dP ps).map (·.1)=(ps.map (·.1)).map Sum.inl:=by
 unfold dP
 rw[List.map_map,List.map_map]
 rfl
def dX (ps:List (Int×Int))(k:Int):Option Int:=(ps.find? fun q=>decide (q.1=k)).map (·.2)
theorem sU (ps:List (Int×Int))(k:Int):eX (dP ps) (Sum.inl k:bG)=(dX ps k).map V.int:=by
 induction ps with
 |nil=>rfl
 |cons q r ih=>
  show eX (((Sum.inl q.1:bG),V.int q.2)::dP r) (Sum.inl k)=_
  by_cases e:q.1=k
  ·rw[eA (by rw[e])]
   simp [dX,List.find?_cons,e]
  ·rw[eB (fun z=>e (Sum.inl.inj z)),ih]
   simp [dX,List.find?_cons,e]
structure DOk (n:Int)(ps:List (Int×Int)):Prop where
 nd:(ps.map (·.1)).Nodup
 rng:∀ q∈ps,1<=q.1/\q.1<=n
 sg:∀ q∈ps,q.2=1\/q.2=-1
theorem DOk.nil (n:Int):DOk n []:=⟨List.nodup_nil,(fun _ h=>nomatch h),(fun _ h=>nomatch h)⟩
theorem DOk.put {n k s:Int}{ps:List (Int×Int)}(h:DOk n ps)(h1:1<=k/\k<=n)(hs:s=1\/s=-1):DOk n (gA ps k s)/\(gA ps k s).length<=ps.length+1:=by
 unfold gA
 by_cases a:(ps.any fun q=>decide (q.1=k))=true
 ·rw[if_pos a]
  have e:(ps.map fun q=>if q.1=k then (q.1,s) else q).map (·.1)=ps.map (·.1):=by
   rw[List.map_map]
   congr 1
   funext q
   show (if q.1=k then (q.1,s) else q).1=q.1
   split<;>rfl
  refine⟨⟨by rw[e];exact h.nd,fun q hq=>?_,fun q hq=>?_⟩,by rw[List.length_map];omega⟩
  ·obtain⟨q',hq',rfl⟩:=List.mem_map.mp hq
   split
   ·exact h.rng q' hq'
   ·exact h.rng q' hq'
  ·obtain⟨q',hq',rfl⟩:=List.mem_map.mp hq
   split
   ·exact hs
   ·exact h.sg q' hq'
 ·rw[if_neg a]
  refine⟨⟨?_,fun q hq=>?_,fun q hq=>?_⟩,by rw[List.length_append];exact Nat.le_refl _⟩
  ·rw[List.map_append]
   refine kZ h.nd fun m=>a ?_
   obtain⟨q,hq,e⟩:=List.mem_map.mp m
   exact List.any_eq_true.mpr ⟨q,hq,decide_eq_true e⟩
  ·rcases List.mem_append.mp hq with z|z
   ·exact h.rng q z
   ·rw[List.mem_singleton.mp z]
    exact h1
  ·rcases List.mem_append.mp hq with z|z
   ·exact h.sg q z
   ·rw[List.mem_singleton.mp z]
    exact hs
def sV (ps:List (Int×Int))(k:Int):Int:=(dX ps k).getD 1
theorem DOk.look {n k:Int}{ps:List (Int×Int)}(h:DOk n ps)(hk:k∈ps.map (·.1)):dX ps k=some (sV ps k)/\(sV ps k=1\/sV ps k=-1):=by
 obtain⟨q,hq,e⟩:=List.mem_map.mp hk
 unfold sV dX
 cases f:ps.find? fun q=>decide (q.1=k) with
 |none=>
  have:=List.find?_eq_none.mp f q hq
  exact absurd (decide_eq_true e) this
 |some z=>exact⟨rfl,h.sg z (List.mem_of_find?_eq_some f)⟩
theorem ji {k s:Int}(hk:1<=k)(hs:s=1\/s=-1):ar (k*s)=k:=by
 unfold ar
 rcases hs with rfl|rfl
 ·rw[Int.mul_one,if_neg (by omega)]
 ·rw[if_pos (by omega)]
  omega
theorem nS {f:Int->Int}:∀ (ks:List Int) (b:Int),0<=b->(∀ k∈ks,b < k)->ks.Pairwise (· < ·)->(∀ k∈ks,f k=1\/f k=-1)->tT b (ks.map fun k=>k*f k)
 |[],_,_,_,_,_=>trivial
 |k::r,b,h0,hb,hp,hf=>by
  have hk:=hb k List.mem_cons_self
  have e:=ji (s:=f k) (show 1<=k by omega) (hf k List.mem_cons_self)
  obtain⟨p1,p2⟩:=List.pairwise_cons.mp hp
  show b < ar (k*f k)/\tT (ar (k*f k)) (r.map fun k=>k*f k)
  rw[e]
  exact⟨hk,nS r k (by omega) p1 p2 fun z hz=>hf z (List.mem_cons_of_mem _ hz)⟩
theorem dA:∀ {ks:List Int},ks.Pairwise (·<=·)->ks.Nodup->ks.Pairwise (· < ·)
 |[],_,_=>List.Pairwise.nil
 |k::r,hp,hn=>by
  obtain⟨p1,p2⟩:=List.pairwise_cons.mp hp
  obtain⟨n1,n2⟩:=List.nodup_cons.mp hn
  refine List.pairwise_cons.mpr ⟨fun z hz=>?_,dA p2 n2⟩
  have:=p1 z hz
  have:k≠z:=fun e=>n1 (e▸hz)
  omega
theorem DOk.clause {n:Int}{ps:List (Int×Int)}{ks:List Int}(h:DOk n ps)(hp:ks.Perm (ps.map (·.1)))(hs:ks.Pairwise (·<=·)):ClOk n (ks.map fun k=>k*sV ps k):=by
 have hm:∀ k∈ks,k∈ps.map (·.1):=fun k hk=>hp.mem_iff.mp hk
 have hr:∀ k∈ks,1<=k/\k<=n:=fun k hk=>by
  obtain⟨q,hq,e⟩:=List.mem_map.mp (hm k hk)
  rw[← e]
  exact h.rng q hq
 refine⟨nS ks 0 (Int.le_refl 0) (fun k hk=>by have:=(hr k hk).1;omega) (dA hs (hp.nodup_iff.mpr h.nd)) fun k hk=>(h.look (hm k hk)).2,fun l hl=>?_⟩
 obtain⟨k,hk,rfl⟩:=List.mem_map.mp hl
 rw[ji (hr k hk).1 (h.look (hm k hk)).2]
 exact (hr k hk).2
theorem cU {ns:List Int}{i:Nat}{x:V}(h:(ns.map V.int)[i]? =some x):∃ z,x=.int z/\ns[i]? =some z:=by
 rw[List.getElem?_map] at h
 cases e:ns[i]? with
 |none=>rw[e] at h;cases h
 |some z=>
  rw[e] at h
  exact⟨z,(Option.some.inj h).symm,rfl⟩
theorem nT (ns:List Int)(lo hi:Option Int):∃ ms:List Int,cf (ns.map V.int) lo hi=ms.map V.int/\ms.length<=ns.length:=by
 unfold cf
 rw[List.length_map]
 refine⟨(ns.drop (HT.sIx ns.length 0 lo)).take (HT.sIx ns.length ns.length hi - HT.sIx ns.length 0 lo),?_,?_⟩
 ·rw[← List.map_drop,← List.map_take]
 ·rw[List.length_take,List.length_drop]
  omega
end OD
namespace OD
open PySem L2
theorem lc (a b:Str):(a++b).cps.toList=a.cps.toList++b.cps.toList:=by
 show (a.cps++b.cps).toList=_
 simp
theorem jj {e:Str}(he:e.cps.toList=[]):∀ ss:List Str,(Str.join e ss).cps.toList=(ss.map fun s=>s.cps.toList).flatten
 |[]=>rfl
 |[x]=>by
  show x.cps.toList=_
  simp
 |x::y::r=>by
  show ((x++e)++Str.join e (y::r)).cps.toList=_
  rw[lc,lc,he,jj he (y::r)]
  simp
def gb (s:Str):Prop:=s=⟨#[119]⟩\/s=⟨#[115]⟩
theorem ge:∀ {ss:List Str},(∀ s∈ss,gb s)->(ss.map fun s=>s.cps.toList).flatten.length=ss.length/\∀ ch∈(ss.map fun s=>s.cps.toList).flatten,ch=119\/ch=115
 |[],_=>⟨rfl,fun _ h=>nomatch h⟩
 |s::r,h=>by
  obtain⟨h1,h2⟩:=ge (ss:=r) fun z hz=>h z (List.mem_cons_of_mem _ hz)
  rw[List.map_cons,List.flatten_cons]
  rcases h s List.mem_cons_self with rfl|rfl
  ·refine⟨by rw[List.length_append,h1];show 1+r.length=r.length+1;omega,fun ch hc=>?_⟩
   rcases List.mem_append.mp hc with z|z
   ·exact .inl (by simpa using z)
   ·exact h2 ch z
  ·refine⟨by rw[List.length_append,h1];show 1+r.length=r.length+1;omega,fun ch hc=>?_⟩
   rcases List.mem_append.mp hc with z|z
   ·exact .inr (by simpa using z)
   ·exact h2 ch z
theorem uH:(Str.ofString "").cps.toList=[]:=by decide+kernel
theorem nU {ss:List Str}(h:∀ s∈ss,gb s):(Txt.join "" ss).length=ss.length/\WS (Txt.join "" ss):=by
 have e:Txt.join (Str.ofString "") ss=Str.join (Str.ofString "") ss:=eq_of_beq (PyProof.Rows.join_plain_closes _ ss)
 obtain⟨h1,h2⟩:=ge h
 have e2:=jj uH ss
 refine⟨?_,?_⟩
 ·rw[e]
  show (Str.join (Str.ofString "") ss).cps.size=_
  rw[← Array.length_toList,e2]
  exact h1
 ·intro ch hc
  rw[e,e2] at hc
  exact h2 ch hc
theorem gP:∀ {ss:List Str},(∀ s∈ss,gb s)->(ss.map fun s=>s.length).sum=ss.length
 |[],_=>rfl
 |s::r,h=>by
  rw[List.map_cons,List.sum_cons,gP fun z hz=>h z (List.mem_cons_of_mem _ hz),List.length_cons]
  rcases h s List.mem_cons_self with rfl|rfl
  ·show 1+_=_;omega
  ·show 1+_=_;omega
theorem uI {j:Int}(h0:0<=j)(h1:j < 2):∃ c,ig (Str.ofString "ws").cps.toList j=some c/\gb ⟨#[c]⟩:=by
 rcases (by omega:j=0\/j=1) with rfl|rfl
 ·exact⟨119,by decide+kernel,.inl rfl⟩
 ·exact⟨115,by decide+kernel,.inr rfl⟩
def CL (H:Hp)(c:List Int)(v:V):Prop:=∃ t,v=.ref t/\H t=some (.tup (c.map V.int))
def CLs (H:Hp):List (List Int)->List V->Prop:=Paired (CL H)
theorem CL.mono {H H':Hp}{c:List Int}{v:V}(h:CL H c v)(k:Same H H'):CL H' c v:=let ⟨t,e,z⟩:=h;⟨t,e,k _ _ z⟩
theorem CL.upd {H:Hp}{c:List Int}{v:V}{q:Addr}{xs:List V}{o:HO}(h:CL H c v)(hq:H q=some (.lst xs)):CL (upd H q o) c v:=by
 obtain⟨t,e,z⟩:=h
 exact⟨t,e,by rw[ay (re z hq (by intro w;cases w))];exact z⟩
theorem CLs.mono {H H':Hp}(k:Same H H'):∀ {cs:List (List Int)} {xs:List V},CLs H cs xs->CLs H' cs xs
 |_,_,.nil=>.nil
 |_,_,.cons h t=>.cons (h.mono k) (CLs.mono k t)
theorem CLs.upd {H:Hp}{q:Addr}{ys:List V}{o:HO}(hq:H q=some (.lst ys)):∀ {cs:List (List Int)} {xs:List V},CLs H cs xs->CLs (upd H q o) cs xs
 |_,_,.nil=>.nil
 |_,_,.cons h t=>.cons (h.upd hq) (CLs.upd hq t)
theorem CLs.snoc {H:Hp}{c:List Int}{v:V}(h:CL H c v){cs:List (List Int)}{xs:List V}(t:CLs H cs xs):CLs H (cs++[c]) (xs++[v]):=Paired.snoc t h
theorem CLs.length {H:Hp}{cs:List (List Int)}{xs:List V}(h:CLs H cs xs):cs.length=xs.length:=Paired.length h
theorem CLs.get {H:Hp}:∀ {cs:List (List Int)} {xs:List V} {j:Nat} {v:V},CLs H cs xs->xs[j]? =some v->∃ c,cs[j]? =some c/\CL H c v
 |_,_,_,_,.nil,e=>by cases e
 |_,_,0,_,.cons h _,e=>⟨_,rfl,by have e':=Option.some.inj e;subst e';exact h⟩
 |_,_,j+1,v,.cons _ t,e=>by
  obtain⟨c,h1,h2⟩:=CLs.get (j:=j) (v:=v) t (by simpa using e)
  exact⟨c,by simpa using h1,h2⟩
theorem CL.rd {H:Hp}{c:List Int}{v:V}(h:CL H c v):RD H (uG c) v:=by
 obtain⟨t,rfl,z⟩:=h
 exact c6 z (i_ c)
theorem CLs.rds {H:Hp}:∀ {cs:List (List Int)} {xs:List V},CLs H cs xs->d_ H (cs.map uG) xs
 |_,_,.nil=>ck
 |_,_,.cons h t=>bd h.rd (CLs.rds t)
theorem CL.of {H:Hp}{c:List Int}{v:V}(h:RD H (uG c) v):CL H c v:=by
 obtain⟨a,xs,rfl,h1,h2⟩:=aU h
 refine⟨a,rfl,?_⟩
 rw[h1]
 have:∀ (ns:List Int) (xs:List V),d_ H (ns.map PyData.int) xs->xs=ns.map V.int:=by
  intro ns
  induction ns with
  |nil=>intro xs r;exact bC r
  |cons n r ih=>
   intro xs z
   obtain⟨y,ys,rfl,e,t⟩:=aQ z
   have e':y=.int n:=by
    unfold RD at e
    exact e
   rw[e',ih ys t]
   rfl
 rw[this c xs h2]
theorem CLs.of {H:Hp}:∀ {cs:List (List Int)} {xs:List V},d_ H (cs.map uG) xs->CLs H cs xs
 |[],xs,h=>by
  rw[bC h]
  exact .nil
 |c::cs,xs,h=>by
  obtain⟨y,ys,rfl,h1,h2⟩:=aQ h
  exact .cons (CL.of h1) (CLs.of h2)
theorem qz {H:Hp}{p q:Addr}{t:Str}{cs:List (List Int)}{xs:List V}(hp:H p=some (.tup [.str t,.ref q]))(hq:H q=some (.lst xs))(h:CLs H cs xs):RD H (nR t cs) (.ref p):=
 c6 hp (bd (dw t) (bd (cw hq h.rds) ck))
theorem nV {H:Hp}{v:V}{t:Str}{cs:List (List Int)}(h:RD H (nR t cs) v):∃ p q xs,v=.ref p/\H p=some (.tup [.str t,.ref q])/\H q=some (.lst xs)/\CLs H cs xs:=by
 obtain⟨p,ys,rfl,h1,h2⟩:=aU h
 obtain⟨y,zs,rfl,h3,h4⟩:=aQ h2
 obtain⟨z,ws,rfl,h5,h6⟩:=aQ h4
 have h7:=bC h6
 subst h7
 obtain⟨q,xs,rfl,h8,h9⟩:=cO h5
 have e:y=.str t:=by
  unfold RD at h3
  exact h3
 subst e
 exact⟨p,q,xs,rfl,h1,h8,CLs.of h9⟩
theorem gQ {d:PyData}(h1:d.canLay0=true)(h2:d.depth<=64):SeqAt.shaped d=true:=by
 unfold SeqAt.shaped
 rw[h1,decide_eq_true h2]
 rfl
mutual
theorem jk:∀ d:PyData,d.canLay0=true->PyData.eqv d d=true
 |.none,_=>rfl
 |.bool b,_=>by simp [PyData.eqv]
 |.int i,_=>by simp [PyData.eqv]
 |.str x,_=>by simp [PyData.eqv]
 |.list ds,h=>by
  show PyData.eqvAll ds ds=true
  exact dB ds h
 |.tuple ds,h=>by
  show PyData.eqvAll ds ds=true
  exact dB ds h
 |.dict _,h=>by cases h
theorem dB:∀ ds:List PyData,PyData.canLayAll0 ds=true->PyData.eqvAll ds ds=true
 |[],_=>rfl
 |d::r,h=>by
  have h':d.canLay0=true/\PyData.canLayAll0 r=true:=by simpa [PyData.canLayAll0] using h
  show (PyData.eqv d d&&PyData.eqvAll r r)=true
  rw[jk d h'.1,dB r h'.2]
  rfl
end
abbrev vF:R2:=fun x y H Q=>vx x y H Q\/sM x y H Q
end OD
namespace OD
open PySem L2
theorem lg:∀ {c:List Int} {b:Int},0<=b->tT b c->∀ l∈c,1<=ar l
 |[],_,_,_,_,h=>nomatch h
 |x::r,b,hb,h,l,hl=>by
  have h1:=h.1
  rcases List.mem_cons.mp hl with rfl|hl
  ·omega
  ·exact lg (b:=ar x) (by omega) h.2 l hl
theorem ClOk.pos {n:Int}{c:List Int}(h:ClOk n c):∀ l∈c,1<=ar l:=lg (Int.le_refl 0) h.1
def c8 (l:Int)(c:List Int):Option (List Int):=if c.contains l=true then none else some (c.filter fun o=>!decide (o=-l))
def bS (l:Int)(cs:List (List Int)):List (List Int):=cs.filterMap (c8 l)
theorem gf {α:Type}{f g:α->Bool}:∀ {xs:List α},(∀ x∈xs,f x=g x)->xs.any f=xs.any g
 |[],_=>rfl
 |x::r,h=>by
  rw[List.any_cons,List.any_cons,h x List.mem_cons_self,gf fun z hz=>h z (List.mem_cons_of_mem _ hz)]
theorem ip (c:List Int)(l:Int):c.any (fun x=>decide (x=l))=c.contains l:=by
 rw[Bool.eq_iff_iff,List.any_eq_true,List.contains_iff_mem]
 constructor
 ·rintro⟨x,hx,e⟩
  exact of_decide_eq_true e▸hx
 ·intro h
  exact⟨l,h,decide_eq_true rfl⟩
theorem bi (c:List Int)(l:Int):cy (.int l) (c.map V.int)=c.contains l:=by
 unfold cy
 rw[List.any_map,← ip]
 refine gf fun x _=>?_
 show (x == l)=decide (x=l)
 rw[Bool.eq_iff_iff,decide_eq_true_iff]
 exact beq_iff_eq
section
variable {K:PySem.W.Frag}{a D:Addr}{xs:List V}{tt:TT}{te:TE}{σ0:St}{H1:Hp}{Q:VK}
theorem bP (rest:St)(p:V->Bool)(f:V->V)(e0:σ0=none::rest)(ha:H1 a=some (.tup xs))(hD:H1 D=none)(hlen:xs.length<=900)
  (ht:∀ x∈xs,∀ (H':Hp) (R:Bool->Hp->Prop),Same H1 H'->R (p x) H'->tt (some x::rest) H' R)
  (he:∀ x∈xs,p x=true->∀ (H':Hp) (R:VK),Same H1 H'->R (f x) H'->te (some x::rest) H' R)
  (hq:Q (.ref D) (upd H1 D (.lst ((xs.filter p).map f)))):gO (su K a) D (eg 0) tt te σ0 H1 Q:=by
 have na:a≠D:=am ha hD
 refine jd (K:=K) (a:=a) (xs:=xs) (fun i σ ys H2=>(∃ v0,σ=v0::rest)/\ys=((xs.take i).filter p).map f/\H2=upd H1 D (.lst ys)) ⟨⟨none,e0⟩,rfl,rfl⟩ ?_ ?_ ?_
 ·rintro i σ ys H2 _ ⟨_,_,rfl⟩
  exact⟨ad,SqT.of (by rw[ay na];exact ha)⟩
 ·rintro i x σ ys H2 hx ⟨⟨v0,rfl⟩,hys,rfl⟩
  have hm:=List.mem_of_getElem? hx
  have e:xs.take (i+1)=xs.take i++[x]:=by rw[List.take_add_one,hx];rfl
  refine ht x hm _ _ (ae hD _) ?_
  cases hp:p x with
  |true=>
   refine aK (he x hm hp _ _ (ae hD _) ⟨ad,?_,⟨_,rfl⟩,?_,fA⟩)
   ·have:ys.length<=xs.length:=by
     rw[hys,List.length_map]
     exact Nat.le_trans (List.length_filter_le _ _) (by rw[List.length_take];omega)
    exact aB (by omega)
   ·rw[e,List.filter_append,List.map_append,← hys]
    simp [hp]
  |false=>
   refine ax ⟨⟨_,rfl⟩,?_,rfl⟩
   rw[e,List.filter_append,List.map_append,← hys]
   simp [hp]
 ·rintro σ ys H2 ⟨_,hys,rfl⟩
  rw[List.take_of_length_le (Nat.le_refl _)] at hys
  rw[hys]
  exact hq
theorem cb (rest:St)(p:V->Bool)(f:V->V)(e0:σ0=none::rest)(ha:H1 a=some (.lst xs))(hD:H1 D=none)(hlen:xs.length<=900)
  (ht:∀ x∈xs,∀ (H':Hp) (R:Bool->Hp->Prop),Same H1 H'->R (p x) H'->tt (some x::rest) H' R)
  (he:∀ x∈xs,p x=true->∀ (H':Hp) (R:VK),Same H1 H'->R (f x) H'->te (some x::rest) H' R)
  (hq:Q (.ref D) (upd H1 D (.lst ((xs.filter p).map f)))):gO (sr K a) D (eg 0) tt te σ0 H1 Q:=by
 have na:a≠D:=am ha hD
 refine cr (K:=K) (a:=a) (xs:=xs) (fun i σ ys H2=>(∃ v0,σ=v0::rest)/\ys=((xs.take i).filter p).map f/\H2=upd H1 D (.lst ys)) ⟨⟨none,e0⟩,rfl,rfl⟩ ?_ ?_ ?_
 ·rintro i σ ys H2 _ ⟨_,_,rfl⟩
  exact⟨ad,SqL.of (by rw[ay na];exact ha)⟩
 ·rintro i x σ ys H2 hx ⟨⟨v0,rfl⟩,hys,rfl⟩
  have hm:=List.mem_of_getElem? hx
  have e:xs.take (i+1)=xs.take i++[x]:=by rw[List.take_add_one,hx];rfl
  refine ht x hm _ _ (ae hD _) ?_
  cases hp:p x with
  |true=>
   refine aK (he x hm hp _ _ (ae hD _) ⟨ad,?_,⟨_,rfl⟩,?_,fA⟩)
   ·have:ys.length<=xs.length:=by
     rw[hys,List.length_map]
     exact Nat.le_trans (List.length_filter_le _ _) (by rw[List.length_take];omega)
    exact aB (by omega)
   ·rw[e,List.filter_append,List.map_append,← hys]
    simp [hp]
  |false=>
   refine ax ⟨⟨_,rfl⟩,?_,rfl⟩
   rw[e,List.filter_append,List.map_append,← hys]
   simp [hp]
 ·rintro σ ys H2 ⟨_,hys,rfl⟩
  rw[List.take_of_length_le (Nat.le_refl _)] at hys
  rw[hys]
  exact hq
end
theorem bV (c:List Int)(p:Int->Bool)(q:V->Bool)(h:∀ i,q (.int i)=p i):((c.map V.int).filter q).map (fun x=>x)=(c.filter p).map V.int:=by
 rw[List.map_id']
 rw[List.filter_map]
 refine congrArg _ (List.filter_congr fun x _=>h x)
theorem cm {c:List Int}{x:V}(h:x∈c.map V.int):∃ z∈c,x=.int z:=by
 obtain⟨z,hz,e⟩:=List.mem_map.mp h
 exact⟨z,hz,e.symm⟩
end OD
namespace OD
open PySem L2
theorem sW {d:PyData}(h:SeqAt.shaped d=true):d.canLay0=true:=by
 unfold SeqAt.shaped at h
 rw[Bool.and_eq_true] at h
 exact h.1
theorem eD {d:PyData}{x y:V}{H:Hp}{Q:VK}(hx:RD H d x)(hy:RD H d y)(hs:SeqAt.shaped d=true)(q:Q (.bl false) H):vF x y H Q:=
 .inr ⟨d,d,hx,hy,hs,hs,by rw[jk d (sW hs)];exact q⟩
theorem tU {x y:V}{A B:Prop}(h:x=y)(b:B):if (!decide (x=y))=true then A else B:=by
 rw[decide_eq_true h]
 exact ax b
theorem cF {H:Hp}:∀ bs:List Bool,d_ H (bs.map PyData.bool) (bs.map V.bl)
 |[]=>ck
 |b::r=>bd (k_ b) (cF r)
theorem gg:∀ bs:List Bool,PyData.canLayAll0 (bs.map PyData.bool)=true
 |[]=>rfl
 |b::r=>by
  show (true&&PyData.canLayAll0 (r.map PyData.bool))=true
  rw[gg r]
  rfl
theorem gR:∀ bs:List Bool,PyData.depthAll (bs.map PyData.bool)=0
 |[]=>rfl
 |b::r=>by
  show max 0 (PyData.depthAll (r.map PyData.bool))=0
  rw[gR r]
  rfl
theorem c9 (bs:List Bool):SeqAt.shaped (.list (bs.map PyData.bool))=true:=by
 refine gQ (gg bs) ?_
 show PyData.depthAll (bs.map PyData.bool)+1<=64
 rw[gR]
 omega
theorem tV:cT "tuple" "tuple"=some true:=by decide+kernel
def mv (p:Int->Bool):V->Bool
 |.int z=>p z
 |_=>false
def uJ (f:Int->V):V->V
 |.int z=>f z
 |x=>x
end OD
namespace L2
open PySem PySem.Spec PyProof.Rows
section
variable {X:Cx}
def cx (mg:Str->Option Value)(x:Str)(v:V):Prop:=∃ u,mg x=some u/\RelV v u
theorem aI {x:Str}{v:V}{pos:Pos}(hg:Gl X x)(hm:cx X.mg x v)(hd:(x == ("__debug__":Str))=false:=by decide):PE X (.Name x pos) (tC v):=by
 obtain⟨u,h1,h2⟩:=hm
 exact pX hg h1 h2 hd
end
end L2
namespace OD
open PySem L2
def cK (t:Str)(i:Nat):Bool:=decide (t.cps.toList[i]? =some 119)
def bx (b:Bool):Str:=if b=true then Str.ofString "wisher" else Str.ofString "spoiler"
theorem jl:Str.ofString "wisher"≠Str.ofString "spoiler":=by decide+kernel
theorem mw {a b:Bool}(h:bx a=bx b):a=b:=by
 cases a<;>cases b
 ·rfl
 ·exact absurd h.symm jl
 ·exact absurd h jl
 ·rfl
theorem eE (a b:Bool):decide (V.str (bx a)=V.str (bx b))=decide (a=b):=by
 refine decide_eq_decide.mpr ⟨fun h=>mw (V.str.inj h),fun h=>by rw[h]⟩
theorem d6 (l:Int):(0<=l/\ar l=l)\/(l < 0/\ar l=-l):=by
 unfold ar
 by_cases h:l < 0
 ·exact .inr ⟨h,if_pos h⟩
 ·exact .inl ⟨by omega,if_neg h⟩
theorem rA {ch:Nat}:decide (V.str ⟨#[ch]⟩=V.str (Str.ofString "w"))=decide (ch=119):=by
 have e:Str.ofString "w"=⟨#[119]⟩:=by decide+kernel
 rw[e]
 refine decide_eq_decide.mpr ⟨fun h=>?_,fun h=>by rw[h]⟩
 have:=V.str.inj h
 injection this with h1
 have h2:=congrArg Array.toList h1
 simpa using h2
theorem nW {t:Str}{i:Nat}{ch:Nat}(h:t.cps.toList[i]? =some ch):cK t i=decide (ch=119):=by
 unfold cK
 rw[h]
 exact decide_eq_decide.mpr ⟨fun z=>Option.some.inj z,fun z=>congrArg _ z⟩
end OD
namespace L2
open PySem PySem.Spec PyProof.Rows
section
variable {X:Cx}{tg:Expr}
end
end L2
namespace OD
open PySem L2
end OD
namespace OD
open PySem L2
end OD
namespace OD
open PySem L2
section
variable {K:PySem.W.Frag}{a D:Addr}{xs:List V}{tt:TT}{te:TE}{σ0:St}{H1:Hp}{Q:VK}
end
theorem c_ {i:Nat}{v:V}{σ:St}{H:Hp}{Q:St->Hp->Prop}(h:Q (σ.set i (some v)) H):eg i v σ H Q:=h
end OD
namespace L2
open PySem PySem.Spec PyProof.Rows
structure Flies (P:Program)(w:World)(outer:List Env)(H:Hp)(s:Shared)(H':Hp)(B:Heap)(ea:Addr)(cls a0:Value)(s':Shared):Prop where
 os:s'.os=s.os
 bare:AllBare s'.gens
 fly:Heap.FlyingW B outer ea cls a0 s'.heap
 hok:HOk P w H' B
 keep:∀ b o,s.heap.get? b=some o->H b=none->b∉dR outer->B.get? b=some o
 thr:∀ b o,s.heap.get? b=some o->b∉dR outer->∃ o',B.get? b=some o'
 slot:∀ b o,s.heap.get? b=some o->H b=none->b∈dR outer->∃ sl,s'.heap.get? b=some {o with slots:=sl}
 free:∀ b o,s.heap.get? b=some o->H b=none->H' b=none
 tups:∀ b xs,H b=some (.tup xs)->H' b=some (.tup xs)
 frzs:∀ b o u,H b=some (.frz o u)->H' b=some (.frz o u)
 tbls:∀ b ps,H b=some (.tbl ps)->∃ more,H' b=some (.tbl (ps++more))
def gv (P:Program)(w:World):mf:=fun outer H s E e s'=>∃ (H':Hp) (B:Heap) (ea:Addr) (cls a0:Value),e=.ref ea/\Flies P w outer H s H' B ea cls a0 s'/\E cls none H'
section
variable {P:Program}{w:World}{outer:List Env}{H H':Hp}{s s':Shared}{B h':Heap}{ea:Addr}{cls a0:Value}
theorem Flies.slotted (f:Flies P w outer H s H' B ea cls a0 s')(up:s'.heap.UpToSlots h'){b:Addr}{o:Obj}(e:s.heap.get? b=some o)(n:H b=none)(hb:b∈dR outer):∃ sl,h'.get? b=some {o with slots:=sl}:=by
 obtain⟨sl,e1⟩:=f.slot b o e n hb
 obtain⟨_,o1,e2,nf⟩:=f.fly.2.2.1.mem (b:=b) hb
 rw[e1] at e2
 cases e2
 obtain⟨sl',e3⟩:=up b _ e1 nf
 exact⟨sl',e3⟩
theorem Flies.un (f:Flies P w outer H s H' B ea cls a0 s')(st:B.StaysIn h')(up:s'.heap.UpToSlots h')(frf:∀ b∈dR outer,H b=none):Un (dR outer) [] H H' s.heap h' where
 keep:=fun b o e n hb _=>st b o (f.keep b o e n hb)
 slot:=fun b o e n hb _=>f.slotted up e n hb
 free:=fun b o e n _=>f.free b o e n
 there:=fun b o e _=>by
  by_cases hb:b∈dR outer
  ·obtain⟨sl,q⟩:=f.slotted up e (frf b hb) hb
   exact⟨_,q⟩
  ·obtain⟨o',q⟩:=f.thr b o e hb
   exact⟨o',st b o' q⟩
 tups:=f.tups
 frzs:=f.frzs
 tbls:=f.tbls
end
theorem ObjOk.some {P:Program}{w:World}{H:Hp}{h:Heap}{a:Addr}{o:HO}(x:ObjOk P w H h a o):∃ u,h.get? a=Option.some u:=by
 cases o with
 |lst xs=>obtain⟨_,_,_,_,e⟩:=x;exact⟨_,e⟩
 |tup xs=>obtain⟨_,_,_,ob,e,_⟩:=x;exact⟨_,e⟩
 |dK kvs=>obtain⟨_,_,_,_,o,_,_,e,_⟩:=x;exact⟨_,e⟩
 |dT kvs=>obtain⟨_,_,_,_,o,_,_,e,_⟩:=x;exact⟨_,e⟩
 |set S n=>obtain⟨o,_,_,_,e,_⟩:=x;exact⟨_,e⟩
 |ins C dx fs=>obtain⟨_,_,_,e,_⟩:=x;exact⟨_,e⟩
 |own y=>obtain⟨_,e⟩:=x;exact⟨_,e⟩
 |xd fs=>obtain⟨_,⟨_,_,_,e,_⟩,_⟩:=x;exact⟨_,e⟩
 |rng lo hi=>obtain⟨_,_,_,e⟩:=x;exact⟨_,e⟩
 |frz ob u=>obtain⟨e,_⟩:=x;exact⟨_,e⟩
 |tbl ps=>exact⟨_,x⟩
 |met f y=>exact⟨_,x⟩
 |ext φ=>obtain⟨_,e,_⟩:=x;exact e
theorem HOk.hid {P:Program}{w:World}{H:Hp}{h:Heap}{l:List Addr}(x:HOk P w H h)(n:∀ b∈l,H b=none):HOk P w H (PySem.W.hideAll h l):=fun a o e=>
 (x a o e).stay (fun b u hb q=>PySem.W.hideAll_get _ q fun hm=>by
  rcases hb with rfl|hb
  ·rw[n b hm] at e;cases e
  ·rw[n b hm] at hb;cases hb) (fun _ q=>q) fun _ _ q=>q
section
variable {P:Program}{w:World}{K:PySem.W.Frag}{mg:Str->Option Value}{base:Heap}{N:List Str}{qual:Str}{scope:Scope}{f:Addr}{cd:Value}{A:Around}{outer:List Env}{s:Shared}{H:Hp}{E:XK}
theorem uK:eW (gv P w) (cQ (gv P w) P w K mg base N qual scope f cd A outer s H E) E:=by
 intro pins σ H1 s1 e s2 I h
 obtain⟨H',B,ea,cls,a0,rfl,fl,hE⟩:=h
 have hlt:∀ b o,s.heap.get? b=some o->b∉dR outer->b∉dR (envOfC qual scope s.heap.objs.size f cd::outer):=fun b o e hb hm=>by
  rcases List.mem_filterMap.mp hm with⟨env,he,hf⟩
  rcases List.mem_cons.mp he with rfl|he
  ·have:s.heap.objs.size=b:=Option.some.inj hf
   exact absurd (Heap.lt_size e) (by rw[this];exact Nat.lt_irrefl b)
  ·exact hb (List.mem_filterMap.mpr ⟨env,he,hf⟩)
 have hsub:∀ b,b∈dR outer->b∈dR (envOfC qual scope s.heap.objs.size f cd::outer):=fun b hb=>by
  rcases List.mem_filterMap.mp hb with⟨env,he,hf⟩
  exact List.mem_filterMap.mpr ⟨env,List.mem_cons_of_mem _ he,hf⟩
 show wpAny (model P w) _ (leaving (envOfC qual scope s.heap.objs.size f cd) (.ref ea)) _ _ s2
 refine wpAny_leaves_onW (base:=B) (cls:=cls) (a0:=a0) (outer:=outer) (L:=s.heap.objs.size) I.ok.frames rfl fl.fly fun h' fly' up=>⟨H',B,ea,cls,a0,rfl,⟨?_,fl.bare,fly',fl.hok,fun b o e n hb=>?_,fun b o e hb=>?_,fun b o e n hb=>?_,fun b o e n=>?_,fun b xs e=>?_,fun b o u e=>?_,fun b ps e=>?_⟩,hE⟩
 ·exact fl.os.trans I.os
 ·exact fl.keep b o (I.base.keep b o e n hb (by intro z;cases z)) (I.base.free b o e n (by intro z;cases z)) (hlt b o e hb)
 ·obtain⟨o1,e1⟩:=I.base.there b o e (by intro z;cases z)
  exact fl.thr b o1 e1 (hlt b o e hb)
 ·obtain⟨sl,e1⟩:=I.base.slot b o e n hb (by intro z;cases z)
  obtain⟨sl2,e2⟩:=fl.slotted up e1 (I.base.free b o e n (by intro z;cases z)) (hsub b hb)
  exact⟨sl2,e2⟩
 ·obtain⟨o1,e1⟩:=I.base.there b o e (by intro z;cases z)
  exact fl.free b o1 e1 (I.base.free b o e n (by intro z;cases z))
 ·exact fl.tups b xs (I.base.tups b xs e)
 ·exact fl.frzs b o u (I.base.frzs b o u e)
 ·obtain⟨m1,e1⟩:=I.base.tbls b ps e
  obtain⟨m2,e2⟩:=fl.tbls b _ e1
  exact⟨m1++m2,by rw[e2,Array.append_assoc]⟩
theorem uL {pins:List (Addr×Obj)}{σ:St}{H1:Hp}{s1:Shared}{h2:Heap}{ea:Addr}{cls:Value}{vs:List Value}(I:Inv (cQ (gv P w) P w K mg base N qual scope f cd A outer s H E) pins σ H1 s1)(hx:Heap.MadeExcOf s1.heap h2 ea cls vs)(hE:E cls none H1):
  (cQ (gv P w) P w K mg base N qual scope f cd A outer s H E).xe (.ref ea) {s1 with heap:=h2}:=by
 have hlt:∀ b o,s.heap.get? b=some o->b∉dR outer->b∉dR (envOfC qual scope s.heap.objs.size f cd::outer):=fun b o e hb hm=>by
  rcases List.mem_filterMap.mp hm with⟨env,he,hf⟩
  rcases List.mem_cons.mp he with rfl|he
  ·have:s.heap.objs.size=b:=Option.some.inj hf
   exact absurd (Heap.lt_size e) (by rw[this];exact Nat.lt_irrefl b)
  ·exact hb (List.mem_filterMap.mpr ⟨env,he,hf⟩)
 have hsub:∀ b,b∈dR outer->b∈dR (envOfC qual scope s.heap.objs.size f cd::outer):=fun b hb=>by
  rcases List.mem_filterMap.mp hb with⟨env,he,hf⟩
  exact List.mem_filterMap.mpr ⟨env,List.mem_cons_of_mem _ he,hf⟩
 have hst:s1.heap.FunFrames base (envOfC qual scope s.heap.objs.size f cd::outer):=I.stack
 have hfr:∀ b∈dR (envOfC qual scope s.heap.objs.size f cd::outer),H1 b=none:=I.stkFree
 have hin:∀ env∈(envOfC qual scope s.heap.objs.size f cd::outer),∀ b,env.frame=some b->b∈dR (envOfC qual scope s.heap.objs.size f cd::outer):=fun env he b hb=>List.mem_filterMap.mpr ⟨env,he,hb⟩
 have hff:=PySem.W.funFrames_hide hst hin
 show wpAny (model P w) _ (leaving (envOfC qual scope s.heap.objs.size f cd) (.ref ea)) _ _ {s1 with heap:=h2}
 refine wpAny_leaves_madeW (base:=PySem.W.hideAll s1.heap (dR (envOfC qual scope s.heap.objs.size f cd::outer))) (h:=s1.heap) (outer:=outer) (L:=s.heap.objs.size) I.ok.frames rfl (fun b o q=>PySem.W.of_hideAll _ q) hff hx fun h' t fly tup bt up=>⟨H1,_,ea,cls,_,rfl,⟨?_,I.bare,fly,I.hok.hid hfr,fun b o e n hb=>?_,fun b o e hb=>?_,fun b o e n hb=>?_,fun b o e n=>?_,fun b xs e=>?_,fun b o u e=>?_,fun b ps e=>?_⟩,hE⟩
 ·exact I.os
 ·exact PySem.W.hideAll_get _ (I.base.keep b o e n hb (by intro z;cases z)) (hlt b o e hb)
 ·obtain⟨o1,e1⟩:=I.base.there b o e (by intro z;cases z)
  exact⟨o1,PySem.W.hideAll_get _ e1 (hlt b o e hb)⟩
 ·obtain⟨sl,e1⟩:=I.base.slot b o e n hb (by intro z;cases z)
  obtain⟨_,o1,e2,nf⟩:=hst.mem (b:=b) (hsub b hb)
  rw[e1] at e2
  cases e2
  obtain⟨sl',e3⟩:=up b _ (hx.keeps b _ e1) nf
  exact⟨sl',e3⟩
 ·exact I.base.free b o e n (by intro z;cases z)
 ·exact I.base.tups b xs e
 ·exact I.base.frzs b o u e
 ·exact I.base.tbls b ps e
end
theorem Fun.okX {P:Program}{w:World}{K:PySem.W.Frag}{mg:Str->Option Value}{base:Heap}{x qual:Str}{st:Stmt}{f:Addr}{fd:FuncData}{N ps:List Str}{k:Nat}{sp:Sp}(F:Fun K x qual st f fd)(S:aF N ps (ap st))(len:∀ vs H Q E,sp vs H Q E->vs.length=ps.length)
  (hbody:∀ (cdv:Value) (A:Around) (outer:List Env) (s:Shared) (H:Hp) (vs:List V) (Q:VK) (E:XK),Room k (A.deeper (envOfC qual (ap st) s.heap.objs.size f cdv))->sp vs H Q E->
   ∃ t,PSs (cQ (gv P w) P w K mg base N qual (ap st) f cdv A outer s H E) (b9 st) t/\t {nx:=fun _ H'=>Q .non H',rt:=Q} (er N vs) H):FnOk P w K mg base (gv P w) (k+1) f fd ps sp:=by
 obtain⟨oc,od,kV,doc,pm,an,cdv,ct,osl,rfl,lk,hcd⟩:=F.ex
 refine rn lk hcd S len fun A outer s H vs Q E hr hsp=>?_
 obtain⟨t,h,q⟩:=hbody cdv A outer s H vs Q E hr hsp
 exact⟨t,h,q⟩
end L2
namespace L2
open PySem PySem.Spec PyProof.Rows
def sX (h:Heap)(C:Addr)(bmB:List Value)(newId:String):Prop:=
 ∃ (bm:List Value) (N:Addr) (nm q:Str) (bs:List Value) (hdct:Bool) (sn:List Str) (sub:List Value) (ab:Bool) (col:Option Bool) (dd:Option Addr) (k0 k1 k2 k3 k5:Option Value) (mN:Str->Option Value),
  h.get? C=some (excClassObj nm q C N bs bm hdct sn sub ab col dd k0 k1 k2 k3 k5 newId)/\h.Ns N mN/\mN "__init__"=none/\OwnTail h bmB bm
theorem lh {K:PySem.W.Frag}{h:Heap}{C:Addr}{bmB:List Value}{newId:String}(X:K.In h)(q:PySem.W.excIn K C bmB newId=true):sX h C bmB newId:=by
 unfold PySem.W.excIn at q
 split at q
 case h_2=>cases q
 case h_1 dd cd sl ho=>
  split at q
  case h_2=>cases q
  case h_1 C' bm k0 k1 k2 k3 n k5 hm hs=>
   rw[Bool.and_eq_true,Bool.and_eq_true,Bool.and_eq_true,Bool.and_eq_true,Bool.and_eq_true] at q
   obtain⟨⟨⟨⟨⟨q1,q2⟩,q3⟩,q4⟩,q5⟩,q6⟩:=q
   have e1:C'=C:=beq_iff_eq.mp q1
   have e2:n=newId:=beq_iff_eq.mp q2
   have e6:=beq_iff_eq.mp q6
   subst e1 e2
   obtain⟨nm,bs,mro,ns,qn,hd,sn,sub,ab,col,del⟩:=cd
   have em:mro=.ref C'::bm:=hm
   have ed:del=false:=by simpa using q3
   have es:sl=#[k0,k1,k2,k3,some (.builtin n),k5]:=Array.toList_inj.mp hs
   subst em ed es
   exact⟨bm,ns,nm,qn,bs,hd,sn,sub,ab,col,dd,k0,k1,k2,k3,k5,_,X _ _ ho,.of_isNs (PySem.W.isNs_of_in X q5),PySem.W.nsMap_none_of_in X q5 e6,PySem.W.tail_of_in X q4⟩
def sY (C:Addr)(E:XK)(t:TA):TS:=fun _ σ H=>t σ H fun vs H1=>vs.length<=sizeLine/\E (.ref C) none H1
section
variable {P:Program}{w:World}{K:PySem.W.Frag}{mg:Str->Option Value}{base:Heap}{N:List Str}{qual:Str}{scope:Scope}{f:Addr}{cd:Value}{A:Around}{outer:List Env}{s:Shared}{H:Hp}{E:XK}
theorem nX {x:Str}{C:Addr}{B newId initId:String}{bmB:List Value}{e:Expr}{es:List Expr}{t:TA}{np cpos pos:Pos}(q:PySem.W.excIn K C bmB newId=true)(FB:ExcBaseFacts B newId initId bmB)(hm:mg x=some (.ref C))
  (hg:Gl (cQ (gv P w) P w K mg base N qual scope f cd A outer s H E) x) (ha:PA (cQ (gv P w) P w K mg base N qual scope f cd A outer s H E) (e::es) t) (hd:(x == ("__debug__":Str))=false:=by decide)
  (he:starEach (e::es) (envOfC qual scope s.heap.objs.size f cd)=(false,eval e (envOfC qual scope s.heap.objs.size f cd))::starEach es (envOfC qual scope s.heap.objs.size f cd):=by rfl)
  (hpl:(backTo cpos (starEach (e::es) (envOfC qual scope s.heap.objs.size f cd))).any (·.1)=false:=by rfl):
  PS (cQ (gv P w) P w K mg base N qual scope f cd A outer s H E) (.Raise (some (.Call (.Name x np) (e::es) [] cpos)) none pos) (sY C E t):=by
 intro pins s1 σ H1 D I h
 obtain⟨bm,N',nm,q',bs,hdct,sn,sub,ab,col,dd,k0,k1,k2,k3,k5,mN,h1,h2,h3,h4⟩:=lh I.mod.kin q
 refine wpAny_Raise_call_subT (C:=C) (nm:=nm) (q:=q') (N:=N') (bs:=bs) (bm:=bm) (hdct:=hdct) (sn:=sn) (sub:=sub) (ab:=ab) (col:=col) (dd:=dd) (k0:=k0) (k1:=k1) (k2:=k2) (k3:=k3) (k5:=k5) (mN:=mN) FB (h4.hasType FB.hasBase) (I.ok.hd rfl) hpl h3 (dL I hg hm ⟨rfl,?_⟩ hd)
 show wpAny _ _ (evalArgs (.ref C) true (backTo cpos (starEach (e::es) (envOfC qual scope s.heap.objs.size f cd))) []) _ _ s1
 rw[he]
 have hsp:=ha cpos pins s1 σ H1 _ I h
 have hsp':wpAny (model P w) _ (spliced (backTo cpos (starEach (e::es) (envOfC qual scope s.heap.objs.size f cd)))) _ _ s1:=hsp
 rw[he] at hsp'
 refine Calls.evalArgs_plain (wpAny_mono hsp' (fun us s2 hz=>?_) fun _ _ z=>z)
 obtain⟨vs,H2,I2,r,z,hE⟩:=hz
 refine⟨rfl,?_,I2.bk _ _ h1,h2.keeps I2.bk,h4.keeps I2.bk,fun h' ea hx=>uL I2 hx hE⟩
 show us.length<=sizeLine
 rw[← r.length]
 exact z
end
def jm (ea C:Addr):HO:=.ext fun h=>∃ (o:Obj) (vs:Array Value),h.get? ea=some o/\o.cls=.ref C/\o.data=.fields vs
abbrev XQ:=Value->St->Hp->Prop
def XP (X:Cx)(pins:List (Addr×Obj))(EX:XQ)(e:Value)(s':Shared):Prop:=
 ∃ (σ1:St) (H1:Hp) (s1:Shared) (H':Hp) (B:Heap) (ea:Addr) (cls a0:Value),e=.ref ea/\Inv X pins σ1 H1 s1/\Flies X.prog X.w X.stack H1 s1 H' B ea cls a0 s'/\EX cls σ1 H'
abbrev u_:=XQ->TE
abbrev sZ:=XQ->TS
def vG (X:Cx)(e:Expr)(t:u_):Prop:=
 ∀ (pins:List (Addr×Obj)) (s:Shared) (σ:St) (H:Hp) (Q:VK) (EX:XQ),Inv X pins σ H s->t EX σ H Q->wpAny (model X.prog X.w) X.A (eval e X.env) (EP X pins σ Q) (XP X pins EX) s
def uM (X:Cx)(st:List Stmt)(t:sZ):Prop:=
 ∀ (pins:List (Addr×Obj)) (s:Shared) (σ:St) (H:Hp) (D:gw) (EX:XQ),Inv X pins σ H s->t EX D σ H->wpAny (model X.prog X.w) X.A (execs st X.env) (SP X pins D) (XP X pins EX) s
def nY (sp:Sp)(t:TA):u_:=fun EX σ H Q=>t σ H fun vs H1=>sp vs H1 Q fun cls _ H'=>EX cls σ H'
def s_ (t:u_):sZ:=fun EX D σ H=>t EX σ H fun _ H1=>D.nx σ H1
section
variable {X:Cx}{k:Nat}{f:Addr}{fd:FuncData}{ps:List Str}{sp:Sp}{x:Str}{p pos:Pos}{e:Expr}{es:List Expr}{t:TA}
theorem nZ (hno:∀ e s,X.xe e s->False)(F:FnOk X.prog X.w X.K X.mg X.base (gv X.prog X.w) k f fd ps sp)(hr:Room k X.A)(hg:Gl X x)(hm:X.mg x=some (.ref f))(hk:PySem.W.keepIn X.K (.ref f)=true)(hb:Binds X.K fd ps [])
  (ha:PA X (e::es) t) (hdb:(x == ("__debug__":Str))=false:=by decide) (he:starEach (e::es) X.env=(false,eval e X.env)::starEach es X.env:=by rfl) (hpl:(backTo pos (starEach es X.env)).any (·.1)=false:=by rfl):
  vG X (.Call (.Name x p) (e::es) [] pos) (nY sp t):=by
 intro pins s σ H Q EX I h
 refine wpAny_Call_Name_kw (dL I hg hm ?_ hdb)
 refine PySem.W.callWith_K (h₀:=X.base) I.ok.mod.kin hk (wpAny_mono (ha pos pins s σ H _ I h) (fun us s1 ⟨vs,H1,I1,r,q⟩=>⟨I1.kIn,?_⟩) fun e' s' z=>(hno e' s' z).elim) he hpl
 have hl:us.length=ps.length:=by rw[← r.length];exact F.len _ _ _ _ q
 have hbs:=hb s1 us I1.kIn (by rw[List.append_nil];exact hl)
 rw[List.append_nil] at hbs
 refine wpAny_call (codeAny_mono (F.run X.A X.stack s1 H1 ⟨us,[]⟩ us vs Q (fun cls _ H'=>EX cls σ H') hr I1.env0 hbs r q) fun res s' hq=>?_)
 cases res with
 |error e'=>
  obtain⟨H',B,ea,cls,a0,rfl,fl,hE⟩:=hq
  exact⟨σ,H1,s1,H',B,ea,cls,a0,rfl,I1,fl,hE⟩
 |ok fl=>
  cases fl with
  |ret u=>exact I1.after hq
  |next=>exact False.elim hq
  |brk=>exact False.elim hq
  |cont=>exact False.elim hq
theorem eF {te:u_}(he:vG X e te)(hs:swapsWith e none pos.line X.env=pure false:=by rfl):uM X [.Expr e pos] (s_ te):=by
 intro pins s σ H D EX I h
 refine wpAny_execs_cons (wpAny_Expr_any (wpAny_mono (he pins s σ H _ EX I h) (fun v s1 ⟨x,H1,I1,r1,q1⟩=>?_) fun _ _ z=>z) I.quiet hs)
 exact wpAny_execs_nil ⟨σ,H1,I1,q1⟩
end
abbrev Cx.inExc (X:Cx)(ea:Addr)(E:Value->Shared->Prop):Cx:={X with A:=X.A.mark (some (.ref ea)),calm:=false,xe:=E}
section
variable {X:Cx}{pins:List (Addr×Obj)}{σ:St}{H:Hp}{s:Shared}{ea:Addr}{E:Value->Shared->Prop}
theorem Inv.inExc (I:Inv X pins σ H s)(ea:Addr)(E:Value->Shared->Prop):Inv (X.inExc ea E) pins σ H s:=
 ⟨⟨I.ok.mod,I.ok.kind,I.ok.glob,I.ok.blt,I.ok.above,I.ok.inj,I.ok.has,I.ok.cab,(fun z=>(Bool.false_ne_true z).elim),I.ok.frames,I.ok.stk,I.ok.exf,I.ok.bs,I.ok.bsz,I.ok.noex,I.ok.exfs,I.ok.funs,I.ok.frf⟩,I.os,I.bare,I.base,I.loc,I.cell,I.free,I.freeC,I.pin,I.hok,I.len⟩
theorem Inv.outExc (hd:X.A.handled=none)(I:Inv (X.inExc ea E) pins σ H s):Inv X pins σ H s:=
 ⟨⟨I.ok.mod,I.ok.kind,I.ok.glob,I.ok.blt,I.ok.above,I.ok.inj,I.ok.has,I.ok.cab,fun _=>hd,I.ok.frames,I.ok.stk,I.ok.exf,I.ok.bs,I.ok.bsz,I.ok.noex,I.ok.exfs,I.ok.funs,I.ok.frf⟩,I.os,I.bare,I.base,I.loc,I.cell,I.free,I.freeC,I.pin,I.hok,I.len⟩
theorem fE {M:Model}{A:Around}{i:Nat}{n:Str}{pos:Pos}{Q:Unit->Shared->Prop}(I:Inv X pins σ H s)(hN:X.N.Nodup)(hi:X.N[i]? =some n) (hk:X.env.scope.names.lookup n=some .local)
  (h:∀ s',Inv X pins (σ.set i none) H s'->Q () s'):wpAny M A (do bindName X.env n .none;unbindBehindTheSuite X.env n pos) Q E s:=by
 obtain⟨m,hn,hl⟩:=id I.loc
 have hiσ:i < σ.length:=by rw[I.len];exact (List.getElem?_eq_some_iff.mp hi).1
 have hcls:(X.env.scope.kind == .class || (X.env.scope.kind == .module&&X.env.locals != X.env.globals))=false:=by rw[I.ok.kind];rfl
 obtain⟨oL,_,_,hoL,_⟩:=id hn
 refine wpAny_nameGoes_keeps hk hn hcls fun h' v hn' hs=>?_
 have nL:∀ b o,X.s₀.heap.get? b=some o->b≠X.env.locals:=fun b o e=>Nat.ne_of_lt (Nat.lt_of_lt_of_le (Heap.lt_size e) I.ok.above)
 refine h _ ⟨I.ok,I.os,I.bare,⟨fun b o e n hb hx=>(hs.2 b (nL b o e)).trans (I.base.keep b o e n hb hx),fun b o e n hb hx=>?_,I.base.free,fun b o e hx=>?_,I.base.tups,I.base.frzs,I.base.tbls⟩,⟨_,hn',fun j y v' e1 e2 e3=>?_⟩,fun y c e=>?_,I.free,I.freeC,fun p hp=>?_,fun b ob e=>?_,by simpa using I.len⟩
 ·obtain⟨sl,e1⟩:=I.base.slot b o e n hb hx
  exact⟨sl,(hs.2 b (nL b o e)).trans e1⟩
 ·obtain⟨o',e1⟩:=I.base.there b o e hx
  exact⟨o',(hs.2 b (nL b o e)).trans e1⟩
 ·by_cases hj:j=i
  ·subst hj
   rw[List.getElem?_set_self hiσ] at e2
   cases e2
  ·rw[List.getElem?_set_ne (Ne.symm hj)] at e2
   obtain⟨u',r',q⟩:=hl j y v' e1 e2 e3
   refine⟨u',r',?_⟩
   rcases q with⟨kk,e⟩|⟨kk,c,e,z⟩
   ·refine .inl ⟨kk,?_⟩
    have:y≠n:=fun e=>hj (fM hN e1 (e▸hi))
    simp [this,e]
   ·exact .inr ⟨kk,c,e,z.sameBut hs (I.cne y c e)⟩
 ·obtain⟨w',z⟩:=I.cell y c e
  exact⟨w',z.sameBut hs (I.cne y c e)⟩
 ·obtain⟨e,n,ne,nf,d⟩:=I.pin p hp
  exact⟨(hs.2 p.1 ne).trans e,n,ne,nf,d⟩
 ·refine (I.hok b ob e).stay (fun c w' hc q=>(hs.2 c ?_).trans q) (fun _ q=>q) fun _ _ q=>q
  rintro rfl
  rcases hc with rfl|hc
  ·rw[I.free] at e;cases e
  ·rw[I.free] at hc;cases hc
end
section
variable {P:Program}{w:World}{outer:List Env}{H H':Hp}{s s':Shared}{B h':Heap}{ea C:Addr}{a0:Value}
theorem Flies.away (f:Flies P w outer H s H' B ea (.ref C) a0 s'){b:Addr}{o:Obj}(e:s.heap.get? b=some o):b≠ea:=by
 rintro rfl
 by_cases hb:b∈dR outer
 ·obtain⟨_,o1,e2,nf⟩:=f.fly.2.2.1.mem (b:=b) hb
  obtain⟨oe,vs,e3,_,hd,_⟩:=f.fly.first
  rw[e2] at e3
  cases e3
  exact nf vs hd
 ·obtain⟨o',q⟩:=f.thr b o e hb
  rw[f.fly.2.1] at q
  cases q
theorem Flies.fresh (f:Flies P w outer H s H' B ea (.ref C) a0 s'):H' ea=none:=by
 cases q:H' ea with
 |none=>rfl
 |some u=>
  have hx:=f.hok ea u q
  have:∃ o,B.get? ea=some o:=ObjOk.some hx
  obtain⟨o,e⟩:=this
  rw[f.fly.2.1] at e
  cases e
theorem Flies.unX (f:Flies P w outer H s H' B ea (.ref C) a0 s')(st:B.StaysIn h')(up:s'.heap.UpToSlots h')(frf:∀ b∈dR outer,H b=none):Un (dR outer) [] H (upd H' ea (jm ea C)) s.heap h':=by
 have u:=f.un st up frf
 have fr:=f.fresh
 refine⟨u.keep,u.slot,fun b o e n hx=>?_,u.there,fun b xs e=>?_,fun b o v e=>?_,fun b ps e=>?_⟩
 ·rw[ay (f.away e)]
  exact u.free b o e n hx
 ·have z:=u.tups b xs e
  rw[ay (am z fr)]
  exact z
 ·have z:=u.frzs b o v e
  rw[ay (am z fr)]
  exact z
 ·obtain⟨more,z⟩:=u.tbls b ps e
  exact⟨more,by rw[ay (am z fr)];exact z⟩
theorem Flies.hokX (f:Flies P w outer H s H' B ea (.ref C) a0 s')(fl:Heap.FlyingW B outer ea (.ref C) a0 h'):HOk P w (upd H' ea (jm ea C)) h':=fun b u q=>by
 have fr:=f.fresh
 by_cases hb:b=ea
 ·subst hb
  rw[ad] at q
  cases q
  obtain⟨oe,vs,e1,e2,e3,_⟩:=fl.first
  exact⟨⟨oe,vs,e1,e2,e3⟩,⟨oe,e1⟩,fun h1 h2 ⟨o,vs,z1,z2,z3⟩ k=>⟨o,vs,k o z1,z2,z3⟩⟩
 ·rw[ay hb] at q
  exact (f.hok b u q).stay (fun c v _ z=>fl.1 c v z) (fun c z=>by rw[ay (am z fr)];exact z) fun c xs z=>by rw[ay (am z fr)];exact z
end
def vH (C:Addr)(i:Nat)(tb:sZ)(ts:TS):TS:=fun D σ H=>
 tb (fun cls σ1 H'=>cls=.ref C/\∀ ea,H' ea=none->ts {nx:=fun σ2 H2=>D.nx (σ2.set i none) H2,rt:=D.rt,bk:=fun σ2 H2=>D.bk (σ2.set i none) H2,ct:=fun σ2 H2=>D.ct (σ2.set i none) H2} (σ1.set i (some (.ref ea))) (upd H' ea (jm ea C))) D σ H
section
variable {X:Cx}
end
end L2
namespace L2
open PySem PySem.Spec PyProof.Rows
structure tX (P:Program)(w:World)(K:PySem.W.Frag)(mg:Str->Option Value)(base:Heap)(k:Nat)(x:Str)(f:Addr)(fd:FuncData)(ps:List Str)(sp:Sp):Prop where
 ok:FnOk P w K mg base (gv P w) k f fd ps sp
 b:Binds K fd ps []
 kp:PySem.W.keepIn K (.ref f)=true
 at_:mg x=some (.ref f)
section
variable {X:Cx}{j k:Nat}{f:Addr}{fd:FuncData}{ps:List Str}{sp:Sp}{x:Str}{p pos:Pos}{e:Expr}{es:List Expr}{t:TA}
theorem iq (G:tX X.prog X.w X.K X.mg X.base j x f fd ps sp)(hno:∀ e s,X.xe e s->False)(hr:Room k X.A)(hjk:j<=k)(hg:Gl X x)(ha:PA X (e::es) t)(hdb:(x == ("__debug__":Str))=false:=by decide)
  (he:starEach (e::es) X.env=(false,eval e X.env)::starEach es X.env:=by rfl) (hpl:(backTo pos (starEach es X.env)).any (·.1)=false:=by rfl):vG X (.Call (.Name x p) (e::es) [] pos) (nY sp t):=
 nZ hno G.ok (hr.mono hjk) hg G.at_ G.kp G.b ha hdb he hpl
end
section
variable {P:Program}{w:World}{K:PySem.W.Frag}{mg:Str->Option Value}{base:Heap}{N:List Str}{qual:Str}{scope:Scope}{f:Addr}{cd:Value}{A:Around}{outer:List Env}{s:Shared}{H:Hp}{E:XK}
theorem tf {j k:Nat}{f':Addr}{fd:FuncData}{ps:List Str}{sp:Sp}{x:Str}{p pos:Pos}{e:Expr}{es:List Expr}{t:TA}(G:tX P w K mg base j x f' fd ps sp)(hr:Room k (cQ (gv P w) P w K mg base N qual scope f cd A outer s H E).A)(hjk:j<=k)
  (hg:Gl (cQ (gv P w) P w K mg base N qual scope f cd A outer s H E) x) (ha:PA (cQ (gv P w) P w K mg base N qual scope f cd A outer s H E) (e::es) t) (hdb:(x == ("__debug__":Str))=false:=by decide)
  (he:starEach (e::es) (cQ (gv P w) P w K mg base N qual scope f cd A outer s H E).env=(false,eval e (cQ (gv P w) P w K mg base N qual scope f cd A outer s H E).env)::starEach es (cQ (gv P w) P w K mg base N qual scope f cd A outer s H E).env:=by rfl)
  (hpl:(backTo pos (starEach es (cQ (gv P w) P w K mg base N qual scope f cd A outer s H E).env)).any (·.1)=false:=by rfl):
  PE (cQ (gv P w) P w K mg base N qual scope f cd A outer s H E) (.Call (.Name x p) (e::es) [] pos) (nw sp [] E t):=
 kX G.ok (hr.mono hjk) hg G.at_ G.kp G.b .nil uK ha hdb he hpl
end
structure dC (K:PySem.W.Frag)(C:Addr):Prop where
 cls:∃ cd,PySem.W.clsIn K C=some cd
 ga:PySem.W.findIn K (.ref C) "__getattribute__"=some (some (.builtin "BaseException.__getattribute__"))
 gt:PySem.W.findIn K (.ref C) "__getattr__"=some none
 at_:PySem.W.findIn K (.ref C) "__class__"=some (some (.builtin "object.__class__"))
 ob:PySem.W.mroIn K C (.type "object")=some true
 be:PySem.W.mroIn K C (.type "BaseException")=some true
section
variable {prog:Program}{w:World}{A:Around}{E:Value->Shared->Prop}{h:Heap}{g:Array GenState}{d:Drawn}{t:Nat}{os:OsState}{a C:Addr}{o:Obj}{vs:Array Value}{K:PySem.W.Frag}
theorem n_ {M:Model}(hx:h.get? a=some o)(hc:o.cls=.ref C):PySem.W.Looks M h (typeOf (.ref a)) (.ref C):=by
 rw[← hc]
 exact (PySem.W.Looks.ld hx).andThen .now
theorem j0 {R:Result->Shared->Prop}(X:K.In h)(T:dC K C)(hx:h.get? a=some o)(hc:o.cls=.ref C)(hq:R (.ok (.ret (.ref C))) ⟨h,g,d,t,os⟩):
  codeAny (model prog w) A (.call (.builtin "getset_descriptor.__get__") ⟨[.builtin "object.__class__",.ref a,.ref C],[]⟩) R ⟨h,g,d,t,os⟩:=by
 have hT5:(⟨h,g,d,t,os⟩:Shared).TypeIs (.builtin "object.__class__") "getset_descriptor":=F.typeOf_object_class
 have L1:=PySem.W.looks_mroIn (M:=model prog w) X T.ob
 refine codeAny_call_builtin F.slot_gs_get.plain F.entry_gs_get (F.slot_gs_get.check _ _ _ _ _ _ _ _ hT5 (F.args_gs_get _ _ _) ?_)
 repeat (any_goals (first|assumption|(with_reducible refine wpAny_loadPart_at hx ?_;rw[hc])|(rw[F.owner_object_class];with_reducible refine L1.at ?_)|wp_step))
 refine⟨Code.quiet_builtin _ (by decide+kernel),codeAny_builtin F.entry_object_class ?_⟩
 repeat (any_goals (first|assumption|(with_reducible refine wpAny_loadPart_at hx ?_;rw[hc])|wp_step))
theorem ir {tk:Tok}{Q:Fin->Shared->Prop}(X:K.In h)(T:dC K C)(hx:h.get? a=some o)(hc:o.cls=.ref C)(hq:Q (.done (.ret (.ref C))) ⟨h,g,d,t,os⟩):
  wpAny (model prog w) A (Builtin.«object.__getattribute__» ⟨[.ref a,.str "__class__" tk],[]⟩) Q E ⟨h,g,d,t,os⟩:=by
 have hT5:(⟨h,g,d,t,os⟩:Shared).TypeIs (.builtin "object.__class__") "getset_descriptor":=F.typeOf_object_class
 have f5:=F.typeOf_object_class
 have f6:=F.slot_gs_get.lookup
 have f7:=F.slot_gs_set.lookup
 have L1:=PySem.W.looks_findIn (M:=model prog w) X T.at_
 repeat (any_goals (first|assumption|(with_reducible refine wpAny_loadPart_at hx ?_;rw[hc])|with_reducible refine L1.at ?_|wp_step))
 refine j0 X T hx hc ?_
 repeat (any_goals (first|assumption|wp_step))
theorem mx {M:Model}{nameV:Value}{Q:Unit->Shared->Prop}(X:K.In h)(T:dC K C)(hx:h.get? a=some o)(hc:o.cls=.ref C)(hq:Q () ⟨h,g,d,t,os⟩):
  wpAny M A (checkBuiltinCall "BaseException.__getattribute__" ⟨[.ref a,nameV],[]⟩) Q E ⟨h,g,d,t,os⟩:=by
 have f1:builtinKind "BaseException.__getattribute__"=some .slot:=by decide+kernel
 have f2:splitId "BaseException.__getattribute__"=some ("BaseException","__getattribute__"):=by decide+kernel
 have f3:=F.args_bexc_ga (.ref a) nameV
 have L1:=PySem.W.looks_mroIn (M:=M) X T.be
 simp only [checkBuiltinCall,f1,f2]
 refine wpAny_bind ?_
 unfold isInstance
 repeat (first|(with_reducible refine wpAny_loadPart_at hx ?_;rw[hc])|with_reducible refine L1.at ?_|wp_step)
 exact hq
theorem my {tk:Tok}{Q:Value->Shared->Prop}(X:K.In h)(T:dC K C)(hx:h.get? a=some o)(hc:o.cls=.ref C)(hq:Q (.ref C) ⟨h,g,d,t,os⟩):
  wpAny (model prog w) A (getAttrBy (.ref a) (.str "__class__" tk) false) Q E ⟨h,g,d,t,os⟩:=by
 have f3:=PySem.F.attr_ValueError.ga.bind (.ref a)
 have hx2:(Value.builtin "BaseException.__getattribute__" == Value.builtin "object.__getattribute__")=false:=by decide+kernel
 have hx1:(onTheHeap (Value.ref C)&&Value.builtin "BaseException.__getattribute__" == Value.builtin "object.__getattribute__")=false:=by rw[hx2];rfl
 have L1:=PySem.W.looks_findIn (M:=model prog w) X T.ga
 have L2:=PySem.W.looks_findIn (M:=model prog w) X T.gt
 repeat (any_goals (first|assumption|(with_reducible refine wpAny_loadPart_at hx ?_;rw[hc])|with_reducible refine L1.at ?_|with_reducible refine L2.at ?_|wp_step))
 refine codeAny_call_builtin PySem.F.attr_ValueError.ga.plain F.entry_bexc_ga (mx X T hx hc (ir X T hx hc ?_))
 repeat (any_goals (first|assumption|wp_step))
theorem jn {Q:Option Value->Shared->Prop}(X:K.In h)(T:dC K C)(hx:h.get? a=some o)(hc:o.cls=.ref C)(hq:Q (some (.ref C)) ⟨h,g,d,t+1,os⟩):
  wpAny (model prog w) A (getAttr? (.ref a) "__class__") Q E ⟨h,g,d,t,os⟩:=by
 unfold getAttr? getAttrBy?
 repeat (any_goals (first|assumption|with_reducible apply my X T hx hc|wp_step))
theorem oa (T:dC K C):PySem.W.KitX K (.ref a) (.ref C) (fun h=>∃ o,h.get? a=some o/\o.cls=.ref C) where
 ty:=fun M h _ ⟨o,h1,h2⟩=>n_ h1 h2
 it:=fun _ _ X _=>by
  obtain⟨_,q⟩:=T.cls
  unfold PySem.W.clsIn at q
  split at q
  ·rename_i ho
   intro A' Q' E' s' k z
   unfold isType loadHead
   exact wpAny_bind (wpAny_loadPart (k _ _ (X _ _ ho)) (wpAny_pure z))
  ·cases q
 ne:=fun h tp dd its n sl X htp=>by
  refine Bool.eq_false_iff.mpr fun z=>?_
  have e:C=tp:=Value.ref.inj (beq_iff_eq.mp z)
  subst e
  obtain⟨_,q⟩:=T.cls
  unfold PySem.W.clsIn at q
  split at q
  ·rename_i ho
   have y:=(X _ _ ho).symm.trans htp
   cases y
  ·cases q
 ca:=fun {_ _ _ _ _ s} X ⟨o,h1,h2⟩ k=>by
  obtain⟨hh,g,d,t,os⟩:=s
  exact jn X T h1 h2 k
end
def vI (K:PySem.W.Frag):List V->Hp->VK->Prop:=fun xs H Q=>∃ (ea C:Addr) (cv:V) (c:Value) (b:Bool),xs=[.ref ea,cv]/\(match cv with|.ref a=>c=.ref a|.ty n=>c=.type n|_=>False)/\H ea=some (jm ea C)/\dC K C/\PySem.W.kitOne K (.ref C) c=some b/\Q (.bl b) H
section
variable {X:Cx}
theorem aG:cL X (.builtin "isinstance") (vI X.K):=by
 intro pins s σ H xs us Q I r h
 obtain⟨ea,C,cv,c,b,rfl,hc,he,T,e,q⟩:=h
 obtain⟨u,w',rfl,rx,ry⟩:=rj r
 cases (show u=Value.ref ea from rx)
 have hw:w'=c:=by
  cases cv with
  |ref a=>exact (show w'=Value.ref a from ry).trans (show c=Value.ref a from hc).symm
  |ty n=>exact (show w'=Value.type n from ry).trans (show c=Value.type n from hc).symm
  |_=>exact hc.elim
 subst hw
 obtain⟨⟨o,vs,h1,h2,_⟩,_⟩:=(show ObjOk X.prog X.w H s.heap ea (jm ea C) from I.hok ea _ he)
 exact PySem.W.kia_one (oa T) I.kIn ⟨o,h1,h2⟩ e (fun z=>nomatch z) fun tk=>⟨.bl b,H,I.tok _,rfl,q⟩
end
theorem jo (K:PySem.W.Frag)(C:Addr):PySem.W.kitOne K (.ref C) (.ref C)=some true:=by
 unfold PySem.W.kitOne
 rw[if_pos (by simp)]
end L2
namespace OD
open PySem L2
end OD
namespace Srt
open PySem PySem.W PyProof.Rows
section
variable (key:Nat->Int)
variable {key}
end
end Srt
namespace Srt
open PySem PySem.W PyProof.Rows
end Srt
namespace Srt
open PySem PySem.W PySem.Spec PyProof.Rows
section
variable {prog:Program}{w:World}{A:Around}{E:Value->Shared->Prop}{s:Shared}
end
end Srt
namespace L2
open PySem PySem.Spec PyProof.Rows
section
variable {X:Cx}
end
end L2
namespace L2
open PySem PySem.Spec PyProof.Rows
section
variable {X:Cx}
end
end L2
namespace OD
open PySem L2
theorem bW {α β:Type}{F:α->β->Prop}:∀ {xs:List α} {us:List β} (n:Nat),Paired F xs us->Paired F (xs.take n) (us.take n)
 |_,_,0,_=>.nil
 |_,_,_+1,.nil=>.nil
 |_,_,n+1,.cons h t=>.cons h (bW n t)
theorem bX {α β:Type}{F:α->β->Prop}:∀ {xs:List α} {us:List β} (n:Nat),Paired F xs us->Paired F (xs.drop n) (us.drop n)
 |_,_,0,h=>h
 |_,_,_+1,.nil=>.nil
 |_,_,n+1,.cons _ t=>bX n t
theorem bI {α β:Type}{F:α->β->Prop}:∀ {xs ys:List α} {us ws:List β},Paired F xs us->Paired F ys ws->Paired F (xs++ys) (us++ws)
 |_,_,_,_,.nil,h=>h
 |_,_,_,_,.cons h t,g=>.cons h (bI t g)
theorem fc (xs:List V)(k:Nat):cf xs none (some (k:Int))=xs.take k:=by
 unfold cf
 rw[HT.sIx_nat]
 show (xs.drop 0).take (min k xs.length - 0)=_
 rw[List.drop_zero,Nat.sub_zero]
 by_cases h:k<=xs.length
 ·rw[Nat.min_eq_left h]
 ·rw[Nat.min_eq_right (by omega),List.take_of_length_le (Nat.le_refl _),List.take_of_length_le (by omega)]
theorem cV (xs:List V)(k:Nat):cf xs (some (k:Int)) none=xs.drop k:=by
 unfold cf
 rw[HT.sIx_nat]
 show (xs.drop (min k xs.length)).take (xs.length - min k xs.length)=_
 by_cases h:k<=xs.length
 ·rw[Nat.min_eq_left h,List.take_of_length_le (by rw[List.length_drop];omega)]
 ·rw[Nat.min_eq_right (by omega),List.drop_of_length_le (Nat.le_refl _),List.drop_of_length_le (by omega),List.take_nil]
theorem uN (b:Bool):decide (V.str (bx b)=V.str (Str.ofString "wisher"))=b:=by
 have z:=eE b true
 have z2:bx true=Str.ofString "wisher":=rfl
 rw[z2] at z
 rw[z]
 cases b<;>rfl
end OD
namespace L2
open PySem PySem.Spec PyProof.Rows
section
variable {X:Cx}{tg:Expr}
end
end L2
namespace OD
open PySem L2
theorem dN {d:PyData}(h:∀ z,d≠.int z):(fW d&&!im d)=false:=by
 cases d with
 |int z=>exact absurd rfl (h z)
 |_=>rfl
theorem iu (d:PyData):(∃ z,d=.int z)\/∀ z,d≠.int z:=by
 cases d with
 |int z=>exact .inl ⟨z,rfl⟩
 |_=>exact .inr (fun z h=>by cases h)
theorem aV {H:Hp}{z:Int}{v:V}(h:RD H (.int z) v):v=.int z:=by
 unfold RD at h
 exact h
theorem de {H:Hp}{z:Str}{v:V}(h:RD H (.str z) v):v=.str z:=by
 unfold RD at h
 exact h
section
variable {D:Addr}{tt:TT}{te:TE}{σ0:St}{H1:Hp}{Q:VK}
end
end OD
namespace OD
open PySem L2
def Nice (n:Nat)(d:PyData):Prop:=d.canLay0=true/\d.depth<=n
theorem dE (n:Nat){x:Str}(h:PyData.strOk x=true):Nice n (.str x):=⟨h,Nat.zero_le _⟩
theorem Nice.shaped {d:PyData}(h:Nice 8 d):SeqAt.shaped d=true:=gQ h.1 (Nat.le_trans h.2 (by decide))
end OD
namespace TB
open PySem PySem.SetTable
end TB
namespace TB
open PySem PySem.SetTable
end TB
namespace TB
open PySem PySem.SetTable
end TB
namespace SW
open PySem PySem.SetTable TB
section
variable {prog:Program}{w:World}{A:Around}{E:Value->Shared->Prop}{s:Shared}
end
end SW
namespace SW
open PySem PySem.SetTable TB
section
variable {prog:Program}{w:World}{A:Around}{E:Value->Shared->Prop}{s:Shared}
end
end SW
namespace SW
open PySem PySem.SetTable TB
namespace Two
variable {α β:Type}{R:α->β->Prop}
end Two
section
variable {prog:Program}{w:World}{A:Around}{E:Value->Shared->Prop}{s:Shared}
end
end SW
namespace SW
open PySem PySem.SetTable TB
section
variable {prog:Program}{w:World}{A:Around}{E:Value->Shared->Prop}{s:Shared}
end
end SW
namespace SW
open PySem PySem.SetTable TB
section
variable {prog:Program}{w:World}{A:Around}{E:Value->Shared->Prop}{s:Shared}
variable {κ:Type}
end
end SW
namespace SW
open PySem PySem.SetTable TB
section
variable {prog:Program}{w:World}{A:Around}{E:Value->Shared->Prop}{κ:Type}
end
end SW
namespace SW
open PySem PySem.SetTable TB
section
variable {prog:Program}{w:World}{A:Around}{E:Value->Shared->Prop}{s:Shared}{κ:Type}
end
end SW
namespace SW
open PySem PySem.SetTable TB
section
variable {prog:Program}{w:World}{A:Around}{E:Value->Shared->Prop}{s:Shared}{κ:Type}
end
end SW
namespace SW
open PySem TB
end SW
namespace L2
open PySem PySem.Spec PyProof.Rows
section
variable {X:Cx}
end
end L2
namespace L2
open PySem PySem.Spec PyProof.Rows
section
variable {X:Cx}
end
end L2
namespace OD
open PySem L2
def bJ (t:Str)(hw:Bool):List Int:=((List.range t.length).filter fun i=>cK t i == hw).map fun (i:Nat)=>(i:Int)+1
end OD
namespace L2
open PySem
section
variable {K:PySem.W.Frag}{a b D:Addr}{xs ys:List V}{n:Nat}{g:TG}{tt:TT}{te:TE}{σ0:St}{H1:Hp}{Q:VK}
end
end L2
namespace HT
open PySem PyProof.Rows
section
variable {prog:Program}{w:World}{A:Around}{E:Value->Shared->Prop}{s:Shared}
end
end HT
namespace L2
open PySem PySem.Spec PyProof.Rows
section
variable {X:Cx}
theorem cn {K:PySem.W.Frag}(e:X.K=K):cL X (.type "tuple") (fun xs H Q=>∃ (p:Addr) (ys:List V),xs=[.ref p]/\((SqL K H p ys/\∀ l,H l=none->Q (.ref l) (upd H l (.tup ys)))\/(SqT K H p ys/\Q (.ref p) H))):=by
 subst e
 exact bM
end
end L2
namespace L2
open PySem
theorem mz {e:Expr}{es:List Expr}{env:Env}(h:∀ v p,e≠.Starred v p):starEach (e::es) env=(false,eval e env)::starEach es env:=by
 cases e<;>first|rfl|exact absurd rfl (h _ _)
@[irreducible] def PEi (X:Cx) (e:Expr) (t:TE):Prop:=PE X e t
@[irreducible] def PAi (X:Cx) (es:List Expr) (t:TA):Prop:=PA X es t
section
variable {X:Cx}{e a b:Expr}{es:List Expr}{te ta tb:TE}{t:TA}{pos:Pos}
theorem PEi.mk (h:PE X e te):PEi X e te:=by
 unfold PEi
 exact h
theorem PAi.nil:PAi X [] ui:=by
 unfold PAi
 exact ac
theorem PAi.cons (h:PEi X e te)(g:PAi X es t)(s:∀ v p,e≠.Starred v p):PAi X (e::es) (rl te t):=by
 unfold PEi at h
 unfold PAi at g ⊢
 exact aa h g (mz s)
theorem PEi.lst (h:PAi X es t):PEi X (.List es pos) (uk t):=by
 unfold PAi at h
 unfold PEi
 exact aR h
end
end L2
namespace SW
open PySem TB
end SW
namespace L2
open PySem PySem.Spec PyProof.Rows
section
variable {X:Cx}
end
end L2
namespace KA
open PySem PyProof.Rows
section
variable {prog:Program}{w:World}{A:Around}{E:Value->Shared->Prop}{s:Shared}{h0:Heap}{a kS:Addr}{vs:List Value}{kz:List Int}{keys:Array Value}{e e1:Nat}{P:PySem.Fin->Shared->Prop}
end
end KA
namespace L2
open PySem PySem.Spec PyProof.Rows
section
variable {X:Cx}
end
end L2
namespace KX
open PySem PyProof.Rows
theorem mB (a v:Value):argsOk "max" ⟨[a],[(Str.ofString "default",v)]⟩:=by unfold argsOk;kernel_rfl
section
variable {prog:Program}{w:World}{A:Around}{R:Result->Shared->Prop}{I:Addr}{fp wr:List Addr}{n:Nat}{P:Nat->Value->Prop}{St:Nat->Heap->Prop}{kw:List (Str×Value)}
theorem uO (W:Walks prog w A.in1 I fp wr n P St)(bt:Nat->Nat->Bool)(hcmp:CmpOf prog w A.in1 .Gt P bt)(S:Addr)(hSf:S∉fp):
  ∀ (k j:Nat) (s:Shared) (vb:Value) (c:Nat),n - (j+1)=k->j+1<=n->St (j+1) s.heap->P (argBest bt j) vb->
  s.heap.get? S=some {cls:=.type "list",dict:=none,data:=.seq #[vb,vb] c,slots:=#[]}->
  (∀ v h' tk,P (argBest bt (n - 1)) v->(∀ b o,b∉wr->b≠S->s.heap.get? b=some o->h'.get? b=some o)->R (.ok (.ret v)) {s with heap:=h',toks:=tk})->
  codeAny (model prog w) A (.builtin "max.loop" ⟨[.ref I,.none,.ref S],kw⟩) R s:=by
 have hSw:S∉wr:=fun h=>hSf (W.sub _ h)
 have hname:(toString "max"++toString ".loop":String)="max.loop":=by decide
 intro k
 induction k with
 |zero=>
  intro j s vb c hk hj hst hPb hS hR
  have hin:j+1=n:=by omega
  refine codeAny_builtin F.entry_max_loop ?_
  rw[Around.under_plainId F.plain_max_loop _]
  show wpAny _ A.in1 (seqItems? (.ref S) >>=_) _ _ s
  refine wpAny_bind (wpAny_seqItems hS rfl ?_)
  show wpAny _ A.in1 (tryCatch (pyNext (.ref I)) _ >>=_) _ _ s
  refine wpAny_bind (wpAny_tryCatch (W.done s _ _ (hin▸hst) fun h' tk hk'=>?_))
  have hS':=hk' S _ hSw hS
  show wpAny _ A.in1 (updateSeq S (fun _=>#[]) >>=_) _ _ _
  refine wpAny_bind ?_
  refine wpAny_updateSeq hS' rfl (wpAny_bind (wpAny_letGo (wpAny_pure ?_)))
  refine hR vb _ tk (by rw[← hin];exact hPb) fun b o hbw hbS e=>(Heap.get?_update_other _ _ (Ne.symm hbS)).trans (hk' b o hbw e)
 |succ k ih=>
  intro j s vb c hk hj hst hPb hS hR
  have hlt:j+1 < n:=by omega
  refine codeAny_builtin F.entry_max_loop ?_
  rw[Around.under_plainId F.plain_max_loop _]
  show wpAny _ A.in1 (seqItems? (.ref S) >>=_) _ _ s
  refine wpAny_bind (wpAny_seqItems hS rfl ?_)
  show wpAny _ A.in1 (tryCatch (pyNext (.ref I)) _ >>=_) _ _ s
  refine wpAny_bind (wpAny_tryCatch (W.item (j+1) s _ _ hlt hst fun v h' tk hP hst' hk'=>?_))
  have hS':=hk' S _ hSw hS
  show wpAny _ A.in1 (tryCatch (holding [v,v] (richCompare .Gt v vb >>=_)) _ >>=_) _ _ _
  refine wpAny_bind (wpAny_tryCatch (wpAny_holding (wpAny_bind (hcmp (j+1) (argBest bt j) v vb _ _ _ hP hPb ?_))))
  refine wpAny_bind (wpAny_holding (wpAny_truthy_bool ?_))
  refine wpAny_bind (wpAny_letGo (wpAny_pure ?_))
  cases hb:bt (j+1) (argBest bt j) with
  |true=>
   simp only [if_true]
   refine wpAny_bind ?_
   refine wpAny_updateSeq hS' rfl (wpAny_bind (wpAny_letGo ?_))
   rw[hname]
   refine wpAny_pure ⟨plainId_quiet F.plain_max_loop _,ih (j+1) _ v _ (by omega) hlt (W.frame _ _ _ hst' fun b hbf o e=>?_) (by simp only [argBest,hb,if_true];exact hP) (Heap.get?_update_self _ hS' rfl)
    fun v' h'' tk'' hP' hk''=>?_⟩
   ·exact (Heap.get?_update_other _ _ (fun h:S=b=>hSf (by rw[h];exact hbf))).trans e
   ·exact hR v' h'' tk'' hP' fun b o hbw hbS e=>hk'' b o hbw hbS ((Heap.get?_update_other _ _ (Ne.symm hbS)).trans (hk' b o hbw e))
  |false=>
   simp only [Bool.false_eq_true,if_false]
   refine wpAny_bind (wpAny_letGo ?_)
   rw[hname]
   refine wpAny_pure ⟨plainId_quiet F.plain_max_loop _,ih (j+1) _ vb c (by omega) hlt hst' (by simp only [argBest,hb,Bool.false_eq_true,if_false];exact hPb) hS' fun v' h'' tk'' hP' hk''=>?_⟩
   exact hR v' h'' tk'' hP' fun b o hbw hbS e=>hk'' b o hbw hbS (hk' b o hbw e)
theorem ti (W:Walks prog w A.in1 I fp wr n P St)(bt:Nat->Nat->Bool)(hcmp:CmpOf prog w A.in1 .Gt P bt)(S:Addr)(hSf:S∉fp){d:Value}{ky:Str}{s:Shared}{c:Nat}(hst:St 0 s.heap)
  (hS:s.heap.get? S=some {cls:=.type "list",dict:=none,data:=.seq #[] c,slots:=#[]})
  (hR:0 < n->∀ v h' tk,P (argBest bt (n - 1)) v->(∀ b o,b∉wr->b≠S->s.heap.get? b=some o->h'.get? b=some o)->R (.ok (.ret v)) {s with heap:=h',toks:=tk})
  (h0:n=0->∀ h' tk,(∀ b o,b∉wr->b≠S->s.heap.get? b=some o->h'.get? b=some o)->R (.ok (.ret d)) {s with heap:=h',toks:=tk}):
  codeAny (model prog w) A (.builtin "max.loop" ⟨[.ref I,.none,.ref S],[(ky,d)]⟩) R s:=by
 have hSw:S∉wr:=fun h=>hSf (W.sub _ h)
 have hname:(toString "max"++toString ".loop":String)="max.loop":=by decide
 refine codeAny_builtin F.entry_max_loop ?_
 rw[Around.under_plainId F.plain_max_loop _]
 show wpAny _ A.in1 (seqItems? (.ref S) >>=_) _ _ s
 refine wpAny_bind (wpAny_seqItems hS rfl ?_)
 show wpAny _ A.in1 (tryCatch (pyNext (.ref I)) _ >>=_) _ _ s
 by_cases hn:0 < n
 ·refine wpAny_bind (wpAny_tryCatch (W.item 0 s _ _ hn hst fun v h' tk hP hst' hk'=>?_))
  have hS':=hk' S _ hSw hS
  show wpAny _ A.in1 (updateSeq S (fun _=>#[v,v]) >>=_) _ _ _
  refine wpAny_bind ?_
  refine wpAny_updateSeq hS' rfl ?_
  rw[hname]
  refine wpAny_pure ⟨plainId_quiet F.plain_max_loop _,uO W bt hcmp S hSf _ 0 _ v _ rfl hn (W.frame _ _ _ hst' fun b hbf o e=>?_) hP (Heap.get?_update_self _ hS' rfl) fun v' h'' tk'' hP' hk''=>?_⟩
  ·exact (Heap.get?_update_other _ _ (fun h:S=b=>hSf (by rw[h];exact hbf))).trans e
  ·exact hR hn v' h'' tk'' hP' fun b o hbw hbS e=>hk'' b o hbw hbS ((Heap.get?_update_other _ _ (Ne.symm hbS)).trans (hk' b o hbw e))
 ·have hn0:0=n:=by omega
  refine wpAny_bind (wpAny_tryCatch (W.done s _ _ (hn0▸hst) fun h' tk hk'=>?_))
  refine wpAny_bind (wpAny_rule (wpAny_pure ?_))
  exact h0 hn0.symm h' tk fun b o hbw hbS e=>hk' b o hbw e
end
section
variable {prog:Program}{w:World}{A:Around}{E:Value->Shared->Prop}{s:Shared}
theorem uP {x d:Value}{Q:Value->Shared->Prop}
  (h:wpAny (model prog w) A.in1 (pyIter x) (fun it s₂=>∃ I fp wr n P St bt,it=.ref I/\Walks prog w A.in1 I fp wr n P St/\St 0 s₂.heap/\(∀ b∈fp,b < s₂.heap.objs.size)/\CmpOf prog w A.in1 .Gt P bt/\
   (0 < n->∀ v h' tk,P (argBest bt (n - 1)) v->(∀ b o,b∉wr->s₂.heap.get? b=some o->h'.get? b=some o)->Q v {s₂ with heap:=h',toks:=tk})/\
   (n=0->∀ h' tk,(∀ b o,b∉wr->s₂.heap.get? b=some o->h'.get? b=some o)->Q d {s₂ with heap:=h',toks:=tk})) E s):
  wpAny (model prog w) A (call (.builtin "max") [x] [(Str.ofString "default",d)]) Q E s:=by
 have hname:(toString "max"++toString ".loop":String)="max.loop":=by decide
 refine kmk_tree F.kind_max F.plain_max F.entry_max (mB _ _) ?_
 show wpAny _ A.in1 (Builtin.Builtins.bindParams "max" ["key","default"] 0 ⟨[],[(Str.ofString "default",d)]⟩ >>=_) _ _ s
 refine wpAny_bind (wpAny_of_eq (show Builtin.Builtins.bindParams "max" ["key","default"] 0 ⟨[],[(Str.ofString "default",d)]⟩=pure [none,some d] from rfl) ?_)
 refine wpAny_bind (wpAny_pure ?_)
 refine wpAny_bind (wpAny_mono h (fun it s₂ h₂=>?_) fun _ _ e=>e)
 obtain⟨I,fp,wr,n,P,St,bt,rfl,W,hst,hfp,hcmp,hQ,hQ0⟩:=h₂
 refine wpAny_bind (wpAny_newObj_type ?_)
 have hSf:s₂.heap.objs.size∉fp:=fun hm=>Nat.lt_irrefl _ (hfp _ hm)
 rw[hname]
 refine wpAny_pure ⟨plainId_quiet F.plain_max_loop _,ti W bt hcmp s₂.heap.objs.size hSf (W.frame _ _ _ hst fun b _ o e=>Heap.get?_push_of_some _ e) (Heap.get?_push_size _ rfl) (fun hn v h' tk hP hk=>?_) fun hn h' tk hk=>?_⟩
 ·exact hQ hn v h' tk hP fun b o hbw e=>hk b o hbw (Nat.ne_of_lt (Heap.lt_size e)) (Heap.get?_push_of_some _ e)
 ·exact hQ0 hn h' tk fun b o hbw e=>hk b o hbw (Nat.ne_of_lt (Heap.lt_size e)) (Heap.get?_push_of_some _ e)
theorem max_listD {l:Addr}{xs:Array (Int×Tok)}{d:Value}{Q:Value->Shared->Prop}(hh:A.handled=none)(hl:s.heap.IsList l (intItems xs))
  (h:0 < xs.size->∀ v h' tk,(intItems xs)[argBest (fun i j=>decide (numAt xs i > numAt xs j)) (xs.size - 1)]? =some v->(∀ b o,s.heap.get? b=some o->h'.get? b=some o)->Q v {s with heap:=h',toks:=tk})
  (h0:xs.size=0->∀ h' tk,(∀ b o,s.heap.get? b=some o->h'.get? b=some o)->Q d {s with heap:=h',toks:=tk}):
  wpAny (model prog w) A (call (.builtin "max") [.ref l] [(Str.ofString "default",d)]) Q E s:=by
 refine uP (iter_intList hl fun s₂ e st hfp hlI=>?_)
 subst e
 refine⟨_,_,_,_,_,_,_,rfl,Walks.list (A:=A.in1) hh _ l hlI (intItems xs),st,hfp,CmpOf.ints_gt (numAt xs) (fun _ _=>intItems_at),fun hn v h' tk hP hk=>?_,fun hn h' tk hk=>?_⟩
 ·exact h (by simpa [intItems] using hn) v h' tk (by simpa [intItems] using hP) (old_kept hk)
 ·exact h0 (by simpa [intItems] using hn) h' tk (old_kept hk)
end
end KX
namespace L2
open PySem PySem.Spec PyProof.Rows
section
variable {X:Cx}
theorem jp {vs:List Value}{ns:List Int}{xs:Array (Int×Tok)}{v:Value}(hi:IntsAre vs ns)(e:vs.toArray=intItems xs)(hn:0 < xs.size)(hv:(intItems xs)[argBest (fun i j=>decide (numAt xs i > numAt xs j)) (xs.size - 1)]? =some v):∃ M t,v=.int M t/\M∈ns/\∀ a∈ns,a<=M:=by
 have hns:xs.toList.map (·.1)=ns:=by
  rw[← nums_intItems,← e]
  exact hi.numsOf
 obtain⟨t,rfl⟩:=intItems_at hv
 obtain⟨h1,h2⟩:=argBest_gt (numAt xs) (xs.size - 1)
 refine⟨_,t,rfl,?_,fun a ha=>?_⟩
 ·rw[numAt_eq,hns]
  exact getD_mem (by rw[← hns,List.length_map,Array.length_toList];omega)
 ·obtain⟨j,hj,rfl⟩:=mem_getD ha
  rw[← hns,List.length_map,Array.length_toList] at hj
  have:=h2 j (by omega)
  rw[numAt_eq,hns] at this
  exact this
def vJ (K:PySem.W.Frag):List V->Hp->VK->Prop:=fun xs H Q=>∃ (p:Addr) (ns:List Int),xs=[.ref p]/\SqL K H p (ns.map V.int)/\ns≠[]/\∀ M,M∈ns->(∀ a∈ns,a<=M)->Q (.int M) H
theorem mC (hc:X.calm=true):cL X (.builtin "max") (vJ X.K):=by
 intro pins s σ H xs us Q I r h
 obtain⟨p,ns,rfl,hq,hne,q⟩:=h
 obtain⟨u,rfl,ru⟩:=dU r
 cases ru
 obtain⟨vs,rv,pl,hz⟩:=I.list hq
 have hi:=fR rv
 obtain⟨ys,e⟩:=hi.allInts.items
 have hl:=pl.isList
 rw[e] at hl
 have hn:0 < ys.size:=by
  have h1:(intItems ys).size=ys.size:=by simp [intItems]
  rw[← h1,← e,List.size_toArray,IntsAre.length hi]
  exact List.length_pos_iff.mpr hne
 refine max_intList (I.ok.hd hc) hl hn fun v h' tk hv hk=>?_
 obtain⟨M,t,rfl,m1,m2⟩:=jp hi e hn hv
 exact⟨.int M,H,I.kept hk,⟨t,rfl⟩,q M m1 m2⟩
def og (K:PySem.W.Frag):V->V->Hp->VK->Prop:=fun x d H Q=>∃ (p:Addr) (ns:List Int),x=.ref p/\SqL K H p (ns.map V.int)/\(ns=[]->Q d H)/\∀ M,M∈ns->(∀ a∈ns,a<=M)->Q (.int M) H
def uQ (K:PySem.W.Frag)(te td:TE):TE:=fun σ H Q=>te σ H fun x H1=>td σ H1 fun d H2=>og K x d H2 Q
theorem qA {e dv:Expr}{te td:TE}{p1 kp q1:Pos}(hc:X.calm=true)(hg1:Gl X "max")(hm1:X.mg "max"=none)(he:PE X e te)(hd:PE X dv td)
  (hs:starEach [e] X.env=[(false,eval e X.env)]:=by rfl):
  PE X (.Call (.Name "max" p1) [e] [⟨some "default",dv,kp⟩] q1) (uQ X.K te td):=by
 intro pins s σ H Q I h
 refine wpAny_Call_Name_kw (eR I hg1 hm1 PyProof.Rows.boot_max ?_)
 refine PyProof.Rows.callWith_kw (bH (aa he (ac (X:=X)) (by rw[hs];rfl) q1 pins s σ H (uF fun x H1=>td σ H1 fun d H2=>og X.K x d H2 Q) I h) fun us s1 ⟨vs,H1,I1,r1,q1'⟩=>?_) (by rw[hs];rfl) (by rw[hs];rfl) rfl rfl
 obtain⟨x,e1,h1⟩:=nQ q1'
 subst e1
 obtain⟨u,rfl,ru⟩:=dU r1
 refine PyProof.Rows.kws_cons (bH (hd pins s1 σ H1 _ I1 h1) fun ud s2 ⟨d,H2,I2,r2,h2⟩=>PyProof.Rows.kws_nil ?_)
 obtain⟨p,ns,rfl,hq,q0,q⟩:=h2
 cases ru
 obtain⟨vs,rv,pl,hz⟩:=I2.list hq
 have hi:=fR rv
 obtain⟨ys,e⟩:=hi.allInts.items
 have hl:=pl.isList
 rw[e] at hl
 have hsz:ys.size=ns.length:=by
  have h1:(intItems ys).size=ys.size:=by simp [intItems]
  rw[← h1,← e,List.size_toArray,IntsAre.length hi]
 show wpAny _ _ (call (.builtin "max") [.ref p] [(Str.ofString "default",ud)]) _ _ _
 refine KX.max_listD (I2.ok.hd hc) hl (fun hn v h' tk hv hk=>?_) fun hn h' tk hk=>?_
 ·obtain⟨M,t,rfl,m1,m2⟩:=jp hi e hn hv
  exact⟨.int M,H2,I2.kept hk,⟨t,rfl⟩,q M m1 m2⟩
 ·exact⟨d,H2,I2.kept hk,r2,q0 (List.length_eq_zero_iff.mp (by omega))⟩
end
end L2
namespace OD
open PySem L2
def Ups (c:List Int):Prop:=(c.map ar).Pairwise (· < ·)
theorem Ups.tail {x:Int}{c:List Int}(h:Ups (x::c)):Ups c:=(List.pairwise_cons.mp h).2
theorem Ups.head {x:Int}{c:List Int}(h:Ups (x::c)):∀ l∈c,ar x < ar l:=fun l hl=>(List.pairwise_cons.mp h).1 _ (List.mem_map_of_mem hl)
def eG (t:Str)(hw:Bool)(c:List Int):Int:=((c.filter fun l=>!(cK t (ar l - 1).toNat == hw)).map ar).foldl max 0
def dF (t:Str)(hw:Bool)(c:List Int):List Int:=c.filter fun l=>decide (ar l<=eG t hw c)
theorem gS:∀ (ns:List Int) (b:Int),(b<=ns.foldl max b/\∀ a∈ns,a<=ns.foldl max b)/\(ns.foldl max b=b\/ns.foldl max b∈ns)
 |[],b=>⟨⟨Int.le_refl _,fun _ h=>nomatch h⟩,.inl rfl⟩
 |x::r,b=>by
  obtain⟨⟨h1,h2⟩,h3⟩:=gS r (max b x)
  rw[List.foldl_cons]
  refine⟨⟨by omega,fun a ha=>?_⟩,?_⟩
  ·rcases List.mem_cons.mp ha with rfl|ha
   ·omega
   ·exact h2 a ha
  ·rcases h3 with h3|h3
   ·by_cases g:b<=x
    ·right
     rw[h3,Int.max_eq_right g]
     exact List.mem_cons_self
    ·left
     rw[h3,Int.max_eq_left (by omega)]
   ·exact .inr (List.mem_cons_of_mem _ h3)
theorem oh {ns:List Int}{M:Int}(h0:∀ a∈ns,0<=a)(h1:M∈ns\/M=0)(h2:∀ a∈ns,a<=M)(h3:0<=M):ns.foldl max 0=M:=by
 obtain⟨⟨a1,a2⟩,a3⟩:=gS ns 0
 have:ns.foldl max 0<=M:=by
  rcases a3 with e|e
  ·rw[e]
   exact h3
  ·exact h2 _ e
 have:M<=ns.foldl max 0:=by
  rcases h1 with h1|h1
  ·exact a2 _ h1
  ·rw[h1]
   exact a1
 omega
theorem mem_vars {t:Str}{hw:Bool}{z:Int}:z∈bJ t hw↔1<=z/\z<=(t.length:Int)/\cK t (z - 1).toNat=hw:=by
 unfold bJ
 rw[List.mem_map]
 constructor
 ·rintro⟨i,hi,rfl⟩
  obtain⟨h1,h2⟩:=List.mem_filter.mp hi
  have:=List.mem_range.mp h1
  have e:((i:Int)+1 - 1).toNat=i:=by omega
  rw[e]
  exact⟨by omega,by omega,by simpa using h2⟩
 ·rintro⟨h1,h2,h3⟩
  refine⟨(z - 1).toNat,List.mem_filter.mpr ⟨List.mem_range.mpr (by omega),?_⟩,by omega⟩
  rw[h3]
  exact beq_self_eq_true _
theorem qB {t:Str}{hw:Bool}{l:Int}(h1:1<=ar l)(h2:ar l<=(t.length:Int)):(bJ t (!hw)).contains (ar l)=!(cK t (ar l - 1).toNat == hw):=by
 cases g:cK t (ar l - 1).toNat == hw with
 |true=>
  have g':cK t (ar l - 1).toNat=hw:=by simpa using g
  cases z:(bJ t (!hw)).contains (ar l) with
  |false=>rfl
  |true=>
   have z2:=(mem_vars.mp (by simpa using z)).2.2
   rw[g'] at z2
   cases hw<;>cases z2
 |false=>
  have g':cK t (ar l - 1).toNat=!hw:=by
   cases a:cK t (ar l - 1).toNat<;>cases hw<;>simp_all
  have:ar l∈bJ t (!hw):=mem_vars.mpr ⟨h1,h2,g'⟩
  simpa using this
end OD
namespace OD
open PySem L2
def bo (many:Nat):PyData->Option Nat
 |.int z=>if 0<=z/\z < (many:Int) then some z.toNat else none
 |_=>none
theorem bp {many i:Nat}{d:PyData}(h:bo many d=some i):i < many/\d=.int (i:Int):=by
 cases d with
 |int z=>
  have h':(if 0<=z/\z < (many:Int) then some z.toNat else none)=some i:=h
  split at h'
  ·rename_i c
   cases h'
   exact⟨by omega,by congr 1;omega⟩
  ·cases h'
 |_=>cases h
def gT (w:Str):PyData->Bool
 |.str x=>decide (x=w)
 |_=>false
theorem oi (d:PyData)(w:Str):PyData.eqv d (.str w)=gT w d:=by
 cases d with
 |str x=>
  rw[PyData.eqv]
  show (x == w)=decide (x=w)
  by_cases h:x=w
  ·rw[h];simp
  ·rw[decide_eq_false h]
   exact beq_eq_false_iff_ne.mpr h
 |_=>first|(unfold PyData.eqv;rfl)|(simp [PyData.eqv,gT])
def formB (w:Str)(n:Nat):PyData->Bool
 |.tuple ds=>decide (ds.length=n)&&gT w (ds.getD 0 .none)
 |_=>false
def rB (n:Nat)(c:List Int):Prop:=Ups c/\∀ l∈c,1<=ar l/\ar l<=(n:Int)
theorem li:∀ {c:List Int} {n b:Int},Ups c->(∀ l∈c,b < ar l/\ar l<=n)->(c.length:Int)<=max 0 (n - b)
 |[],n,b,_,_=>by simp;omega
 |x::c,n,b,h,g=>by
  have g1:=g x List.mem_cons_self
  have ih:=li (n:=n) (b:=ar x) h.tail fun l hl=>⟨h.head l hl,(g l (List.mem_cons_of_mem _ hl)).2⟩
  rw[List.length_cons]
  omega
theorem mD {n:Nat}{c:List Int}(h:rB n c):c.length<=n:=by
 have:=li (n:=(n:Int)) (b:=0) h.1 fun l hl=>⟨by have:=(h.2 l hl).1;omega,(h.2 l hl).2⟩
 omega
end OD
namespace OD
open PySem L2
def j_:PyData->Nat->PyData
 |.tuple ds,i=>ds.getD i .none
 |_,_=>.none
def bq:Str:=Str.ofString "drop"
theorem dG {w:Str}{n:Nat}{d:PyData}(h:formB w n d=true):∃ ds,d=.tuple ds/\ds.length=n:=by
 cases d with
 |tuple ds=>
  have h':(decide (ds.length=n)&&gT w (ds.getD 0 .none))=true:=h
  rw[Bool.and_eq_true] at h'
  exact⟨ds,rfl,of_decide_eq_true h'.1⟩
 |_=>cases h
theorem jq {n:Nat}:∀ {c:List Int} {b:Int},tT b c->Ups c/\∀ l∈c,b < ar l
 |[],_,_=>⟨.nil,fun _ h=>nomatch h⟩
 |x::c,b,h=>by
  obtain⟨h1,h2⟩:=jq (n:=n) h.2
  refine⟨List.pairwise_cons.mpr ⟨fun y hy=>?_,h1⟩,fun l hl=>?_⟩
  ·obtain⟨l,hl,rfl⟩:=List.mem_map.mp hy
   exact h2 l hl
  ·rcases List.mem_cons.mp hl with rfl|hl
   ·exact h.1
   ·have:=h2 l hl
    have:=h.1
    omega
end OD
namespace OD
open PySem L2
section
variable {K:PySem.W.Frag}{a D:Addr}{xs:List V}{tt:TT}{te:TE}{σ0:St}{H1:Hp}{Q:VK}
end
end OD
namespace OD
open PySem L2
end OD
namespace L2
open PySem PySem.Spec PyProof.Rows
end L2
namespace OD
open PySem L2
end OD
namespace DP
open PySem
theorem qC:typeLookup (.type "list") "keys"=pure none:=by rw[typeLookup_type,builtinLookup_eq_fast];kernel_rfl
theorem lj:entryFor table "dict.update.loop"=some Builtin.«dict.update.loop»:=entryFor_of_tree (by kernel_rfl)
theorem fF:plainId "dict.update.loop"=true:=by decide+kernel
section
variable {prog:Program}{w:World}{A:Around}{E:Value->Shared->Prop}{s:Shared}
theorem mE {l:Addr}{o:Obj}{xs:Array Value}{k:Nat}{Q:Option Value->Shared->Prop}(hx:s.heap.get? l=some o)(hc:o.cls=.type "list")(hdat:o.data=.seq xs k)(hd:o.dict=none)(hA:A.handled=none)
  (h:∀ h' tk,(∀ b o,s.heap.get? b=some o->h'.get? b=some o)->Q none {s with heap:=h',toks:=tk}):wpAny (model prog w) A (getAttr? (.ref l) "keys") Q E s:=by
 obtain⟨c,dct,dat,sl⟩:=o
 simp only at hc hdat hd
 subst hc hdat hd
 obtain⟨hp,g,d,tk,os⟩:=s
 have hT:∀ tk',(⟨hp,g,d,tk',os⟩:Shared).TypeIs (.ref l) "list":=fun _=>⟨_,hx,rfl⟩
 have f1:=sub_AttributeError
 have f3:=F.slot_list_getattribute.lookup
 have f4:=F.slot_list_getattribute.bind (.ref l)
 have f5:=am_list_getattr_none
 unfold getAttr? getAttrBy? getAttrBy
 repeat (any_goals (first|assumption|exact hT _|((with_reducible show wpAny _ _ (call (Value.builtin "list.__getattribute__") _ _) _ _ _);refine call_meets F.slot_list_getattribute (hT _) am_entry_list_getattribute (F.args_list_getattribute_2 _ _) (meets_getattribute_miss_list l xs k sl "keys" _ qC (by decide+kernel) (by decide+kernel)) ⟨hx,hA,fun h' tk' e hx'=>?_⟩)|wp_step))
 obtain⟨t',u',he⟩:=hx'.there
 show wpAny _ _ (getattributeRaised _ _ _ _ _ _ _) _ _ _
 unfold getattributeRaised
 repeat (any_goals (first|assumption|wp_step))
 exact h _ _ hx'.keeps
end
end DP
namespace DP
open PySem
section
variable {prog:Program}{w:World}{K:Type} [DecidableEq K] {knd:KeyKind prog w K}{A:Around}{E:Value->Shared->Prop}{s:Shared}
theorem ka {t:Addr}{xs:Array Value}{Q:List Value->Shared->Prop}(ht:s.heap.IsTuple t xs)(h:Q xs.toList s):wpAny (model prog w) A (Builtin.Dict.pairItems (.ref t)) Q E s:=by
 obtain⟨o,ho,hc,n,hd⟩:=ht
 have hT:s.TypeIs (.ref t) "tuple":=⟨o,ho,hc⟩
 unfold Builtin.Dict.pairItems
 refine wpAny_bind (wpAny_typeOf hT ?_)
 rw[if_pos (by decide)]
 refine wpAny_bind (wpAny_seqItems ho hd ?_)
 exact wpAny_pure h
theorem mF (hh:A.in1.handled=none){h0:Heap}{I d l:Addr}{items:Array Value}{more:List (K×Value)}(hlI:l≠I)(hdI:d≠I)(hdl:d≠l)(hn:items.size<=sizeLine)(hm:more.length=items.size)
  (hval:∀ (i:Nat) (v:Value),items[i]? =some v->∃ kv key t,more[i]? =some kv/\knd.is kv.1 key=true/\v=.ref t/\t≠d/\t≠I/\h0.IsTuple t #[key,kv.2]) {R:Result->Shared->Prop}:
  ∀ (m i:Nat) (s:Shared) (tk0:Tok),items.size - i=m->i<=items.size->s.heap.IsListIter I l i->s.heap.IsList l items->s.heap.DictOf knd d (merged [] (more.take i))->
   (∀ b o,b≠d->b≠I->h0.get? b=some o->s.heap.get? b=some o)->
   (∀ h' tk,h'.DictOf knd d (merged [] more)->(∀ b o,b≠d->b≠I->h0.get? b=some o->h'.get? b=some o)->R (.ok (.ret .none)) {s with heap:=h',toks:=tk})->
   codeAny (model prog w) A (.builtin "dict.update.loop" ⟨[.ref d,.ref I,.int (i:Int) tk0,.none],[]⟩) R s:=by
 have W:=Walks.list (prog:=prog) (w:=w) (A:=A.in1) hh I l hlI items
 intro m
 induction m with
 |zero=>
  intro i s tk0 hm0 hi st1 st2 hold hfr hR
  have e:i=items.size:=by omega
  subst e
  refine codeAny_builtin lj ?_
  rw[Around.under_plainId fF _]
  refine wpAny_bind (m:=pyNext (.ref I)) (W.done s _ _ ⟨st1,st2⟩ fun h' tk hk=>?_)
  have hk':∀ b o,b≠I->s.heap.get? b=some o->h'.get? b=some o:=fun b o hb e=>hk b o (by simpa using hb) e
  refine wpAny_bind (m:=Builtin.Dict.addKeywords d []) (wpAny_pure (wpAny_pure ?_))
  refine hR h' tk ?_ fun b o h1 h2 e=>hk' b o h2 (hfr b o h1 h2 e)
  rw[List.take_of_length_le (by omega)] at hold
  obtain⟨o,es,ep,ho,r⟩:=hold
  exact⟨o,es,ep,hk' d o hdI ho,r⟩
 |succ m ih=>
  intro i s tk0 hm0 hi st1 st2 hold hfr hR
  have hlt:i < items.size:=by omega
  refine codeAny_builtin lj ?_
  rw[Around.under_plainId fF _]
  refine wpAny_bind (m:=pyNext (.ref I)) (W.item i s _ _ hlt ⟨st1,st2⟩ fun v h' tk hv st' hk=>?_)
  have hk':∀ b o,b≠I->s.heap.get? b=some o->h'.get? b=some o:=fun b o hb e=>hk b o (by simpa using hb) e
  obtain⟨kv,key,t,hki,hkey,rfl,htd,htI,ht⟩:=hval i v hv
  have ht':h'.IsTuple t #[key,kv.2]:=let ⟨o,ho,r⟩:=ht;⟨o,hk' t o htI (hfr t o htd htI ho),r⟩
  have hold':h'.DictOf knd d (merged [] (more.take i)):=let ⟨o,es,ep,ho,r⟩:=hold;⟨o,es,ep,hk' d o hdI ho,r⟩
  have hz:(merged [] (more.take i)).length<=sizeLine:=by
   have:=merged_length_le [] (more.take i)
   rw[List.length_take] at this
   simp only [List.length_nil] at this
   omega
  refine wpAny_bind (wpAny_holding (wpAny_bind (wpAny_tryCatch (ka (s:={s with heap:=h',toks:=tk}) ht' ?_))))
  dsimp only
  refine wpAny_holding (wpAny_dictSet_pairs (s:={s with heap:=h',toks:=tk}) (hsz:=hz) hkey hold' fun h2 hd2 sb=>?_)
  have e2:merged [] (more.take (i+1))=stored (merged [] (more.take i)) kv.1 kv.2:=merged_take_succ _ _ _ _ hki
  refine wpAny_pure ⟨plainId_quiet fF _,?_⟩
  refine ih (i+1) {s with heap:=h2,toks:=tk+1} 0 (by omega) hlt ?_ ?_ (by rw[e2];exact hd2) (fun b o h1 hbI e=>(sb.2 b h1).trans (hk' b o hbI (hfr b o h1 hbI e))) fun h3 tk3 b1 b2=>hR h3 tk3 b1 b2
  ·exact st'.1.at fun o e=>(sb.2 I (fun z=>hdI z.symm)).trans e
  ·exact st'.2.at fun o e=>(sb.2 l (fun z=>hdl z.symm)).trans e
theorem call_pairs (hh:A.handled=none){l:Addr}{ol:Obj}{items:Array Value}{nl:Nat}{more:List (K×Value)}{Q:Value->Shared->Prop}(hl:s.heap.get? l=some ol)(hc:ol.cls=.type "list")(hdat:ol.data=.seq items nl)(hdd:ol.dict=none)(hn:items.size<=sizeLine)(hm:more.length=items.size)
  (hval:∀ (i:Nat) (v:Value),items[i]? =some v->∃ kv key t,more[i]? =some kv/\knd.is kv.1 key=true/\v=.ref t/\s.heap.IsTuple t #[key,kv.2])
  (h:∀ (h':Heap) (tk:Nat),h'.DictOf knd s.heap.objs.size (merged [] more)->(∀ b o,s.heap.get? b=some o->h'.get? b=some o)->Q (.ref s.heap.objs.size) {s with heap:=h',toks:=tk}):
  wpAny (model prog w) A (call (.type "dict") [.ref l]) Q E s:=by
 refine callType_codes (Q₁:=fun obj s₁=>obj=.ref s.heap.objs.size/\s₁={s with heap:=s.heap.push {cls:=.type "dict",data:=.dict #[]}}) F.kt_called_dict (F.kt_typeCall_dict_1 _) F.entry_dict_init (kt_code_dict_new _ ⟨rfl,rfl⟩) ?_
 rintro obj s₁ ⟨rfl,rfl⟩
 have hnew:(s.heap.push {cls:=.type "dict",data:=.dict #[]}).DictOf knd s.heap.objs.size []:=Heap.DictOf.new s.heap
 have hl1:=Heap.get?_push_of_some {cls:=.type "dict",data:=.dict #[]} hl
 have hlt:l < s.heap.objs.size:=Heap.lt_size hl
 have hTl:Shared.TypeIs {s with heap:=s.heap.push {cls:=.type "dict",data:=.dict #[]}} (.ref l) "list":=⟨_,hl1,hc⟩
 refine⟨hnew.typeIs,F.args_dict_init_2 _ _,?_⟩
 unfold Builtin.«dict.__init__»
 refine wpAny_bind ?_
 unfold Builtin.Dict.selfAndRest
 refine wpAny_bind (wpAny_notOrdered_dict hnew.typeIs ?_)
 show wpAny _ _ (pure (s.heap.objs.size,[Value.ref l])) _ _ _
 refine wpAny_pure ?_
 show wpAny _ _ (Builtin.Dict.updateFrom "dict.__init__" s.heap.objs.size (.ref l) [] .none) _ _ _
 unfold Builtin.Dict.updateFrom
 refine wpAny_bind (wpAny_typeOf hTl ?_)
 rw[if_pos (by decide)]
 refine wpAny_bind (mE hl1 hc hdat hdd (by simpa using hh) fun h1 tk1 k1=>?_)
 have hl2:=k1 _ _ hl1
 have hil2:h1.IsList l items:=⟨_,hl2,hc,nl,hdat⟩
 simp only [Option.isNone_none,if_true]
 refine wpAny_bind (wpAny_rule (wpAny_bind (wpAny_pyIter_list (s:={s with heap:=h1,toks:=tk1}) hil2 (wpAny_pure ?_))))
 refine⟨plainId_quiet fF _,?_⟩
 have hd0:=Heap.get?_push_size s.heap (o:={cls:=.type "dict",data:=.dict #[]}) rfl
 have hd1:=k1 _ _ hd0
 have hlt1:l < h1.objs.size:=Heap.lt_size hl2
 have hdlt1:s.heap.objs.size < h1.objs.size:=Heap.lt_size hd1
 have hdict1:h1.DictOf knd s.heap.objs.size []:=let ⟨o,es,ep,ho,r⟩:=hnew;⟨o,es,ep,k1 _ _ ho,r⟩
 have hit:(h1.push {cls:=.type "list_iterator",data:=.fields #[.ref l,.int 0 0]}).get? h1.objs.size=some {cls:=.type "list_iterator",data:=.fields #[.ref l,.int 0 0]}:=Heap.get?_push_size _ rfl
 refine mF (knd:=knd) (by simpa using hh) (h0:=h1.push {cls:=.type "list_iterator",data:=.fields #[.ref l,.int 0 0]}) (I:=h1.objs.size) (l:=l) (items:=items) (more:=more) (Nat.ne_of_lt hlt1) (Nat.ne_of_lt hdlt1) (Nat.ne_of_gt hlt) hn hm (fun i v hv=>?_) (items.size - 0) 0 _ 0 rfl (Nat.zero_le _) ⟨_,hit,rfl,rfl⟩ (hil2.push _) (by rw[List.take_zero];exact hdict1.push _) (fun b o _ _ e=>e) fun h' tk b1 b2=>?_
 ·obtain⟨kv,key,t,a1,a2,a3,a4⟩:=hval i v hv
  obtain⟨o,ho,r⟩:=a4
  have ho1:=k1 _ _ (Heap.get?_push_of_some {cls:=.type "dict",data:=.dict #[]} ho)
  exact⟨kv,key,t,a1,a2,a3,Nat.ne_of_lt (Heap.lt_size ho),Nat.ne_of_lt (Heap.lt_size ho1),o,Heap.get?_push_of_some _ ho1,r⟩
 ·refine⟨rfl,h h' tk b1 fun b o e=>?_⟩
  have e1:=k1 _ _ (Heap.get?_push_of_some {cls:=.type "dict",data:=.dict #[]} e)
  exact b2 b o (Nat.ne_of_lt (Heap.lt_size e)) (Nat.ne_of_lt (Heap.lt_size e1)) (Heap.get?_push_of_some _ e1)
end
end DP
namespace L2
open PySem PySem.Spec PyProof.Rows
section
variable {M:Model}{A:Around}{E:Value->Shared->Prop}{s:Shared}{B:Heap}{env:Env}{outer:List Env}{L e:Addr}{dx:Option Addr}{cls a0:Value}
end
end L2
namespace L2
open PySem PySem.Spec PyProof.Rows
section
variable {P:Program}{w:World}{outer:List Env}{H H':Hp}{s s':Shared}{B h':Heap}{ea:Addr}{dx:Option Addr}{cls a0:Value}
end
section
variable {P:Program}{w:World}{K:PySem.W.Frag}{mg:Str->Option Value}{base:Heap}{N:List Str}{qual:Str}{scope:Scope}{f:Addr}{cd:Value}{A:Around}{outer:List Env}{s:Shared}{H:Hp}{E:XK}
end
end L2
namespace L2
open PySem PySem.Spec PyProof.Rows
section
variable {prog:Program}{w:World}{A:Around}{E:Value->Shared->Prop}{h:Heap}{g:Array GenState}{d:Drawn}{t:Nat}{os:OsState}
variable {nm q:Str}{C N:Addr}{bs bm bmB:List Value}{hdct:Bool}{sn:List Str}{sub:List Value}{ab:Bool}{col:Option Bool}{dd:Option Addr}{k0 k1 k2 k3 k5:Option Value}{B newId initId:String}
end
end L2
namespace L2
open PySem PySem.Spec PyProof.Rows
section
variable {prog:Program}{w:World}{A:Around}{E:Value->Shared->Prop}{h:Heap}{g:Array GenState}{d:Drawn}{t:Nat}{os:OsState}{a dx C:Addr}{o:Obj}{mA:Str->Option Value}{K:PySem.W.Frag}{x:Str}{v:Value}
theorem mG {M:Model}{D:Addr}{b:Bool}{Q:Bool->Shared->Prop}(X:K.In h)(hx:h.get? a=some o)(hc:o.cls=.ref C){oD:Obj}{cd:ClassData}(gD:h.get? D=some oD)(dD:oD.data=.cls cd)(be:PySem.W.mroIn K D (.type "BaseException")=some true)(dt:PySem.W.Looks M h (typeOf (.ref D)) (.type "type"))(hm:PySem.W.mroIn K C (.ref D)=some b)(hq:Q b ⟨h,g,d,t,os⟩):
  wpAny M A (excMatches (.ref a) (.ref D)) Q E ⟨h,g,d,t,os⟩:=by
 have f:=tc_notTuple
 have L1:=PySem.W.looks_mroIn (M:=M) X be
 have L2:=PySem.W.looks_mroIn (M:=M) X hm
 unfold excMatches
 repeat (any_goals (first|assumption|(with_reducible refine wpAny_loadPart_at hx ?_;rw[hc])|(with_reducible refine wpAny_loadPart_at gD ?_;rw[dD])|with_reducible refine dt.at ?_|with_reducible refine L1.at ?_|with_reducible refine L2.at ?_|wp_step))
 cases b
 ·simp only [Bool.false_eq_true,if_false,reduceIte]
  repeat (first|exact hq|(with_reducible refine wpAny_pure ?_)|(simp only [List.forIn'.loop])|wp_step)
 ·simp only [if_true,reduceIte]
  repeat (first|exact hq|(with_reducible refine wpAny_pure ?_)|wp_step)
end
end L2
namespace L2
open PySem PySem.Spec PyProof.Rows
theorem mH {M:Model}{h:Heap}{a:Addr}{o:Obj}{v:Value}(hx:h.get? a=some o)(hc:o.cls=v):PySem.W.Looks M h (typeOf (.ref a)) v:=by
 rw[← hc]
 exact (PySem.W.Looks.ld hx).andThen .now
structure uR (P:Program)(w:World)(K:PySem.W.Frag)(mg:Str->Option Value)(base:Heap)(k:Nat)(x:Str)(C f:Addr)(fd:FuncData)(ps:List Str)(sp:Sp):Prop where
 ok:FnOk P w K mg base cA k f fd ps sp
 b:Binds K fd ps []
 mks:Mk K C f
 at_:mg x=some (.ref C)
section
variable {X:Cx}{j k:Nat}{C f:Addr}{fd:FuncData}{ps:List Str}{sp:Sp}{x m:Str}{p pos apos:Pos}{o e:Expr}{es:List Expr}{ta:TE}{t:TA}
theorem oj (G:uR X.prog X.w X.K X.mg X.base j x C f fd ps sp)(hr:Room k X.A)(hjk:j+1<=k)(hg:Gl X x)(ha:PA X (e::es) t)(hdb:(x == ("__debug__":Str))=false:=by decide)
  (he:starEach (e::es) X.env=(false,eval e X.env)::starEach es X.env:=by rfl) (hpl:(backTo pos (starEach es X.env)).any (·.1)=false:=by rfl):
  PE X (.Call (.Name x p) (e::es) [] pos) (rm C sp [] E0 t):=qf G.mks G.ok (hr.mono hjk) hg G.at_ G.b .nil rz ha hdb he hpl
theorem ll {body:List Stmt}{n:Str}{C D:Addr}{newId:String}{bmB:List Value}{b₀:Stmt}{suite:List Stmt}{np hpos:Pos}{i:Nat}{tb:sZ}{ts:TS}(hN:X.N.Nodup)(hi:X.N[i]? =some n) (hk:X.env.scope.names.lookup n=some .local)
  (hst:X.stack=X.env::X.outer) (hfr:X.env.frame=some X.env.locals) (hcalm:X.calm=true) (q:PySem.W.excIn X.K D bmB newId=true) (be:PySem.W.mroIn X.K D (.type "BaseException")=some true) (hCD:PySem.W.mroIn X.K C (.ref D)=some true) (hm:X.mg x=some (.ref D)) (hg:Gl X x)
  (hb:uM X body tb) (hs:∀ ea E,PSs (X.inExc ea E) (b₀::suite) ts) (hd:(x == ("__debug__":Str))=false:=by decide) (hf:X.fn n=true\/X.env.scope.names.lookup n=some .local:=by first|exact .inl rfl|exact .inr rfl|assumption):
  PS X (.Try body [.ExceptHandler (some (.Name x np)) (some n) (b₀::suite) hpos] [] [] pos) (vH C i tb ts):=by
 intro pins s σ H Dn I h
 refine wpAny_Try_except (wpAny_mono (hb pins s σ H Dn _ I h) (fun fl s1 q1=>?_) fun e s1 q1=>?_)
 ·cases fl with
  |next=>exact wpAny_execs_nil q1
  |ret v=>exact q1
  |brk=>exact q1
  |cont=>exact q1
 obtain⟨σ1,H1,s0,H',B,ea,cls,a0,rfl,I1,fl,rfl,kk⟩:=q1
 have hA:X.A.frames=some (X.env::X.outer):=by rw[← hst];exact I1.ok.frames
 have fly:Heap.FlyingW B (X.env::X.outer) ea (.ref C) a0 s1.heap:=by rw[← hst];exact fl.fly
 refine wpAny_looks_onW hA hfr fly fun h4 held up4=>?_
 refine wpAny_landsW held fun h5 fly5 up5=>?_
 have up15:=up4.trans up5
 have I5:Inv X pins σ1 H' {s1 with heap:=h5}:=I1.call' (s':={s1 with heap:=h5}) fl.os (fl.un fly5.1 up15 I1.stkFree) (fl.hok.kept fly5.1) fl.bare fun b z=>nomatch z
 obtain⟨ob,hob,hobc⟩:=fly5.there
 obtain⟨bm,N',nm,q',bs,hdct,sn,sub,ab,col,dd,k0,k1,k2,k3,k5,mN,c1,c2,c3,c4⟩:=lh I5.kIn q
 refine wpAny_handleBy_cons (codeAny_handlers_test (dL (I5.inExc ea (fun _ _=>False)) hg hm ?_ hd)) (by intro z;cases z)
 refine mG (K:=X.K) I5.kIn hob hobc c1 rfl be (mH c1 rfl) hCD (codeAny_handlers_suite_as ?_)
 refine lands_againW fly5 fun h6 fly6 up6=>?_
 have up16:=up15.trans up6
 have fly6':Heap.FlyingW B X.stack ea (.ref C) a0 h6:=by rw[hst];exact fly6
 have I6:Inv X pins σ1 (upd H' ea (jm ea C)) {s1 with heap:=h6}:=I1.call' (s':={s1 with heap:=h6}) fl.os (fl.unX fly6.1 up16 I1.stkFree) (fl.hokX fly6') fl.bare fun b z=>nomatch z
 refine fN (i:=i) (v:=.ref ea) I6 hN hi (.inl hk) rfl (fun s7 I7=>?_) hf
 refine wpAny_mono (hs ea _ pins s7 _ _ _ (I7.inExc ea _) (kk ea fl.fresh)) (fun f s8 q8=>?_) fun _ _ z=>z
 have hd0:X.A.handled=none:=I.ok.hd hcalm
 cases f with
 |next=>
  obtain⟨σ8,H8,I8,z8⟩:=q8
  exact fE (I8.outExc hd0) hN hi hk fun s9 I9=>⟨_,H8,I9,z8⟩
 |brk=>
  obtain⟨σ8,H8,I8,z8⟩:=q8
  exact fE (I8.outExc hd0) hN hi hk fun s9 I9=>⟨_,H8,I9,z8⟩
 |cont=>
  obtain⟨σ8,H8,I8,z8⟩:=q8
  exact fE (I8.outExc hd0) hN hi hk fun s9 I9=>⟨_,H8,I9,z8⟩
 |ret u=>
  obtain⟨v,σ8,H8,I8,r8,z8⟩:=q8
  exact fE (I8.outExc hd0) hN hi hk fun s9 I9=>⟨v,_,H8,I9,r8,z8⟩
theorem iw:cL X (.builtin "isinstance") (fun xs H Q=>∃ y ty C b,xs=[y,.ref C]/\dZ X.K H y ty/\PySem.W.kitOne X.K ty (.ref C)=some b/\Q (.bl b) H):=by
 rintro pins s σ H xs us Q I r ⟨y,ty,C,b,rfl,hT,hk,q⟩
 obtain⟨u,v,rfl,ru,rv⟩:=r.two
 cases rv
 exact gH I ru hT hk fun tk=>⟨.bl b,H,I.tok _,rfl,q⟩
end
end L2
namespace L2
open PySem PySem.Spec PyProof.Rows
section
variable {P:Program}{w:World}{H:Hp}{h:Heap}
theorem jr (ok:HOk P w H h):∀ (ts:List Addr) (kvs:List (bG×V)),ts.length=kvs.length->(∀ (i:Nat) (t:Addr) (kv:bG×V),ts[i]? =some t->kvs[i]? =some kv->H t=some (.tup [kV kv.1,kv.2]))->
  ∃ more:List (bG×Value),KV kvs more/\more.length=ts.length/\more.map (·.1)=kvs.map (·.1)/\∀ (i:Nat) (t:Addr),ts[i]? =some t->∃ kv key,more[i]? =some kv/\(br P w).is kv.1 key=true/\h.IsTuple t #[key,kv.2]
 |[],[],_,_=>⟨[],.nil,rfl,rfl,fun i t e=>by simp at e⟩
 |[],_::_,e,_=>by simp at e
 |_::_,[],e,_=>by simp at e
 |t::ts,kv::kvs,e,hp=>by
  obtain⟨more,a1,a2,a3,a4⟩:=jr ok ts kvs (by simpa using e) fun i t' kv' e1 e2=>hp (i+1) t' kv' (by simpa using e1) (by simpa using e2)
  obtain⟨_,its,r,o,h1,h2,n,h3⟩:=(show ObjOk P w H h t (.tup [kV kv.1,kv.2]) from ok t _ (hp 0 t kv rfl rfl))
  obtain⟨u,v,rfl,ru,rv⟩:=r.two
  refine⟨(kv.1,v)::more,.cons ⟨rfl,rv⟩ a1,by simp [a2],by simp [a3],fun i t' e1=>?_⟩
  cases i with
  |zero=>
   have e':t=t':=by simpa using e1
   subst e'
   exact⟨(kv.1,v),u,rfl,iY ru,o,h1,h2,n,h3⟩
  |succ i=>
   obtain⟨kv',key,b1,b2,b3⟩:=a4 i t' (by simpa using e1)
   exact⟨kv',key,by simpa using b1,b2,b3⟩
end
inductive rC (xs:List V)(H:Hp)(Q:VK):Prop
 |mk (l:Addr)(ts:List Addr)(kvs:List (bG×V))(hx:xs=[.ref l])(h:H l=some (.lst (ts.map V.ref)))(hl:ts.length=kvs.length)(hp:∀ (i:Nat) (t:Addr) (kv:bG×V),ts[i]? =some t->kvs[i]? =some kv->H t=some (.tup [kV kv.1,kv.2])) (nd:(kvs.map (·.1)).Nodup) (z:kvs.length<=900)
  (q:∀ d,H d=none->Q (.ref d) (upd H d (.dK kvs))):rC xs H Q
section
variable {X:Cx}
theorem d7 (hc:X.calm=true):cL X (.type "dict") rC:=by
 intro pins s σ H xs us Q I r h
 obtain⟨l,ts,kvs,rfl,hH,hl,hp,nd,z,q⟩:=h
 obtain⟨u,rfl,ru⟩:=r.one
 cases ru
 obtain⟨z1,its,n,rv,hlen,e⟩:=I.lstM hH
 obtain⟨more,a1,a2,a3,a4⟩:=jr I.hok ts kvs hl hp
 have hits:its.length=ts.length:=by
  rw[← hlen,List.length_map]
 refine DP.call_pairs (knd:=br X.prog X.w) (more:=more) (I.ok.hd hc) e rfl rfl rfl (by rw[List.size_toArray];omega) (by rw[List.size_toArray];omega) (fun i v hv=>?_) fun h' tk hd hk=>?_
 ·have hv':its[i]? =some v:=by simpa using hv
  have hi:i < ts.length:=by
   have:=(List.getElem?_eq_some_iff.mp hv').1
   omega
  have ht:ts[i]? =some ts[i]:=List.getElem?_eq_getElem hi
  obtain⟨kv,key,b1,b2,b3⟩:=a4 i _ ht
  have hx:(ts.map V.ref)[i]? =some (.ref ts[i]):=by rw[List.getElem?_map,ht];rfl
  obtain⟨v',hv2,rv'⟩:=rv.get hx
  rw[hv'] at hv2
  cases hv2
  cases rv'
  exact⟨kv,key,_,b1,b2,rfl,b3⟩
 ·rw[merged_nil_of_nodup more (by rw[a3];exact nd)] at hd
  refine⟨.ref s.heap.objs.size,_,I.laid (a:=s.heap.objs.size) (o:=.dK kvs) (t':=tk) (fun b q hq=>hk b q hq) (Nat.le_refl _) (jX (Nat.le_of_lt (aB (by omega))) (beq_eq_false_iff_ne.mpr (Ne.symm (Nat.ne_of_lt I.big))) a1 hd),rfl,q _ (I.hok.fresh (Nat.le_refl _))⟩
end
end L2
namespace L2
open PySem PySem.Spec PyProof.Rows
def vK (c:TT)(t u:sZ):sZ:=fun EX D σ H=>c σ H fun b H1=>if b=true then t EX D σ H1 else u EX D σ H1
theorem om {X:Cx}{c:Expr}{a b:List Stmt}{pos:Pos}{tc:TT}{t u:sZ}(hno:∀ e s,X.xe e s->False)(hc:PT X c tc)(ha:uM X a t)(hb:uM X b u):uM X [.If c a b pos] (vK tc t u):=by
 intro pins s σ H D EX I h
 refine wpAny_execs_cons (wpAny_If (wpAny_mono (hc pins s σ H _ I h) (fun d s1 ⟨H1,I1,q1⟩=>?_) fun e' s' z=>(hno e' s' z).elim))
 cases d with
 |true=>
  refine aK (wpAny_mono (ha pins s1 σ H1 D EX I1 q1) (fun fl s2 q2=>?_) fun _ _ z=>z)
  cases fl with
  |next=>exact wpAny_execs_nil q2
  |ret v=>exact q2
  |brk=>exact q2
  |cont=>exact q2
 |false=>
  refine ax (wpAny_mono (hb pins s1 σ H1 D EX I1 q1) (fun fl s2 q2=>?_) fun _ _ z=>z)
  cases fl with
  |next=>exact wpAny_execs_nil q2
  |ret v=>exact q2
  |brk=>exact q2
  |cont=>exact q2
end L2
namespace L2
open PySem PySem.Spec PyProof.Rows
section
variable {M:Model}{A:Around}{E:Value->Shared->Prop}{env:Env}{C N:Addr}{nm q:Str}{bs bm:List Value}{hdct ab:Bool}{sn:List Str}{sub:List Value}{col:Option Bool}{dd:Option Addr}{k0 k1 k2 k3 k5:Option Value}{newId:String}
end
end L2
namespace L2
open PySem
section
variable {K:PySem.W.Frag}{a D:Addr}{xs:List V}{g:TG}{tt:TT}{te:TE}{σ0:St}{H1:Hp}{Q:VK}
end
end L2
namespace L2
open PySem
theorem PEi.out {X:Cx}{e:Expr}{te:TE}(h:PEi X e te):PE X e te:=by
 unfold PEi at h
 exact h
theorem PEi.tup {X:Cx}{es:List Expr}{t:TA}{pos:Pos}{k:Nat}(h:PAi X es t):PEi X (.Tuple es k pos) (uj t):=by
 unfold PAi at h
 unfold PEi
 exact bR h
theorem df {X:Cx}{st:Stmt}{rest:List Stmt}{t:TS}{G:TS->Prop}(h:PS X st t)(k:∃ u,PSs X rest u/\G (gx t u)):∃ v,PSs X (st::rest) v/\G v:=by
 obtain⟨u,hu,g⟩:=k
 exact⟨_,ag h hu,g⟩
@[irreducible] def PSi (X:Cx) (st:Stmt) (t:TS):Prop:=PS X st t
@[irreducible] def PSsi (X:Cx) (sts:List Stmt) (t:TS):Prop:=PSs X sts t
section
variable {X:Cx}{e a b:Expr}{te ta tb:TE}{pos:Pos}{st:Stmt}{t u:TS}
end
end L2
namespace L2
open PySem PySem.Spec PyProof.Rows
section
variable {X:Cx}
end
end L2
namespace L2
open PySem
section
variable {K:PySem.W.Frag}{a D:Addr}{xs:List V}{tt:TT}{te:TE}{σ0:St}{H1:Hp}{Q:VK}
end
end L2
namespace HD
open PySem PySem.W PySem.Calls PyProof.Rows
noncomputable def mI (sp:SharedT->Thread->Option (SharedT×Thread))(ok th:Thread->Bool)(n:Nat):SharedT->Thread->Option SharedT:=
 @Nat.rec (fun _=>SharedT->Thread->Option SharedT) (fun _ _=>none)
  (fun _ ih s t=>@Bool.rec (fun _=>Option SharedT)
   (@Bool.rec (fun _=>Option SharedT) none
    (@Option.rec (SharedT×Thread) (fun _=>Option SharedT) none
     (fun r=>@Prod.rec SharedT Thread (fun _=>Option SharedT) (fun s' t'=>@Bool.rec (fun _=>Option SharedT) none (ih s' t') (Nat.ble s'.toks 1000000000)) r) (sp s t)) (ok t))
   (some s) (th t)) n
theorem lm {tb:String->Option Builtin}{p:Program}{w:World}{n₀:Nat}{ann:Option Value}:∀ (n:Nat) (s s':SharedT) (t:Thread),
  mI (stepT (denote tb) p w) (stepOk n₀ ann) through n s t=some s'->topRun tb p w n₀ ann n s.abs t=some s'.abs
 |0,s,s',t,h=>by cases h
 |n+1,s,s',t,h=>by
  have h:@Bool.rec (fun _=>Option SharedT)
   (@Bool.rec (fun _=>Option SharedT) none
    (@Option.rec (SharedT×Thread) (fun _=>Option SharedT) none
     (fun r=>@Prod.rec SharedT Thread (fun _=>Option SharedT) (fun s' t'=>@Bool.rec (fun _=>Option SharedT) none (mI (stepT (denote tb) p w) (stepOk n₀ ann) through n s' t') (Nat.ble s'.toks 1000000000)) r) (stepT (denote tb) p w s t)) (stepOk n₀ ann t))
   (some s) (through t)=some s':=h
  unfold topRun
  cases ht:through t with
  |true=>rw[ht] at h;cases h;rfl
  |false=>
   rw[ht] at h
   cases hk:stepOk n₀ ann t with
   |false=>rw[hk] at h;cases h
   |true=>
    rw[hk] at h
    cases hs:stepT (denote tb) p w s t with
    |none=>rw[hs] at h;cases h
    |some r=>
     obtain⟨s₂,t₂⟩:=r
     rw[hs] at h
     replace h:@Bool.rec (fun _=>Option SharedT) none (mI (stepT (denote tb) p w) (stepOk n₀ ann) through n s₂ t₂) (Nat.ble s₂.toks 1000000000)=some s':=h
     rw[stepT_spec hs]
     cases hb:Nat.ble s₂.toks 1000000000 with
     |false=>rw[hb] at h;cases h
     |true=>rw[hb] at h;exact lm n _ _ _ h
noncomputable def iy (l:List Obj):BT->Nat->Option (BT×Nat):=
 @List.rec Obj (fun _=>BT->Nat->Option (BT×Nat)) (fun T n=>some (T,n))
  (fun o _ ih T n=>@Bool.rec (fun _=>Option (BT×Nat)) none (ih (T.ins n o) (n+1)) (((T.ins n o).get n).isSome)) l
theorem gU {life:Life}:∀ (l:List Obj) (T T':BT) (n n':Nat),iy l T n=some (T',n')->absHeap T' n' life=⟨(absHeap T n life).objs++l.toArray,life⟩
 |[],T,T',n,n',h=>by
  cases h
  show absHeap T n life=Heap.mk ((absHeap T n life).objs++#[]) life
  rw[Array.append_empty]
  rfl
 |o::l,T,T',n,n',h=>by
  replace h:@Bool.rec (fun _=>Option (BT×Nat)) none (iy l (T.ins n o) (n+1)) (((T.ins n o).get n).isSome)=some (T',n'):=h
  cases hb:((T.ins n o).get n).isSome with
  |false=>rw[hb] at h;cases h
  |true=>
   rw[hb] at h
   rw[gU l _ _ _ _ h,absHeap_ins hb]
   show Heap.mk ((absHeap T n life).objs.push o++l.toArray) life=_
   congr 1
   apply Array.ext'
   simp
noncomputable def look {β:Type}(sp:SharedT->Thread->Option (SharedT×Thread))(ok th:Thread->Bool)(M:Nat)(os:OsState)(P:Params)(st:Thread)(F:Shared->β):Option β:=
 @Option.rec (BT×Nat) (fun _=>Option β) none
  (fun r=>@Prod.rec BT Nat (fun _=>Option β) (fun T n=>@Option.rec SharedT (fun _=>Option β) none (fun s=>some (F s.abs)) (mI sp ok th M ⟨T,n,(boot_heap P).life,Array.mk [],boot_drawn,boot_toks,os⟩ st)) r)
  (iy (boot_heap P).objs.toList .nil 0)
theorem qD {β:Type}{tb:String->Option Builtin}{p:Program}{w:World}{n₀:Nat}{ann:Option Value}{M:Nat}{os:OsState}{F:Shared->β}{b:β}
  (h:look (stepT (denote tb) p w) (stepOk n₀ ann) through M os w.params (topStub p) F=some b):
  ∃ s,topRun tb p w n₀ ann M ⟨boot_heap w.params,Array.mk [],boot_drawn,boot_toks,os⟩ (topStub p)=some s/\F s=b:=by
 unfold look at h
 cases hi:iy (boot_heap w.params).objs.toList .nil 0 with
 |none=>rw[hi] at h;cases h
 |some r=>
  obtain⟨T,n⟩:=r
  rw[hi] at h
  replace h:@Option.rec SharedT (fun _=>Option β) none (fun s=>some (F s.abs)) (mI (stepT (denote tb) p w) (stepOk n₀ ann) through M ⟨T,n,(boot_heap w.params).life,Array.mk [],boot_drawn,boot_toks,os⟩ (topStub p))=some b:=h
  cases hr:mI (stepT (denote tb) p w) (stepOk n₀ ann) through M ⟨T,n,(boot_heap w.params).life,Array.mk [],boot_drawn,boot_toks,os⟩ (topStub p) with
  |none=>rw[hr] at h;cases h
  |some s=>
   rw[hr] at h
   have e:=gU (life:=(boot_heap w.params).life) _ _ _ _ _ hi
   have e0:(absHeap .nil 0 (boot_heap w.params).life).objs=#[]:=rfl
   rw[e0] at e
   have e1:absHeap T n (boot_heap w.params).life=boot_heap w.params:=by
    rw[e]
    show Heap.mk (#[]++(boot_heap w.params).objs.toList.toArray) _=_
    rw[Array.empty_append]
   have hr':=lm _ _ _ _ hr
   refine⟨s.abs,?_,Option.some.inj h⟩
   rw[← hr']
   show _=topRun tb p w n₀ ann M ⟨absHeap T n (boot_heap w.params).life,Array.mk [],boot_drawn,boot_toks,os⟩ (topStub p)
   rw[e1]
noncomputable def seenAt (p q:Program)(loose:List Str)(Xt:Shared->Bool)(g0:Bool)(w:World)(s:Shared):=((staticsOk (Fast.tw5923862056798008813 p.main.body) (boot_heap w.params) s.heap&&namesBound p s.heap&&gensDone s&&laidKept (boot_heap w.params) s.heap),Fast.tw4187177175401517315 q loose (Fast.tw5923862056798008813 p.main.body) Xt g0 s)
noncomputable def lookAt {β:Type}(p:Program)(m₀:Nat)(ann:Option Value)(M:Nat)(w:World)(os:OsState)(F:Shared->β):Option β:=
 look (Fast.tw10156331382660048174 (Fast.tw11892475500146522536 Fast.tw14364793385576792824) p w) (Fast.tw6613529449190102663 m₀ ann) through M os w.params (topStub p) F
theorem gW {β:Type}{p:Program}{m₀:Nat}{ann:Option Value}{M:Nat}{w:World}{os:OsState}{F:Shared->β}{b:β}(h:lookAt p m₀ ann M w os F=some b):
  ∃ s,topRun treeTable p w m₀ ann M ⟨boot_heap w.params,Array.mk [],boot_drawn,boot_toks,os⟩ (topStub p)=some s/\F s=b:=by
 unfold lookAt at h
 rw[← Fast.te10156331382660048174,← Fast.te11892475500146522536,← Fast.te14364793385576792824,← Fast.te6613529449190102663] at h
 exact qD h
theorem left {p q:Program}{loose:List Str}{Xt:Shared->Bool}{α:Type}{Yf:Shared->α}{Ya:World->α}{N:Nat}{g0:Bool}{m₀:Nat}{ann:Option Value}{M:Nat}
  (e:opening p=plainProg p.main.scope.names) (f:∀ s,fenceModules? p s=some s) (hN:Nat.ble 600 N=true) (le:Nat.ble M N=true)
  (size:∀ w:World,((boot_heap w.params).isNs mainGlobals&&(Array.mk []:Array GenState).size == 0,(boot_heap w.params).objs.size,(boot_heap w.params).nsMap mainGlobals "__annotations__")=(true,m₀,ann))
  (h1:∀ (w:World) (os:OsState),lookAt p m₀ ann M w os (seenAt p q loose Xt g0 w)=some (true,openGood q loose)) (h2:∀ (w:World) (os:OsState),lookAt p m₀ ann M w os Yf=some (Ya w)):
  LeftO p q loose Xt Yf Ya N g0:=fun w=>by
 obtain⟨⟨h0,gs,d,k,os⟩,a,b⟩:=Option.map_eq_some_iff.mp (boot_open e hN f w)
 obtain⟨rfl,rfl,rfl,rfl⟩:h0=boot_heap w.params/\gs=Array.mk []/\d=boot_drawn/\k=boot_toks:=by simpa using b
 obtain⟨z1,z2,z3⟩:_/\_/\_:=by simpa only [Prod.mk.injEq] using size w
 obtain⟨s,r,l⟩:=gW (h1 w os)
 obtain⟨s',r',l3⟩:=gW (h2 w os)
 rw[r] at r'
 cases r'
 unfold seenAt at l
 rw[← Fast.te5923862056798008813,← Fast.te4187177175401517315] at l
 obtain⟨l1,l2⟩:_/\_:=by simpa only [Prod.mk.injEq] using l
 have r:=topRun_mono (N - M) _ _ _ _ r
 rw[show M+(N - M)=N by have:=Nat.le_of_ble_eq_true le;omega] at r
 have t:topFrom treeTable p w N ⟨boot_heap w.params,Array.mk [],boot_drawn,boot_toks,os⟩=some s:=by
  unfold topFrom
  dsimp only
  rw[z1,z2,z3,r]
  show (match staticsOk (importedModules p.main.body) (boot_heap w.params) s.heap&&namesBound p s.heap&&gensDone s&&laidKept (boot_heap w.params) s.heap with|true=>_|false=>_)=_
  rw[l1]
 unfold openEnds
 rw[a]
 show (topFrom treeTable p w N _).map _=_
 rw[t]
 exact congrArg some (Prod.ext l2 l3)
theorem head {r:OpenRow}{q:Program}{loose:List Str}{lv:List (Str×WData)}(H:Hook){d:DefRec}{kwd:List (Str×Expr)}{N:Nat}
  (lf:LeftO r.prog q loose (fun s=>xlAt q lv s&&recOk r.records s) H.obs H.val N) (hdef:defOf q r.name=some (d,kwd)) (hp:r.prog.theDef r.name=some (d.params,d.body,d.scope)) (hk:kwWritten? d.params.kwonlyargs d.params.kw_defaults=some kwd)
  (hwr:(!r.writes || r.records.isEmpty)=true) (k1:r.wellSaid=true) (ok:(chainsOk q&&opensWell r.prog&&(frees r.toRowW&&r.within.isEmpty))=true) (hb:r.prog.bare) (hw:r.toRowW.promised)
  (hc:WalkO q loose (XL q lv) H.says r.toRowW d kwd fun f vs=>PySem.call f vs):r.Holds:=
 holds_open lf H.of H.keeps (fun s e=>xl_of s (Bool.and_eq_true_iff.mp e).1) XL.keeps hdef hp hk (fun s e=>recFacts_of (Bool.and_eq_true_iff.mp e).2) hwr k1 ok hb hw hc
end HD
namespace L2
open PySem PySem.Spec PyProof.Rows
section
variable {prog:Program}{w:World}{A:Around}{E:Value->Shared->Prop}{h:Heap}{g:Array GenState}{d:Drawn}{t:Nat}{os:OsState}{x C:Addr}{K:PySem.W.Frag}{f:Str}{v:Value}{vs:Array Value}
end
end L2
namespace L2
open PySem PySem.Spec PyProof.Rows
section
variable {X:Cx}{o e:Expr}{es:List Expr}{ta:TE}{t:TA}{apos pos:Pos}{D:Addr}
end
section
variable {X:Cx}{e:Expr}{te:TE}{p1 p2 p3 pos:Pos}{a b:Str}{j k:Nat}
end
section
variable {X:Cx}{o value:Expr}{f:Str}{pos pos':Pos}{ta tv:TE}
end
section
variable {P:Program}{w:World}{K:PySem.W.Frag}{mg:Str->Option Value}{base:Heap}{N:List Str}{qual:Str}{scope:Scope}{f:Addr}{cd:Value}{A:Around}{outer:List Env}{s:Shared}{H:Hp}{E:XK}
end
end L2
namespace L2
open PySem PySem.Spec PyProof.Rows
section
variable {X:Cx}{pins:List (Addr×Obj)}{σ:St}{H:Hp}{s:Shared}{h':Heap}
end
section
variable {P:Program}{w:World}{K:PySem.W.Frag}{mg:Str->Option Value}{base:Heap}{N:List Str}{qual:Str}{scope:Scope}{f:Addr}{cd:Value}{A:Around}{outer:List Env}{s:Shared}{H:Hp}{E:XK}
end
end L2
namespace L2
open PySem PySem.Spec PyProof.Rows
section
variable {P:Program}{w:World}{K:PySem.W.Frag}{mg:Str->Option Value}{base:Heap}{N:List Str}{qual:Str}{scope:Scope}{f:Addr}{cd:Value}{A:Around}{outer:List Env}{s:Shared}{H:Hp}{E:XK}
end
section
variable {X:Cx}{j k:Nat}{f:Addr}{fd:FuncData}{ps:List Str}{sp:Sp}{x:Str}{p pos:Pos}{e:Expr}{es:List Expr}{t:TA}
end
section
variable {P:Program}{w:World}{outer:List Env}{H H':Hp}{s s':Shared}{B h':Heap}{ea C d:Addr}{dx:Option Addr}{cls a0:Value}
end
section
variable {X:Cx}
end
section
variable {X:Cx}{e:Expr}{f:Str}{pos:Pos}{ta:TE}
end
end L2
namespace L2
open PySem PySem.Spec PyProof.Rows
theorem FnOk.or {P:Program}{w:World}{K:PySem.W.Frag}{mg:Str->Option Value}{base:Heap}{CX:mf}{k:Nat}{f:Addr}{fd:FuncData}{ps:List Str}{sp sp':Sp}(F:FnOk P w K mg base CX k f fd ps sp)(G:FnOk P w K mg base CX k f fd ps sp'):FnOk P w K mg base CX k f fd ps (fun vs H Q E=>sp vs H Q E\/sp' vs H Q E):=
 ⟨fun vs H Q E h=>h.elim (F.len vs H Q E) (G.len vs H Q E),fun A outer s H args us vs Q E hr e0 hb hv h=>h.elim (F.run A outer s H args us vs Q E hr e0 hb hv) (G.run A outer s H args us vs Q E hr e0 hb hv)⟩
section
variable {X:Cx}
end
end L2
namespace L2
open PySem PySem.Spec PyProof.Rows
section
variable {K:PySem.W.Frag}{x qual:Str}{st:Stmt}{f:Addr}{fd:FuncData}{p q r s t:Str}
theorem ce {P:List Value->Prop}{n:Nat}(h:∀ (x:Value) (us:List Value),us.length=n->P (x::us))(us:List Value)(e:us.length=n+1):P us:=by
 obtain⟨x,r,rfl⟩:=List.exists_cons_of_length_eq_add_one e
 exact h x r (Nat.succ.inj e)
theorem gh {P:List Value->Prop}(h:P [])(us:List Value)(e:us.length=0):P us:=by
 rw[List.length_eq_zero_iff.mp e]
 exact h
theorem Fun.b1 (F:Fun K x qual st f fd)(h:∀ kV doc pm an cdv ct u,bindArgs (PySem.W.fnOf x qual (cu st) (b9 st) (ap st) .none kV doc pm an cdv ct) ⟨[u],[]⟩=pure [(p,u)]:=by intros;rfl):Binds K fd [p] []:=
 F.binds fun a b c d e f=>ce fun u=>gh (h a b c d e f u)
theorem Fun.b2 (F:Fun K x qual st f fd)(h:∀ kV doc pm an cdv ct u v,bindArgs (PySem.W.fnOf x qual (cu st) (b9 st) (ap st) .none kV doc pm an cdv ct) ⟨[u,v],[]⟩=pure [(p,u),(q,v)]:=by intros;rfl):Binds K fd [p,q] []:=
 F.binds fun a b c d e f=>ce fun u=>ce fun v=>gh (h a b c d e f u v)
theorem Fun.b3 (F:Fun K x qual st f fd)(h:∀ kV doc pm an cdv ct u v w,bindArgs (PySem.W.fnOf x qual (cu st) (b9 st) (ap st) .none kV doc pm an cdv ct) ⟨[u,v,w],[]⟩=pure [(p,u),(q,v),(r,w)]:=by intros;rfl):Binds K fd [p,q,r] []:=
 F.binds fun a b c d e f=>ce fun u=>ce fun v=>ce fun w=>gh (h a b c d e f u v w)
theorem Fun.b4 (F:Fun K x qual st f fd)(h:∀ kV doc pm an cdv ct u v w y,bindArgs (PySem.W.fnOf x qual (cu st) (b9 st) (ap st) .none kV doc pm an cdv ct) ⟨[u,v,w,y],[]⟩=pure [(p,u),(q,v),(r,w),(s,y)]:=by intros;rfl):Binds K fd [p,q,r,s] []:=
 F.binds fun a b c d e f=>ce fun u=>ce fun v=>ce fun w=>ce fun y=>gh (h a b c d e f u v w y)
theorem Fun.b5 (F:Fun K x qual st f fd)(h:∀ kV doc pm an cdv ct u v w y z,bindArgs (PySem.W.fnOf x qual (cu st) (b9 st) (ap st) .none kV doc pm an cdv ct) ⟨[u,v,w,y,z],[]⟩=pure [(p,u),(q,v),(r,w),(s,y),(t,z)]:=by intros;rfl):Binds K fd [p,q,r,s,t] []:=
 F.binds fun a b c d e f=>ce fun u=>ce fun v=>ce fun w=>ce fun y=>ce fun z=>gh (h a b c d e f u v w y z)
variable {h:Heap}{mg:Str->Option Value}{k:Nat}{ps:List Str}{sp:Sp}
theorem di (P:Program)(w:World)(base:Heap)(X:K.In h)(G:h.Ns mainGlobals mg)(a:PySem.W.nsIn K mainGlobals x=some (some (.ref f)))(F:Fun K x qual st f fd)(b:Binds K fd ps [])(ok:FnOk P w K mg base cA k f fd ps sp):Fn P w K mg base k x f fd ps sp:=⟨ok,b,F.kp,PySem.W.mg_of X G a⟩
theorem uS (P:Program)(w:World)(base:Heap)(X:K.In h)(G:h.Ns mainGlobals mg)(a:PySem.W.nsIn K mainGlobals x=some (some (.ref f)))(F:Fun K x qual st f fd)(b:Binds K fd ps [])(ok:FnOk P w K mg base (gv P w) k f fd ps sp):tX P w K mg base k x f fd ps sp:=⟨ok,b,F.kp,PySem.W.mg_of X G a⟩
end
end L2
namespace L2
open PySem PySem.Spec PyProof.Rows
end L2
namespace L2
open PySem PySem.Spec PyProof.Rows
section
variable {X:Cx}{pos:Pos}{k v k' v':Expr}{tk tv tk' tv':TE}
theorem gi (hk:PE X k tk)(hv:PE X v tv):PE X (.Dict [some k] [v] pos) (rq [(tk,tv)]):=qt (nE hk hv qr) rfl rfl (List.cons_ne_nil _ _) (by show 1<=15;decide)
end
end L2
namespace K62
open PySem L2 OD
def cX (i:Nat):Stmt:=PySem.Challenge.pw_oathduel_k62_bad_steps.main.body.getD i (.Pass ⟨0,0,0,0⟩)
abbrev oo:Stmt:=cX 45
abbrev tj:Stmt:=cX 47
abbrev kb:Stmt:=cX 48
abbrev oq:Stmt:=cX 49
structure vc (mg:Str->Option Value):Prop where
 len:mg "len"=none
 range:mg "range"=none
 tuple:mg "tuple"=none
 sorted:mg "sorted"=none
def cC (ns:List Int)(k:Int):Int:=ns.getD k.toNat 0
def ot (c k:Int)(b:Bool):Int:=if b=true then ((c*48271+k*69621+11) % 2147483629*((c*48271+k*69621+11) % 2147483629) % 2147483587)*((c*48271+k*69621+11) % 2147483629*((c*48271+k*69621+11) % 2147483629) % 2147483587) % 2147483563 else c
inductive rD (K:PySem.W.Frag)(vs:List V)(H:Hp)(Q:VK):Prop
 |mk (a:Addr)(ns:List Int)(k:Int)(h0:vs=[.ref a,.int k])(h1:SqL K H a (ns.map V.int))(h2:0<=k)(h3:Q (.int (cC ns k)) H):rD K vs H Q
def iz (K:PySem.W.Frag):Sp:=fun vs H Q _=>rD K vs H Q
inductive uT (vs:List V)(H:Hp)(Q:VK):Prop
 |mk (c k:Int)(b:Bool)(h0:vs=[.int c,.int k,.bl b])(h1:Q (.int (ot c k b)) H):uT vs H Q
def rE:Sp:=fun vs H Q _=>uT vs H Q
def ou (n:Int)(H:Hp)(Q:VK):Prop:=∀ (p:Addr) (ls:List Int) (H':Hp),Same H H'->H' p=some (.tup (ls.map V.int))->ClOk n ls->ls.length<=4->Q (.ref p) H'
def ln:Sp:=fun vs H Q _=>∃ c n:Int,vs=[.int c,.int n]/\0<=n/\n < 1000/\ou n H Q
inductive rF (K:PySem.W.Frag)(vs:List V)(H:Hp)(Q:VK):Prop
 |mk (a:Addr)(ns:List Int)(most:Int)(h0:vs=[.ref a,.int most])(h1:SqL K H a (ns.map V.int))(h2:ns.length<=63)(h3:0<=most)(h4:most < 20)(h5:∀ (p:Addr) (t:Str) (cs:List (List Int)) (H':Hp),Same H H'->RD H' (nR t cs) (.ref p)->wl most t cs->(∀ c∈cs,c.length<=4)->Q (.ref p) H'):rF K vs H Q
def ox (K:PySem.W.Frag):Sp:=fun vs H Q _=>rF K vs H Q
def oy (s:Int):Int:=if s=0 then 1 else -1
def eI (ps:List (Int×Int)):List (Int×Int):=ps.map fun q=>(q.1,oy q.2)
theorem oz (ps:List (Int×Int))(k s:Int):eI (gA ps k s)=gA (eI ps) k (oy s):=by
 have e:((eI ps).any fun q=>decide (q.1=k))=(ps.any fun q=>decide (q.1=k)):=by
  unfold eI
  rw[List.any_map]
  rfl
 unfold gA
 rw[e]
 split
 ·unfold eI
  rw[List.map_map,List.map_map]
  refine List.map_congr_left fun q _=>?_
  show (fun q=>(q.1,oy q.2)) (if q.1=k then (q.1,s) else q)=if q.1=k then (q.1,oy s) else (q.1,oy q.2)
  split<;>rfl
 ·unfold eI
  rw[List.map_append]
  rfl
theorem mJ (ps:List (Int×Int))(k:Int):dX (eI ps) k=(dX ps k).map oy:=by
 induction ps with
 |nil=>rfl
 |cons q r ih=>
  unfold eI at ih ⊢
  unfold dX at ih ⊢
  rw[List.map_cons,List.find?_cons,List.find?_cons]
  by_cases h:q.1=k
  ·simp [h]
  ·simp only [h,decide_false]
   exact ih
theorem gX (ps:List (Int×Int)):(eI ps).map (·.1)=ps.map (·.1):=by
 unfold eI
 rw[List.map_map]
 rfl
theorem ke (s:Int):oy s=1\/oy s=-1:=by
 unfold oy
 split
 ·exact .inl rfl
 ·exact .inr rfl
theorem tm {r:Int}(h:r=0\/r=1):ig [V.int 1,V.int (-1)] r=some (.int (oy r)):=by
 rcases h with rfl|rfl<;>rfl
section
variable {P:Program}{w:World}{K:PySem.W.Frag}{mg:Str->Option Value}{base:Heap}
theorem tq:aF ["_law_script","_law_k"] ["_law_script","_law_k"] (ap oo):=⟨rfl,rfl,rfl,by decide+kernel,rfl,by decide+kernel,by decide+kernel⟩
theorem qE {f:Addr}{fd:FuncData}(F:Fun K "_law_cell_at" "_law_cell_at" oo f fd)(T:vc mg):FnOk P w K mg base cA 1 f fd ["_law_script","_law_k"] (iz K):=by
 refine F.ok tq (fun vs H Q E h=>?_) (fun cdv A outer s H vs Q E hr h=>?_)
 ·obtain⟨a,ns,k,rfl,_⟩:=h
  rfl
 obtain⟨a,ns,k,rfl,hS,h0,q⟩:=h
 refine⟨_,(ag (aJ (aj dn (pv 1) (ai aE rfl T.len PySem.boot_len (aa (pv 0) ac)) (aq _)) (ah (al (ao ak (pv 0) (pv 1) (fun _ _=>rfl)))) au)
  (ah (al af))),?_⟩
 refine⟨_,rfl,_,rfl,.ref a,_,rfl,.inl ⟨_,hS,rfl⟩,_,_,rfl,rfl,_,rfl,?_⟩
 refine cp (fun c=>?_) (fun c=>?_)
 ·have c':k < (((ns.map V.int).length:Nat):Int):=of_decide_eq_true c
  rw[List.length_map] at c'
  obtain⟨v,hv1,hv⟩:=nJ (ns:=ns) h0 c'
  have e:cC ns k=v:=by
   unfold cC
   rw[List.getD_eq_getElem?_getD,hv1]
   rfl
  rw[e] at q
  exact⟨_,rfl,_,rfl,.inl ⟨a,_,k,.int v,rfl,rfl,hS,hv,q⟩⟩
 ·have c':¬ k < (((ns.map V.int).length:Nat):Int):=fun z=>c (decide_eq_true z)
  rw[List.length_map] at c'
  have e:cC ns k=0:=by
   unfold cC
   rw[List.getD_eq_getElem?_getD,List.getElem?_eq_none (by omega)]
   rfl
  rw[e] at q
  exact q
theorem rG:aF ["_law_cell","_law_k","_law_mixed","_law_number_here"] ["_law_cell","_law_k","_law_mixed"] (ap tj):=⟨rfl,rfl,rfl,by decide+kernel,rfl,by decide+kernel,by decide+kernel⟩
theorem tu {f:Addr}{fd:FuncData}(F:Fun K "_law_mix" "_law_mix" tj f fd):FnOk P w K mg base cA 1 f fd ["_law_cell","_law_k","_law_mixed"] rE:=by
 have sc:=rG
 refine F.ok rG (fun vs H Q E h=>?_) (fun cdv A outer s H vs Q E hr h=>?_)
 ·obtain⟨c,k,b,rfl,_⟩:=h
  rfl
 obtain⟨c,k,b,rfl,q⟩:=h
 refine⟨_,(ag (aJ (bh (aL (pv 2))) (ah (al (pv 0))) au)
  (ag (aH (i:=3) sc.nd rfl (Or.inl rfl) (av bD (av bu (av bu (av eU (pv 0) af) (av eU (pv 1) af)) af) af))
  (ag (aH (i:=3) sc.nd rfl (Or.inl rfl) (av bD (av eU (pv 3) (pv 3)) af))
  (ah (al (av bD (av eU (pv 3) (pv 3)) af)))))),?_⟩
 refine⟨_,rfl,_,rfl,?_⟩
 cases b with
 |false=>exact aK ⟨_,rfl,q⟩
 |true=>
  refine ax ?_
  unfold ot at q
  rw[if_pos rfl] at q
  refine⟨_,rfl,_,_,rfl,rfl,.inr ⟨by decide,by decide⟩,_,rfl,_,_,rfl,rfl,.inr ⟨by decide,by decide⟩,_,_,rfl,rfl,_,_,rfl,rfl,_,_,rfl,rfl,(by show (0:Int) < 2147483629;decide),?_⟩
  refine⟨_,rfl,_,rfl,_,_,rfl,rfl,.inl ⟨by omega,by omega⟩,_,_,rfl,rfl,(by show (0:Int) < 2147483587;decide),?_⟩
  exact⟨_,rfl,_,rfl,_,_,rfl,rfl,.inl ⟨by omega,by omega⟩,_,_,rfl,rfl,(by show (0:Int) < 2147483563;decide),q⟩
theorem lp:aF ["_law_number_here","_law_count","_law_signs","_law_size","_law_k"] ["_law_number_here","_law_count"] (ap kb):=⟨rfl,rfl,rfl,by decide+kernel,rfl,by decide+kernel,by decide+kernel⟩
inductive js (n:Int)(d:Addr)(c:Int)(H:Hp)(i:Nat)(σ:List (Option V))(H2:Hp):Prop
 |mk (cc:Int)(ps:List (Int×Int))(jv:Option V)(i0:σ=[some (.int cc),some (.int n),some (.ref d),some (.int (c % 5)),jv])(i1:H2 d=some (.dK (dP ps)))(i2:Same H H2)(i3:DOk n (eI ps))(i4:(∀ z∈ps,z.2=0\/z.2=1))(i5:ps.length<=i):js n d c H i σ H2
inductive jt (d:Addr)(ks:List Int)(ps:List (Int×Int))(D:Addr)(H3:Hp)(i:Nat)(σ:List (Option V))(ys:List V)(H4:Hp):Prop
 |mk (i0:(∃ v0,σ=[v0,some (.ref d)]))(i1:ys=((ks.take i).map fun k=>V.int (k*sV (eI ps) k)))(i2:H4 D=some (.lst ys))(i3:(∀ b o,b≠D->H3 b=some o->H4 b=some o)):jt d ks ps D H3 i σ ys H4
theorem oA {f:Addr}{fd:FuncData}(F:Fun K "_law_drawn" "_law_drawn" kb f fd)(T:vc mg):FnOk P w K mg base cA 1 f fd ["_law_number_here","_law_count"] ln:=by
 have sc:=lp
 refine F.ok lp (fun vs H Q E h=>?_) (fun cdv A outer s H vs Q E hr h=>?_)
 ·obtain⟨c,n,rfl,_⟩:=h
  rfl
 obtain⟨c,n,rfl,n0,n1,q⟩:=h
 have hu:=hr.units
 have hu1:=uA hr
 refine⟨_,(ag (aH (i:=2) sc.nd rfl (Or.inr rfl) i9)
  (ag (aH (i:=3) sc.nd rfl (Or.inl rfl) (av bD (pv 0) af))
  (ag (aH (i:=0) sc.nd rfl (Or.inl rfl) (av b8 (pv 0) af))
  (ag (cP PassesOwn.never rfl (eT rfl T.range (aa (pv 3) ac)) (aA (i:=4) sc.nd rfl (Or.inl rfl))
   (ah (aJ (aj dS (pv 1) af (aq _)) (ag (qq hu1 (pv 2) (av bu af (av bD (pv 0) (pv 1))) (av bD (av b8 (pv 0) (pv 1)) af) rfl)
    (ah (aH (i:=0) sc.nd rfl (Or.inl rfl) (av b8 (pv 0) (av eU af (pv 1)))))) au)))
  (ah (al (bj bM rfl T.tuple PyProof.Rows.boot_tuple (aa (aN (NY:=["_law_variable","_law_signs"]) (idx:=[none,some 2]) rfl ⟨by with_unfolding_all rfl,(by with_unfolding_all exact⟨rfl,trivial⟩),fun _=>by rfl,by rfl,by rfl,by rfl,by decide⟩ (bc (ai (jh rfl) rfl T.sorted PyProof.Rows.boot_sorted (aa (pv 2) ac))) (fun _ _ _ _=>(aA (i:=0) (show List.Nodup (["_law_variable","_law_signs"]:List Str) by decide+kernel) rfl (Or.inl rfl))) (fun _ _ _ _=>cE) (fun _ _ _ _=>(av eU (pv 0) (ao (dM (K:=K) rfl) (aR (aa af (aa (fm dm af) ac))) (qp hu1 (pv 1) (pv 0) (fun _ _=>rfl)) (fun _ _=>rfl))))) ac)))))))),?_⟩
 intro d hd
 have c5:=Int.emod_nonneg c (show (5:Int)≠0 by decide)
 have c5':=Int.emod_lt_of_pos c (show (0:Int) < 5 by decide)
 refine⟨_,rfl,_,_,rfl,rfl,(by show (0:Int) < 5;decide),_,rfl,_,_,rfl,rfl,⟨by decide,by decide⟩,?_⟩
 refine⟨_,rfl,c % 5,rfl,(by omega),(by omega),gF (lo:=0) (n:=(c % 5).toNat)
  (js n d c H)
  ⟨_,[],none,rfl,ad,ae hd _,DOk.nil n,(fun _ z=>nomatch z),Nat.le_refl _⟩ ?_ ?_⟩
 ·rintro i σ H2 hi ⟨cc,ps,jv,rfl,hd2,k2,hok,h01,hl⟩
  refine⟨_,rfl,_,_,rfl,rfl,_,rfl,cp (fun g=>?_) (fun g=>?_)⟩
  ·have g':0 < n:=of_decide_eq_true g
   have m1:=Int.emod_nonneg cc (show n≠0 by omega)
   have m2:=Int.emod_lt_of_pos cc g'
   have s1:=Int.emod_nonneg (cc / n) (show (2:Int)≠0 by decide)
   have s2:=Int.emod_lt_of_pos (cc / n) (show (0:Int) < 2 by decide)
   refine⟨_,rfl,_,rfl,_,_,rfl,rfl,⟨g',by omega⟩,_,_,rfl,rfl,(by show (0:Int) < 2;decide),?_⟩
   refine⟨_,rfl,_,rfl,_,rfl,_,_,rfl,rfl,g',_,_,rfl,rfl,d,_,rfl,DPut.k (k:=Sum.inl (1+cc % n)) hd2 (by unfold dP;rw[List.length_map];exact aB (by omega)),?_⟩
   refine⟨_,rfl,_,rfl,_,_,rfl,rfl,.inl ⟨by decide,by decide⟩,_,_,rfl,rfl,⟨by omega,by omega⟩,?_⟩
   obtain⟨o1,o2⟩:=hok.put (k:=1+cc % n) (s:=oy (cc / n % 2)) (by omega) (ke _)
   rw[← oz] at o1 o2
   have ml:∀ l:List (Int×Int),(eI l).length=l.length:=fun l=>List.length_map _
   rw[ml,ml] at o2
   refine⟨_,gA ps (1+cc % n) (cc / n % 2),_,rfl,?_,k2.upd_new hd _,o1,fun z hz=>?_,by omega⟩
   ·rw[ad]
    exact congrArg (fun z=>some (HO.dK z)) (sT _ _ _)
   ·unfold gA at hz
    split at hz
    ·obtain⟨y,hy,e⟩:=List.mem_map.mp hz
     split at e
     ·rw[← e]
      show cc / n % 2=0\/cc / n % 2=1
      omega
     ·rw[← e]
      exact h01 y hy
    ·rcases List.mem_append.mp hz with y|y
     ·exact h01 z y
     ·rw[List.mem_singleton.mp y]
      show cc / n % 2=0\/cc / n % 2=1
      omega
  ·exact⟨cc,ps,_,rfl,hd2,k2,hok,h01,by omega⟩
 ·rintro σ H2 ⟨cc,ps,jv,rfl,hd2,k2,hok,h01,hl⟩
  refine⟨_,rfl,d,dP ps,ps.map (·.1),rfl,hd2,qy ps,by rw[List.length_map];omega,fun l ks hl' hperm hpw=>⟨l,rfl,⟨_,SqL.of ad⟩,fun D hD=>?_⟩⟩
  have hkl:ks.length=ps.length:=by rw[hperm.length_eq,List.length_map]
  have k3:=k2.upd_new (k2.free hl') (.lst (ks.map V.int))
  have hd3:upd H2 l (.lst (ks.map V.int)) d=some (.dK (dP ps)):=by rw[ay (am hd2 hl')];exact hd2
  have hl3:upd H2 l (.lst (ks.map V.int)) l=some (.lst (ks.map V.int)):=ad
  generalize upd H2 l (.lst (ks.map V.int))=H3 at k3 hd3 hl3 hD
  refine cr (K:=K) (a:=l) (xs:=ks.map V.int) (jt d ks ps D H3)
   ⟨⟨none,rfl⟩,rfl,ad,fun b o hb e=>by rw[ay hb];exact e⟩ ?_ ?_ ?_
  ·rintro i σ ys H4 _ ⟨_,_,h1,h2⟩
   exact⟨h1,SqL.of (h2 _ _ (am hl3 hD) hl3)⟩
  ·rintro i x σ ys H4 hx ⟨⟨v0,rfl⟩,hys,h1,h2⟩
   obtain⟨k,rfl,hk⟩:=cU hx
   have km:k∈ps.map (·.1):=hperm.mem_iff.mp (List.mem_of_getElem? hk)
   obtain⟨hlk,hsg⟩:=hok.look (k:=k) (by rw[gX];exact km)
   rw[mJ] at hlk
   obtain⟨r,hr1,hr2⟩:=Option.map_eq_some_iff.mp hlk
   have hr01:r=0\/r=1:=by
    unfold dX at hr1
    obtain⟨y,hy1,hy2⟩:=Option.map_eq_some_iff.mp hr1
    rw[← hy2]
    exact h01 y (List.mem_of_find?_eq_some hy1)
   have hil:i < ks.length:=(List.getElem?_eq_some_iff.mp hk).1
   have hyl:ys.length<=60:=by
    rw[hys,List.length_map,List.length_take]
    omega
   have nd:d≠D:=am hd3 hD
   refine fY ⟨_,rfl,_,rfl,(by show 2<=sizeLine;decide),fun e he=>?_⟩
   have hd5:upd H4 e (.lst [.int 1,.int (-1)]) d=some (.dK (dP ps)):=by rw[ay (am (h2 _ _ nd hd3) he)];exact h2 _ _ nd hd3
   have hv:DGet (upd H4 e (.lst [.int 1,.int (-1)])) d (.int k) (some (.int r)):=by
    have z:=DGet.k (k:=Sum.inl k) hd5
    rw[sU,hr1] at z
    exact z
   refine⟨_,rfl,_,rfl,d,_,rfl,hv,.inl ⟨e,_,r,_,rfl,rfl,SqL.of ad,tm hr01,_,_,rfl,rfl,.inr ⟨?_,?_⟩,?_,aB (by omega),⟨_,rfl⟩,?_,ad,fun b o hb eb=>?_⟩⟩
   ·rcases ke r with z|z<;>rw[z]<;>decide
   ·rcases ke r with z|z<;>rw[z]<;>decide
   ·rw[ay (am h1 he)]
    exact h1
   ·rw[hys,List.take_add_one,hk,List.map_append,hr2]
    rfl
   ·have eb4:=h2 b o hb eb
    rw[ay hb,ay (am eb4 he)]
    exact eb4
  ·rintro σ ys H4 ⟨_,hys,h1,h2⟩
   rw[List.length_map,List.take_of_length_le (Nat.le_refl _)] at hys
   have hys':ys=(ks.map fun k=>k*sV (eI ps) k).map V.int:=by rw[hys,List.map_map];rfl
   refine⟨D,ys,rfl,.inl ⟨SqL.of h1,fun t ht=>?_⟩⟩
   have nH:H D=none:=k3.free hD
   have k4:Same H H4:=fun b o e=>h2 b o (am e nH) (k3 b o e)
   refine q t _ _ (k4.upd_new (k4.free ht) _) (by rw[ad,hys']) (hok.clause (by rw[gX];exact hperm) hpw) ?_
   rw[List.length_map]
   omega
end
end K62
namespace K62
open PySem L2 OD
theorem qF {ns:List Int}:(cf (ns.map V.int) (some 3) (some 15)).length<=12:=by
 unfold cf
 have e1:HT.sIx (ns.map V.int).length 0 (some 3)=min 3 (ns.map V.int).length:=HT.sIx_nat _ 0 3
 have e2:HT.sIx (ns.map V.int).length (ns.map V.int).length (some 15)=min 15 (ns.map V.int).length:=HT.sIx_nat _ _ 15
 rw[e1,e2,List.length_take,List.length_drop]
 omega
theorem qG {A B:TS}{D:gw}{σ:St}{H:Hp}(h:∀ N:St->Hp->Prop,(∀ σ' H',B D σ' H'->N σ' H')->A {D with nx:=N} σ H):gx A B D σ H:=h (fun σ H=>B D σ H) (fun _ _ z=>z)
section
variable {P:Program}{w:World}{K:PySem.W.Frag}{mg:Str->Option Value}{base:Heap}
theorem oB:aF ["_law_script","_law_most","_law_first","_law_count","_law_turn","_law_odd_here","_law_clauses","_law_cell","_law_turns"] ["_law_script","_law_most"] (ap oq):=⟨rfl,rfl,rfl,by decide+kernel,rfl,by decide+kernel,by decide+kernel⟩
inductive gY (a:Addr)(most:Int)(first:Int)(ns:List Int)(qa:Addr)(p2:Addr)(H:Hp)(r0:Int)(i:Nat)(σ:List (Option V))(H3:Hp):Prop
 |mk (xs:List V)(cs:List (List Int))(v7:Option V)(i0:σ=[some (.ref a),some (.int most),some (.int first),some (.int (first / 2 % (most+1))),some (.int (ot (cC ns 1) 1 (decide (V.int (first % 2)=V.int 1)))),some (.int (cC ns 2 / 7)),some (.ref qa),v7,none])(i1:H3 qa=some (.lst xs))(i2:H3 p2=some (.lst (cf (ns.map V.int) (some 3) (some 15))))(i3:CLs H3 cs xs)(i4:Same H H3)(i5:cs.length=i)(i6:∀ c∈cs,ClOk r0 c/\c.length<=4):gY a most first ns qa p2 H r0 i σ H3
inductive gZ (r1:Int)(H3:Hp)(D:Addr)(i:Nat)(σ:List (Option V))(ys:List V)(H2:Hp):Prop
 |mk (i0:(∃ v0,σ=[v0,some (.int r1)]))(i1:(∃ ss:List Str,ys=ss.map V.str/\ss.length=i/\∀ s∈ss,gb s))(i2:H2=upd H3 D (.lst ys)):gZ r1 H3 D i σ ys H2
inductive fe (ns:List Int)(D2:Addr)(H:Hp)(qa:Addr)(xs:List V)(cs:List (List Int))(r0:Int)(i:Nat)(σ:List (Option V))(ys:List V)(H4:Hp):Prop
 |mk (i0:(∃ v0,σ=[v0,some (.int (cC ns 2 / 7))]))(i1:H4 D2=some (.lst ys))(i2:Same H H4)(i3:H4 qa=some (.lst xs))(i4:CLs H4 cs xs)(cs':List (List Int))(i5:cs'.length<=i)(i6:CLs H4 cs' ys)(i7:∀ c∈cs',ClOk r0 c/\c.length<=4):fe ns D2 H qa xs cs r0 i σ ys H4
theorem qH {f f1 f2 f3:Addr}{fd d1 d2 d3:FuncData}(F:Fun K "_law_sentence" "_law_sentence" oq f fd)(T:vc mg)(G_law_cell_at:Fn P w K mg base 1 "_law_cell_at" f1 d1 ["_law_script","_law_k"] (iz K))(G_law_mix:Fn P w K mg base 1 "_law_mix" f2 d2 ["_law_cell","_law_k","_law_mixed"] rE)
  (G_law_drawn:Fn P w K mg base 1 "_law_drawn" f3 d3 ["_law_number_here","_law_count"] ln):FnOk P w K mg base cA 2 f fd ["_law_script","_law_most"] (ox K):=by
 have sc:=oB
 refine F.ok oB (fun vs H Q E h=>?_) (fun cdv A outer s H vs Q E hr h=>?_)
 ·obtain⟨a,ns,most,rfl,_⟩:=h
  rfl
 obtain⟨a,ns,most,rfl,hS,h63,o0,o1,q⟩:=h
 have hu:=hr.units
 refine⟨_,(ag (aH (i:=2) sc.nd rfl (Or.inl rfl) (aC G_law_cell_at hr (by omega) rfl (aa (pv 0) (aa af ac))))
  (ag (aH (i:=3) sc.nd rfl (Or.inl rfl) (av bD (av b8 (pv 2) af) (av bu (pv 1) af)))
  (ag (aH (i:=4) sc.nd rfl (Or.inr rfl) (aC G_law_mix hr (by omega) rfl (aa (aC G_law_cell_at hr (by omega) rfl (aa (pv 0) (aa af ac))) (aa af (aa (bg (aM hu) (av bD (pv 2) af) af (aq _)) ac)))))
  (ag (aH (i:=5) sc.nd rfl (Or.inr rfl) (av b8 (aC G_law_cell_at hr (by omega) rfl (aa (pv 0) (aa af ac))) af))
  (ag (aH (i:=6) sc.nd rfl (Or.inl rfl) (aR ac))
  (ag (cP PassesOwn.never rfl (bc (aX bn (pv 0) (bf af) (bf af))) (aA (i:=7) sc.nd rfl (Or.inl rfl))
   (ah (cY (fS PySem.F.plainAttrs_list PySem.F.slot_list_append PySem.F.type_list_append cJ (pv 6) (aa (aC G_law_drawn hr (by omega) rfl (aa (aC G_law_mix hr (by omega) rfl (aa (pv 7) (aa (av bu (ai aE rfl T.len PySem.boot_len (aa (pv 6) ac)) af) (aa (bg (aM hu) (av bD (pv 2) af) af (aq _)) ac)))) (aa (pv 3) ac))) ac)))))
  (ag (aJ (PW.pt (b_ (aj dS (ai aE rfl T.len PySem.boot_len (aa (pv 6) ac)) af (aq _)) (cg (aj (aM hu) (av bD (pv 5) af) af (aq _))))) (ah (cY (fS PySem.F.plainAttrs_list PySem.F.slot_list_append PySem.F.type_list_append cJ (pv 6) (aa (ao ak (pv 6) (av bD (av b8 (pv 5) af) (ai aE rfl T.len PySem.boot_len (aa (pv 6) ac))) (fun _ _=>rfl)) ac)))) au)
  (ag (aH (i:=8) sc.nd rfl (Or.inl rfl) (fS PySem.F.plainAttrs_str PySem.F.slot_str_join PySem.F.type_str_join qw az (aa (aN (NY:=["_law_k","_law_turn"]) (idx:=[none,some 4]) rfl ⟨by with_unfolding_all rfl,(by with_unfolding_all exact⟨rfl,trivial⟩),fun _=>by rfl,by rfl,by rfl,by rfl,by decide⟩ (eT rfl T.range (aa (pv 3) ac)) (fun _ _ _ _=>(aA (i:=0) (show List.Nodup (["_law_k","_law_turn"]:List Str) by decide+kernel) rfl (Or.inl rfl))) (fun _ _ _ _=>cE) (fun _ _ _ _=>(ao (dM (K:=K) rfl) az (av sB (av sA (pv 1) (pv 0)) af) (fun _ _=>rfl)))) ac)))
  (ah (al (bR (aa (pv 8) (aa (aN (NY:=["_law_clause","_law_odd_here"]) (idx:=[none,some 5]) rfl ⟨by with_unfolding_all rfl,(by with_unfolding_all exact⟨rfl,trivial⟩),fun _=>by rfl,by rfl,by rfl,by rfl,by decide⟩ (bc (pv 6)) (fun _ _ _ _=>(aA (i:=0) (show List.Nodup (["_law_clause","_law_odd_here"]:List Str) by decide+kernel) rfl (Or.inl rfl))) (fun _ _ _ _=>(aZ (PW.pt (bK (aj dS (ai (mt (K:=K) rfl) rfl T.len PySem.boot_len (aa (pv 0) ac)) af (aq _)) (bT (aj (aM hu) (av bD (av b8 (pv 1) af) af) af (aq _))))))) (fun _ _ _ _=>(pv 0))) ac))))))))))))),?_⟩
 refine⟨_,rfl,a,ns,0,rfl,hS,Int.le_refl 0,?_⟩
 generalize cC ns 0=first
 refine⟨_,rfl,_,_,rfl,rfl,⟨by decide,by decide⟩,_,rfl,_,_,rfl,rfl,_,_,rfl,rfl,(by show (0:Int) < most+1;omega),?_⟩
 have x0:=Int.emod_nonneg (first / 2) (show most+1≠0 by omega)
 have x1:=Int.emod_lt_of_pos (first / 2) (show 0 < most+1 by omega)
 refine⟨_,rfl,a,ns,1,rfl,hS,(by decide),_,rfl,_,_,rfl,rfl,(by show (0:Int) < 2;decide),.inl ⟨rfl,_,_,_,rfl,?_⟩⟩
 refine⟨_,rfl,a,ns,2,rfl,hS,(by decide),_,_,rfl,rfl,⟨by decide,by decide⟩,?_⟩
 refine⟨Nat.zero_le _,fun qa hqa=>?_⟩
 have nqa:H qa=none:=hqa
 have hr0:∃ r0:Int,first / 2 % (most+1)=r0:=⟨_,rfl⟩
 obtain⟨r0,hr0⟩:=hr0
 rw[hr0] at x0 x1
 refine⟨_,rfl,3,rfl,15,rfl,a,_,rfl,(ae hqa _).seq hS,fun p2 hp2=>⟨p2,rfl,⟨_,SqL.of ad⟩,?_⟩⟩
 obtain⟨ms,hms,_⟩:=nT ns (some 3) (some 15)
 have hm12:=qF (ns:=ns)
 have k3:Same H (upd (upd H qa (.lst [])) p2 (.lst (cf (ns.map V.int) (some 3) (some 15)))):=(ae hqa _).upd_new ((ae hqa _).free hp2) _
 have hp3:upd (upd H qa (.lst [])) p2 (.lst (cf (ns.map V.int) (some 3) (some 15))) p2=some (.lst (cf (ns.map V.int) (some 3) (some 15))):=ad
 have nqp:qa≠p2:=am ad hp2
 have hq3:upd (upd H qa (.lst [])) p2 (.lst (cf (ns.map V.int) (some 3) (some 15))) qa=some (.lst []):=by rw[ay nqp];exact ad
 refine dk (K:=K) (a:=p2) (xs:=cf (ns.map V.int) (some 3) (some 15)) (gY a most first ns qa p2 H r0)
  ⟨[],[],none,rfl,hq3,hp3,.nil,k3,rfl,fun _ z=>nomatch z⟩ ?_ ?_ ?_
 ·rintro i σ H3 _ ⟨_,_,_,_,_,g,_⟩
  exact SqL.of g
 ·rintro i x σ H3 hx ⟨xs,cs,v7,rfl,g1,g2,g3,g4,g5,g6⟩
  have hil:i < (cf (ns.map V.int) (some 3) (some 15)).length:=(List.getElem?_eq_some_iff.mp hx).1
  rw[hms] at hx
  obtain⟨cz,rfl,_⟩:=cU hx
  refine⟨_,rfl,.inl ⟨rfl,_,SqL.of g1⟩,_,rfl,_,rfl,.ref qa,_,rfl,.inl ⟨_,SqL.of g1,rfl⟩,_,_,rfl,rfl,_,rfl,_,_,rfl,rfl,(by show (0:Int) < 2;decide),.inl ⟨rfl,_,_,_,rfl,_,rfl,_,_,rfl,?_⟩⟩
  rw[hr0]
  refine⟨x0,by omega,fun p4 ls H4 k4 hp4 hls hl4=>?_⟩
  have h4:=k4 _ _ g1
  refine⟨qa,_,_,rfl,rfl,h4,(by rw[← g3.length,g5];exact aB (by omega)),?_⟩
  refine⟨xs++[.ref p4],cs++[ls],_,by rw[hr0];rfl,ad,by rw[ay nqp.symm];exact k4 _ _ g2,CLs.snoc (CL.upd ⟨p4,rfl,hp4⟩ h4) ((g3.mono k4).upd h4),fun b o e=>?_,by rw[List.length_append,g5];rfl,fun c hc=>?_⟩
  ·rw[ay (am e nqa)]
   exact k4 _ _ (g4 _ _ e)
  ·rcases List.mem_append.mp hc with z|z
   ·exact g6 c z
   ·rw[List.mem_singleton.mp z]
    exact⟨hls,hl4⟩
 rintro σ H3 ⟨xs,cs,v7,rfl,g1,g2,g3,g4,g5,g6⟩
 have hc12:cs.length<=12:=by omega
 clear g2 hp3 hq3 k3
 dsimp only
 refine qG fun N hN=>?_
 have key:∀ (xs:List V) (cs:List (List Int)) (H3:Hp),H3 qa=some (.lst xs)->CLs H3 cs xs->Same H H3->cs.length<=13->(∀ c∈cs,ClOk r0 c/\c.length<=4)->
   N [some (.ref a),some (.int most),some (.int first),some (.int (first / 2 % (most+1))),some (.int (ot (cC ns 1) 1 (decide (V.int (first % 2)=V.int 1)))),some (.int (cC ns 2 / 7)),some (.ref qa),v7,none] H3:=by
  clear g1 g3 g4 g5 g6 hc12
  intro xs cs H3 g1 g3 g4 g5 g6
  refine hN _ _ ?_
  generalize ot (cC ns 1) 1 (decide (V.int (first % 2)=V.int 1))=r1
  refine⟨rfl,_,rfl,first / 2 % (most+1),rfl,(by omega),(by omega),fun D hD=>?_⟩
  refine fZ (lo:=0) (n:=(first / 2 % (most+1)).toNat) (gZ r1 H3 D) ⟨⟨none,rfl⟩,⟨[],rfl,rfl,fun _ h=>nomatch h⟩,rfl⟩ ?_ ?_ ?_
  ·rintro i σ ys H2 _ ⟨_,_,rfl⟩
   exact ad
  ·rintro i σ ys H2 hi ⟨⟨v0,rfl⟩,⟨ss,rfl,hss,hsg⟩,rfl⟩
   have e0:Builtin.bitAnd (r1 / 2 ^ ((0:Int)+(i:Int)).toNat) 1=r1 / 2 ^ ((0:Int)+(i:Int)).toNat % 2:=PyProof.Rows.bitAnd_m1 _
   obtain⟨ch,hch,hs⟩:=uI (j:=Builtin.bitAnd (r1 / 2 ^ ((0:Int)+(i:Int)).toNat) 1) (by rw[e0];exact Int.emod_nonneg _ (by decide)) (by rw[e0];exact Int.emod_lt_of_pos _ (by decide))
   refine fY ⟨_,rfl,_,rfl,_,_,rfl,rfl,(by show (0:Int)<=0+(i:Int);omega),_,_,rfl,rfl,.inr (.inr ⟨_,_,ch,rfl,rfl,(by decide+kernel),hch,ad,(by rw[List.length_map];exact aB (by omega)),⟨_,rfl⟩,⟨ss++[⟨#[ch]⟩],by rw[List.map_append];rfl,by rw[List.length_append,hss];rfl,fun z hz=>?_⟩,fA⟩)⟩
   rcases List.mem_append.mp hz with w|w
   ·exact hsg z w
   ·rw[List.mem_singleton.mp w]
    exact hs
  rintro σ ys H2 ⟨_,⟨ss,rfl,hss,hsg⟩,rfl⟩
  obtain⟨tl,tw⟩:=nU hsg
  refine⟨_,D,ss,rfl,rfl,SqL.of ad,?_,?_⟩
  ·rw[gP hsg,show (Str.ofString "").length=0 from by decide+kernel]
   omega
  generalize Txt.join (Str.ofString "") ss=t at tl tw
  have kD:Same H3 (upd H3 D (.lst (ss.map V.str))):=ae hD _
  have g1':=kD _ _ g1
  have g3':=g3.mono kD
  have k2:=g4.trans kD
  clear hD
  generalize upd H3 D (.lst (ss.map V.str))=H2 at k2 g1' g3'
  have tlen:(t.length:Int)=r0:=by omega
  refine⟨_,rfl,_,rfl,qa,rfl,⟨_,SqL.of g1'⟩,fun D2 hD2=>?_⟩
  have nD2:H D2=none:=k2.free hD2
  have nq:qa≠D2:=am g1' hD2
  refine cr (K:=K) (a:=qa) (xs:=xs) (fe ns D2 H qa xs cs r0)
   ⟨⟨none,rfl⟩,ad,k2.upd_new nD2 _,by rw[ay nq];exact g1',g3'.mono (ae hD2 _),[],Nat.zero_le _,.nil,fun _ h=>nomatch h⟩ ?_ ?_ ?_
  ·rintro i σ ys H4 _ ⟨_,h1,_,h2,_⟩
   exact⟨h1,SqL.of h2⟩
  ·rintro i x σ ys H4 hx ⟨⟨v0,rfl⟩,j1,j2,j3,j4,cs',j5,j6,j7⟩
   have hil:i < xs.length:=(List.getElem?_eq_some_iff.mp hx).1
   have hcl:=g3.length
   obtain⟨c,hc,tc,rfl,htc⟩:=j4.get hx
   have hcm:c∈cs:=List.mem_of_getElem? hc
   have sz:ys.length < sizeLine:=by rw[← j6.length];exact aB (by omega)
   have nqD:qa≠D2:=nq
   have kp:∀ v0,fe ns D2 H qa xs cs r0 (i+1) [some v0,some (.int (cC ns 2 / 7))] (ys++[.ref tc]) (upd H4 D2 (.lst (ys++[.ref tc]))):=by
    intro v0
    refine⟨⟨_,rfl⟩,ad,j2.upd_new nD2 _,by rw[ay nqD];exact j3,j4.upd j1,cs'++[c],by rw[List.length_append];exact Nat.succ_le_succ j5,CLs.snoc (CL.upd ⟨tc,rfl,htc⟩ j1) (j6.upd j1),fun z hz=>?_⟩
    rcases List.mem_append.mp hz with y|y
    ·exact j7 z y
    ·rw[List.mem_singleton.mp y]
     exact g6 c hcm
   refine⟨_,rfl,.ref tc,_,rfl,.inr ⟨_,SqT.of htc,rfl⟩,_,_,rfl,rfl,_,rfl,cp (fun _=>aK ⟨_,rfl,j1,sz,kp _⟩) (fun _=>?_)⟩
   refine⟨_,rfl,_,_,rfl,rfl,⟨by decide,by decide⟩,_,_,rfl,rfl,(by show (0:Int) < 8;decide),.inl ⟨rfl,_,rfl,cp (fun _=>⟨_,rfl,j1,sz,kp _⟩) (fun _=>?_)⟩⟩
   exact⟨⟨_,rfl⟩,j1,j2,j3,j4,cs',by omega,j6,j7⟩
  ·rintro σ ys H4 ⟨_,j1,j2,j3,j4,cs',j5,j6,j7⟩
   refine⟨(by show 2<=sizeLine;decide),fun p5 hp5=>?_⟩
   have k5:Same H4 (upd H4 p5 (.tup [.str t,.ref D2])):=ae hp5 _
   have hcl:=g3.length
   refine q p5 t cs' _ (j2.trans k5) (qz ad (k5 _ _ j1) (j6.mono k5)) ⟨by omega,tw,by omega,fun c hc=>?_⟩ fun c hc=>(j7 c hc).2
   rw[tlen]
   exact (j7 c hc).1
 refine⟨_,rfl,.ref qa,_,rfl,.inl ⟨_,SqL.of g1,rfl⟩,_,_,rfl,rfl,_,rfl,cp (fun c1=>?_) (fun c1=>?_)⟩
 ·have c1':(0:Int) < ((xs.length:Nat):Int):=of_decide_eq_true c1
  refine⟨_,rfl,_,_,rfl,rfl,(by show (0:Int) < 6;decide),.inl ⟨rfl,_,rfl,cp (fun c2=>?_) (fun c2=>?_)⟩⟩
  ·have z0:=Int.emod_nonneg (cC ns 2 / 7 / 6) (show ((xs.length:Nat):Int)≠0 by omega)
   have z1:=Int.emod_lt_of_pos (cC ns 2 / 7 / 6) c1'
   obtain⟨x,hx,hxa⟩:=nI (xs:=xs) z0 z1
   obtain⟨c,hc,tc,rfl,htc⟩:=g3.get hx
   refine⟨_,rfl,.inl ⟨rfl,_,SqL.of g1⟩,_,rfl,_,rfl,_,_,rfl,rfl,⟨by decide,by decide⟩,_,rfl,.ref qa,_,rfl,.inl ⟨_,SqL.of g1,rfl⟩,_,_,rfl,rfl,c1',.inl ⟨qa,xs,_,_,rfl,rfl,SqL.of g1,hxa,?_⟩⟩
   refine⟨qa,_,_,rfl,rfl,g1,(by rw[← g3.length];exact aB (by omega)),?_⟩
   refine key (xs++[.ref tc]) (cs++[c]) _ ad (CLs.snoc (CL.upd ⟨tc,rfl,htc⟩ g1) (g3.upd g1)) (fun b o e=>?_) (by rw[List.length_append];exact Nat.succ_le_succ hc12) fun z hz=>?_
   ·rw[ay (am e nqa)]
    exact g4 _ _ e
   ·rcases List.mem_append.mp hz with y|y
    ·exact g6 z y
    ·rw[List.mem_singleton.mp y]
     exact g6 c (List.mem_of_getElem? hc)
  ·exact key xs cs H3 g1 g3 g4 (by omega) g6
 ·exact ax (key xs cs H3 g1 g3 g4 (by omega) g6)
end
end K62
namespace K62
open PySem L2 OD
abbrev iA:Stmt:=cX 19
structure vL (mg:Str->Option Value):Prop where
 len:mg "len"=none
 g_WISHER:cx mg "WISHER" (.str (Str.ofString "wisher"))
 g_SPOILER:cx mg "SPOILER" (.str (Str.ofString "spoiler"))
inductive rH (vs:List V)(H:Hp)(Q:VK):Prop
 |mk (p:Addr)(t:Str)(w:V)(i:Nat)(h0:vs=[.ref p,.int ((i:Int)+1)])(h1:H p=some (.tup [.str t,w]))(h2:i < t.length)(h3:t.length<=900)(h4:Q (.str (bx (cK t i))) H):rH vs H Q
def kf:Sp:=fun vs H Q _=>rH vs H Q
section
variable {P:Program}{w:World}{K:PySem.W.Frag}{mg:Str->Option Value}{base:Heap}
theorem ju:aF ["sentence","variable","turns"] ["sentence","variable"] (ap iA):=⟨rfl,rfl,rfl,by decide+kernel,rfl,by decide+kernel,by decide+kernel⟩
theorem mK {f:Addr}{fd:FuncData}(F:Fun K "hand_of" "hand_of" iA f fd)(T:vL mg):FnOk P w K mg base cA 1 f fd ["sentence","variable"] kf:=by
 have sc:=ju
 refine F.ok ju (fun vs H Q E h=>?_) (fun cdv A outer s H vs Q E hr h=>?_)
 ·obtain⟨p,t,w,i,rfl,_⟩:=h
  rfl
 obtain⟨p,t,w,i,rfl,hp,hi,h9,q⟩:=h
 have hu:=hr.units
 refine⟨_,(ag (aH (i:=2) sc.nd rfl (Or.inl rfl) (ao ak (pv 0) af (fun _ _=>rfl)))
  (ag (aJ (bh (nr iU iU af (pv 1) (ai aE rfl T.len PySem.boot_len (aa (pv 2) ac)))) (ah nb) au)
  (ah (al (fO (aj (aM hu) (ao ak (pv 2) (av cB (pv 1) af) (fun _ _=>rfl)) az (aq _)) (aI rfl T.g_WISHER) (aI rfl T.g_SPOILER)))))),?_⟩
 refine⟨_,rfl,.inr (.inl ⟨p,_,0,.str t,rfl,rfl,SqT.of hp,rfl,?_⟩)⟩
 have e1:decide ((1:Int)<=(i:Int)+1)=true:=decide_eq_true (by omega)
 have e2:decide ((i:Int)+1<=((t.length:Nat):Int))=true:=decide_eq_true (by omega)
 have hil:i < t.cps.toList.length:=by
  rw[Array.length_toList]
  exact hi
 have hch:=List.getElem?_eq_getElem hil
 have hat:ig t.cps.toList ((i:Int)+1 - 1)=some t.cps.toList[i]:=by
  have e:(i:Int)+1 - 1=(i:Int):=by omega
  rw[e]
  exact aS hch
 refine⟨_,rfl,_,_,rfl,rfl,_,rfl,?_⟩
 rw[e1]
 refine aK ⟨_,rfl,.str t,_,rfl,⟨Nat.le_of_lt (aB (by omega)),rfl⟩,_,_,rfl,rfl,_,rfl,?_⟩
 rw[e2]
 refine ax ?_
 refine⟨_,rfl,_,rfl,_,_,rfl,rfl,.inr (.inr ⟨t,_,_,rfl,rfl,Nat.le_of_lt (aB (by omega)),hat,.inl ⟨rfl,_,rfl,?_⟩⟩)⟩
 rw[rA,← nW hch]
 cases g:cK t i with
 |true=>
  rw[g] at q
  exact aK q
 |false=>
  rw[g] at q
  exact ax q
end
end K62
namespace K62
open PySem L2 OD
abbrev oC:Stmt:=cX 13
abbrev iB:Stmt:=cX 14
abbrev tz:Stmt:=cX 15
structure vM (mg:Str->Option Value):Prop where
 isinstance:mg "isinstance"=none
 int:mg "int"=none
 bool:mg "bool"=none
 tuple:mg "tuple"=none
 list:mg "list"=none
 len:mg "len"=none
 all:mg "all"=none
 enumerate:mg "enumerate"=none
def tY (d:PyData):Prop:=∀ ds,d=.tuple ds->SeqAt.shaped (ds.getD 0 .none)=true
inductive rJ (vs:List V)(H:Hp)(Q:VK):Prop
 |mk (v:V)(d:PyData)(h0:vs=[v])(h1:RD H d v)(h2:Q (.bl (fW d&&!im d)) H):rJ vs H Q
def cS:Sp:=fun vs H Q _=>rJ vs H Q
inductive lq (vs:List V)(H:Hp)(Q:VK):Prop
 |mk (v:V)(d:PyData)(many:Nat)(h0:vs=[v,.int (many:Int)])(h1:RD H d v)(h2:Q (.bl (bo many d).isSome) H):lq vs H Q
def dH:Sp:=fun vs H Q _=>lq vs H Q
inductive uU (vs:List V)(H:Hp)(Q:VK):Prop
 |mk (v:V)(d:PyData)(w:Str)(n:Nat)(h0:vs=[v,.str w,.int (n:Int)])(h1:RD H d v)(h2:1<=n)(h3:SeqAt.shaped (.str w)=true)(h4:tY d)(h5:Q (.bl (OD.formB w n d)) H):uU vs H Q
def rK:Sp:=fun vs H Q _=>uU vs H Q
theorem eJ {H:Hp}{ds:List PyData}{xs:List V}(h:d_ H ds xs)(hl:ds.length=2):∃ d0 d1 x0 x1,ds=[d0,d1]/\xs=[x0,x1]/\RD H d0 x0/\RD H d1 x1:=by
 have hl2:=fB h
 match ds,xs,hl,hl2 with
 |[d0,d1],[x0,x1],_,_=>exact⟨d0,d1,x0,x1,rfl,rfl,c7 (j:=0) h rfl,c7 (j:=1) h rfl⟩
theorem d8 {H:Hp}{ds:List PyData}{xs:List V}(h:d_ H ds xs)(hl:ds.length=3):∃ d0 d1 d2 x0 x1 x2,ds=[d0,d1,d2]/\xs=[x0,x1,x2]/\RD H d0 x0/\RD H d1 x1/\RD H d2 x2:=by
 have hl2:=fB h
 match ds,xs,hl,hl2 with
 |[d0,d1,d2],[x0,x1,x2],_,_=>exact⟨d0,d1,d2,x0,x1,x2,rfl,rfl,c7 (j:=0) h rfl,c7 (j:=1) h rfl,c7 (j:=2) h rfl⟩
theorem oE {σ:St}{H:Hp}{A B:Hp->Prop}(h:A H):vE σ H fun b H4=>if b=true then A H4 else B H4:=by
 show (if true=true then A H else B H)
 exact aK h
section
variable {P:Program}{w:World}{K:PySem.W.Frag}{mg:Str->Option Value}{base:Heap}
theorem tD:aF ["thing"] ["thing"] (ap oC):=⟨rfl,rfl,rfl,by decide+kernel,rfl,by decide+kernel,by decide+kernel⟩
theorem qI {f:Addr}{fd:FuncData}(F:Fun K "is_number" "is_number" oC f fd)(T:vM mg):FnOk P w K mg base cA 1 f fd ["thing"] cS:=by
 refine F.ok tD (fun vs H Q E h=>?_) (fun cdv A outer s H vs Q E hr h=>?_)
 ·obtain⟨v,d,rfl,_⟩:=h
  rfl
 obtain⟨v,d,rfl,hd,q⟩:=h
 have nd:=e_ hd
 refine⟨_,(ah (al (dj (ai bU rfl T.isinstance PyProof.Rows.boot_isinstance (aa (pv 0) (aa (cD (v:=.ty "int") rfl T.int PyProof.Rows.boot_int rfl) ac))) (eS (m_ (ai bU rfl T.isinstance PyProof.Rows.boot_isinstance (aa (pv 0) (aa (cD (v:=.ty "bool") rfl T.bool PyProof.Rows.boot_bool rfl) ac)))))))),?_⟩
 refine⟨_,rfl,v,_,"int",_,rfl,ja d v hd,lb d nd,_,rfl,?_⟩
 cases hI:fW d with
 |false=>
  rw[hI] at q
  exact ax q
 |true=>
  rw[hI] at q
  exact aK ⟨_,rfl,v,_,"bool",_,rfl,ja d v hd,jb d nd,_,rfl,q⟩
theorem jw:aF ["thing","many"] ["thing","many"] (ap iB):=⟨rfl,rfl,rfl,by decide+kernel,rfl,by decide+kernel,by decide+kernel⟩
theorem mL {f g:Addr}{fd gd:FuncData}(F:Fun K "is_place" "is_place" iB f fd)(Gis_number:Fn P w K mg base 1 "is_number" g gd ["thing"] cS):FnOk P w K mg base cA 2 f fd ["thing","many"] dH:=by
 have sc:=jw
 refine F.ok jw (fun vs H Q E h=>?_) (fun cdv A outer s H vs Q E hr h=>?_)
 ·obtain⟨v,d,many,rfl,_⟩:=h
  rfl
 obtain⟨v,d,many,rfl,hd,q⟩:=h
 refine⟨_,(ah (al (dj (aC Gis_number hr (by omega) rfl (aa (pv 0) ac)) (eS (nn iU dn af (pv 0) (pv 1)))))),?_⟩
 refine⟨_,rfl,v,d,rfl,hd,_,rfl,?_⟩
 rcases iu d with⟨z,rfl⟩|hn
 ·obtain rfl:=aV hd
  refine aK ?_
  have q':Q (.bl (if 0<=z/\z < (many:Int) then some z.toNat else none).isSome) H:=q
  refine⟨_,rfl,_,_,rfl,rfl,_,rfl,?_⟩
  by_cases h0:0<=z
  ·rw[decide_eq_true h0]
   refine aK ⟨_,rfl,_,_,rfl,rfl,?_⟩
   by_cases h1:z < (many:Int)
   ·rw[if_pos ⟨h0,h1⟩] at q'
    show Q (.bl (decide (z < (many:Int)))) H
    rw[decide_eq_true h1]
    exact q'
   ·rw[if_neg fun c=>h1 c.2] at q'
    show Q (.bl (decide (z < (many:Int)))) H
    rw[decide_eq_false h1]
    exact q'
  ·rw[if_neg fun c=>h0 c.1] at q'
   rw[decide_eq_false h0]
   exact ax q'
 ·rw[dN hn]
  have e:bo many d=none:=by
   cases d with
   |int z=>exact absurd rfl (hn z)
   |_=>rfl
  rw[e] at q
  exact ax q
theorem rL:aF ["thing","word","many"] ["thing","word","many"] (ap tz):=⟨rfl,rfl,rfl,by decide+kernel,rfl,by decide+kernel,by decide+kernel⟩
theorem tE {f:Addr}{fd:FuncData}(F:Fun K "begins_with" "begins_with" tz f fd)(T:vM mg):FnOk P w K mg base cA 1 f fd ["thing","word","many"] rK:=by
 have sc:=rL
 refine F.ok rL (fun vs H Q E h=>?_) (fun cdv A outer s H vs Q E hr h=>?_)
 ·obtain⟨v,d,wd,n,rfl,_⟩:=h
  rfl
 obtain⟨v,d,wd,n,rfl,hd,h1,hws,hsh,q⟩:=h
 have hu:=hr.units
 have nd:=e_ hd
 refine⟨_,(ah (al (dj (ai bU rfl T.isinstance PyProof.Rows.boot_isinstance (aa (pv 0) (aa (cD (v:=.ty "tuple") rfl T.tuple PyProof.Rows.boot_tuple rfl) ac))) (dj (bg (aM hu) (ai aE rfl T.len PySem.boot_len (aa (pv 0) ac)) (pv 2) (aq _)) (eS (bg (aM hu) (ao ak (pv 0) af (fun _ _=>rfl)) (pv 1) (aq _))))))),?_⟩
 refine⟨_,rfl,v,_,"tuple",_,rfl,ja d v hd,mq d nd,_,rfl,?_⟩
 cases d with
 |tuple ds=>
  obtain⟨a,xs,rfl,ha,hx⟩:=aU hd
  have hlen:=fB hx
  refine aK ⟨_,rfl,.ref a,_,rfl,.inr ⟨_,SqT.of ha,rfl⟩,_,rfl,.inl ⟨rfl,_,rfl,?_⟩⟩
  have q':Q (.bl (decide (ds.length=n)&&gT wd (ds.getD 0 .none))) H:=q
  by_cases h2:ds.length=n
  ·rw[decide_eq_true h2] at q'
   have e:decide (V.int ((xs.length:Nat):Int)=V.int (n:Int))=true:=decide_eq_true (by rw[hlen,h2])
   rw[e]
   obtain⟨x0,hx0⟩:∃ x0,xs[0]? =some x0:=⟨_,List.getElem?_eq_getElem (by omega)⟩
   have r0:=c7 hx hx0
   refine aK ⟨_,rfl,.inr (.inl ⟨a,xs,0,x0,rfl,rfl,SqT.of ha,aS hx0,_,rfl,.inr ⟨_,_,r0,dw wd,hsh ds rfl,hws,?_⟩⟩)⟩
   rw[oi]
   exact q'
  ·rw[decide_eq_false h2] at q'
   have e:decide (V.int ((xs.length:Nat):Int)=V.int (n:Int))=false:=decide_eq_false fun z=>h2 (by have:=V.int.inj z;omega)
   rw[e]
   exact ax q'
 |_=>exact ax q
end
end K62
namespace K62
open PySem L2 OD
abbrev oF:Stmt:=cX 29
abbrev iC:Stmt:=cX 30
abbrev kg:Stmt:=cX 31
abbrev iD:Stmt:=cX 32
abbrev oG:Stmt:=cX 33
structure qJ (mg:Str->Option Value):Prop where
 abs:mg "abs"=none
 len:mg "len"=none
 any:mg "any"=none
 g_WISHER:cx mg "WISHER" (.str (Str.ofString "wisher"))
 g_SPOILER:cx mg "SPOILER" (.str (Str.ofString "spoiler"))
def m8 (H:Hp)(p:Addr)(c:List Int):Prop:=H p=some (.tup (c.map V.int))
def cN (t:Str)(z:Int):Bool:=cK t (ar z - 1).toNat
def eK (t:Str):List Int->Bool
 |[z]=>cN t z
 |_=>false
def bF (c:List Int)(z:Int):List Int->Bool
 |[]=>false
 |x::r=>if ar z<=ar x then false else if c.contains (-x)=true then true else bF c z r
def gj (n:Nat)(c:List Int):Prop:=∀ l∈c,1<=ar l/\ar l<=(n:Int)
inductive rM (vs:List V)(H:Hp)(Q:VK):Prop
 |mk (p:Addr)(t:Str)(w:V)(z:Int)(hw:Bool)(h0:vs=[.ref p,.int z,.str (bx hw)])(h1:H p=some (.tup [.str t,w]))(h2:t.length<=900)(h3:1<=ar z)(h4:ar z<=(t.length:Int))(q:Q (.bl (cN t z == hw)) H):rM vs H Q
def gk:Sp:=fun vs H Q _=>rM vs H Q
inductive lu (vs:List V)(H:Hp)(Q:VK):Prop
 |mk (p a:Addr)(t:Str)(w:V)(c:List Int)(h0:vs=[.ref p,.ref a])(h1:H p=some (.tup [.str t,w]))(h2:t.length<=900)(h3:m8 H a c)(h4:gj t.length c)(q:Q (.bl (eK t c)) H):lu vs H Q
def jx:Sp:=fun vs H Q _=>lu vs H Q
inductive oH (vs:List V)(H:Hp)(Q:VK):Prop
 |mk (a b:Addr)(c k:List Int)(h0:vs=[.ref a,.ref b])(h1:m8 H a c)(h2:m8 H b k)(q:Q (.bl (k.all fun z=>c.contains z)) H):oH vs H Q
def lw:Sp:=fun vs H Q _=>oH vs H Q
inductive lx (vs:List V)(H:Hp)(Q:VK):Prop
 |mk (a b:Addr)(c k:List Int)(z:Int)(h0:vs=[.ref a,.ref b,.int z])(h1:m8 H a c)(h2:m8 H b k)(q:Q (.bl (bF c z k)) H):lx vs H Q
def jy:Sp:=fun vs H Q _=>lx vs H Q
inductive rN (vs:List V)(H:Hp)(Q:VK):Prop
 |mk (a l:Addr)(c:List Int)(z:Int)(xs:List V)(cs:List (List Int))(h0:vs=[.ref a,.int z,.ref l])(h1:m8 H a c)(h2:H l=some (.lst xs))(h3:CLs H cs xs)(q:Q (.bl (cs.all fun k=>bF c z k)) H):rN vs H Q
def oI:Sp:=fun vs H Q _=>rN vs H Q
theorem aW (c:List Int):(c.map V.int).all cj=true:=by
 rw[List.all_map]
 exact List.all_eq_true.mpr fun _ _=>rfl
inductive oJ (H:Hp)(a b:Addr)(c k:List Int)(i:Nat)(σ:St)(H2:Hp):Prop
 |mk (v2:Option V)(h0:σ=[some (.ref a),some (.ref b),v2])(h1:H2=H)(h2:((k.take i).all fun z=>c.contains z)=true):oJ H a b c k i σ H2
inductive oK (H:Hp)(a b:Addr)(z:Int)(c k:List Int)(i:Nat)(σ:St)(H2:Hp):Prop
 |mk (v3:Option V)(h0:σ=[some (.ref a),some (.ref b),some (.int z),v3])(h1:H2=H)(h2:bF c z k=bF c z (k.drop i)):oK H a b z c k i σ H2
inductive rO (H:Hp)(a l:Addr)(z:Int)(c:List Int)(cs:List (List Int))(i:Nat)(σ:St)(H2:Hp):Prop
 |mk (v3:Option V)(h0:σ=[some (.ref a),some (.int z),some (.ref l),v3])(h1:H2=H)(h2:((cs.take i).all fun k=>bF c z k)=true):rO H a l z c cs i σ H2
section
variable {P:Program}{w:World}{K:PySem.W.Frag}{mg:Str->Option Value}{base:Heap}
theorem oM:aF ["sentence","literal","hand"] ["sentence","literal","hand"] (ap oF):=⟨rfl,rfl,rfl,by decide+kernel,rfl,by decide+kernel,by decide+kernel⟩
theorem qK {f g:Addr}{fd gd:FuncData}(F:Fun K "is_of" "is_of" oF f fd)(T:qJ mg)(Ghand_of:Fn P w K mg base 1 "hand_of" g gd ["sentence","variable"] kf):FnOk P w K mg base cA 2 f fd ["sentence","literal","hand"] gk:=by
 have sc:=oM
 refine F.ok oM (fun vs H Q E h=>?_) (fun cdv A outer s H vs Q E hr h=>?_)
 ·obtain⟨p,t,w,z,hw,rfl,_⟩:=h
  rfl
 obtain⟨p,t,w,z,hw,rfl,hp,h9,h1,h2,q⟩:=h
 have hu:=hr.units
 refine⟨_,(ah (al (bg (aM hu) (aC Ghand_of hr (by omega) rfl (aa (pv 0) (aa (ai aO rfl T.abs PyProof.Rows.boot_abs (aa (pv 1) ac)) ac))) (pv 2) (aq _)))),?_⟩
 obtain⟨i,hi⟩:∃ i:Nat,ar z=(i:Int)+1:=⟨(ar z - 1).toNat,by omega⟩
 have e:(ar z - 1).toNat=i:=by omega
 refine⟨_,rfl,_,rfl,z,rfl,p,t,w,i,?_,hp,(by omega),h9,_,rfl,.inl ⟨rfl,?_⟩⟩
 ·show [V.ref p,V.int (ar z)]=_
  rw[hi]
 ·show Q (.bl (decide (V.str (bx (cK t i))=V.str (bx hw)))) H
  rw[eE]
  unfold cN at q
  rw[e] at q
  cases g1:cK t i<;>cases g2:hw<;>(rw[g1,g2] at q;exact q)
theorem jz:aF ["sentence","clause"] ["sentence","clause"] (ap iC):=⟨rfl,rfl,rfl,by decide+kernel,rfl,by decide+kernel,by decide+kernel⟩
theorem mM {f g:Addr}{fd gd:FuncData}(F:Fun K "is_unit" "is_unit" iC f fd)(T:qJ mg)(Gis_of:Fn P w K mg base 2 "is_of" g gd ["sentence","literal","hand"] gk):FnOk P w K mg base cA 3 f fd ["sentence","clause"] jx:=by
 have sc:=jz
 refine F.ok jz (fun vs H Q E h=>?_) (fun cdv A outer s H vs Q E hr h=>?_)
 ·obtain⟨p,a,t,w,c,rfl,_⟩:=h
  rfl
 obtain⟨p,a,t,w,c,rfl,hp,h9,ha,hok,q⟩:=h
 have hu:=hr.units
 refine⟨_,(ah (al (dj (bg (aM hu) (ai aE rfl T.len PySem.boot_len (aa (pv 1) ac)) af (aq _)) (eS (aC Gis_of hr (by omega) rfl (aa (pv 0) (aa (ao ak (pv 1) af (fun _ _=>rfl)) (aa (aI rfl T.g_WISHER) ac)))))))),?_⟩
 refine⟨_,rfl,.ref a,_,rfl,.inr ⟨_,SqT.of ha,rfl⟩,.inl ⟨rfl,_,rfl,?_⟩⟩
 match c,ha,hok,q with
 |[],ha,hok,q=>exact cp (fun z=>absurd (V.int.inj (of_decide_eq_true z)) (by decide)) (fun _=>q)
 |[z],ha,hok,q=>
  refine cp (fun _=>?_) (fun y=>absurd (decide_eq_true rfl) y)
  have hz:=hok z List.mem_cons_self
  refine⟨_,rfl,_,rfl,.inr (.inl ⟨a,_,0,.int z,rfl,rfl,SqT.of ha,rfl,p,t,w,z,true,rfl,hp,h9,hz.1,hz.2,?_⟩)⟩
  have q':Q (.bl (cN t z)) H:=q
  cases g:cN t z<;>(rw[g] at q';exact q')
 |x::y::r,ha,hok,q=>exact cp (fun z=>absurd (V.int.inj (of_decide_eq_true z)) (by simp;omega)) (fun _=>q)
theorem ly:aF ["clause","literals","literal"] ["clause","literals"] (ap kg):=⟨rfl,rfl,rfl,by decide+kernel,rfl,by decide+kernel,by decide+kernel⟩
theorem oN {f:Addr}{fd:FuncData}(F:Fun K "holds_all" "holds_all" kg f fd):FnOk P w K mg base cA 1 f fd ["clause","literals"] lw:=by
 have sc:=ly
 refine F.ok ly (fun vs H Q E h=>?_) (fun cdv A outer s H vs Q E hr h=>?_)
 ·obtain⟨a,b,c,k,rfl,_⟩:=h
  rfl
 obtain⟨a,b,c,k,rfl,ha,hb,q⟩:=h
 refine⟨_,(ag (cP PassesOwn.never rfl (ci (pv 1)) (aA (i:=2) sc.nd rfl (Or.inl rfl))
   (ah (aJ (aj bB (pv 2) (pv 0) (by with_unfolding_all rfl)) (ah (al cq)) au)))
  (ah (al cq))),?_⟩
 refine⟨_,rfl,b,rfl,⟨_,SqT.of hb⟩,kR (K:=K) (a:=b) (xs:=k.map V.int) (oJ H a b c k) ⟨none,rfl,rfl,rfl⟩ ?_ ?_ ?_⟩
 ·rintro i σ H2 _ ⟨_,_,rfl,_⟩
  exact SqT.of hb
 ·rintro i x σ H2 hx ⟨v2,rfl,rfl,hall⟩
  obtain⟨z,rfl,hz⟩:=cU hx
  have e:(if true=true then !cy (.int z) (c.map V.int) else cy (.int z) (c.map V.int))=!c.contains z:=by
   rw[if_pos rfl,bi]
  refine⟨_,rfl,_,rfl,a,_,rfl,.inr (SqT.of ha),rfl,aW c,_,rfl,?_⟩
  rw[e]
  cases g:c.contains z with
  |false=>
   refine aK ?_
   have e2:(k.all fun z=>c.contains z)=false:=List.all_eq_false.mpr ⟨z,List.mem_of_getElem? hz,by rw[g];exact Bool.false_ne_true⟩
   rw[e2] at q
   exact q
  |true=>
   refine ax ⟨_,rfl,rfl,?_⟩
   rw[List.take_add_one,hz,List.all_append,hall]
   show (c.contains z&&true)=true
   rw[g]
   rfl
 ·rintro σ H2 ⟨v2,rfl,rfl,hall⟩
  rw[List.take_of_length_le (by rw[List.length_map];exact Nat.le_refl _)] at hall
  rw[hall] at q
  exact q
theorem jA:aF ["clause","other","literal","ahead"] ["clause","other","literal"] (ap iD):=⟨rfl,rfl,rfl,by decide+kernel,rfl,by decide+kernel,by decide+kernel⟩
theorem mO {f:Addr}{fd:FuncData}(F:Fun K "has_other_way" "has_other_way" iD f fd)(T:qJ mg):FnOk P w K mg base cA 1 f fd ["clause","other","literal"] jy:=by
 have sc:=jA
 refine F.ok jA (fun vs H Q E h=>?_) (fun cdv A outer s H vs Q E hr h=>?_)
 ·obtain⟨a,b,c,k,z,rfl,_⟩:=h
  rfl
 obtain⟨a,b,c,k,z,rfl,ha,hb,q⟩:=h
 refine⟨_,(ag (cP PassesOwn.never rfl (ci (pv 1)) (aA (i:=3) sc.nd rfl (Or.inl rfl))
   (ag (aJ (aj rh (ai aO rfl T.abs PyProof.Rows.boot_abs (aa (pv 3) ac)) (ai aO rfl T.abs PyProof.Rows.boot_abs (aa (pv 2) ac)) (aq _)) (ah (al cq)) au)
   (ah (aJ (aj cI (fm dm (pv 3)) (pv 0) (by with_unfolding_all rfl)) (ah (al cq)) au))))
  (ah (al cq))),?_⟩
 refine⟨_,rfl,b,rfl,⟨_,SqT.of hb⟩,kR (K:=K) (a:=b) (xs:=k.map V.int) (oK H a b z c k) ⟨none,rfl,rfl,rfl⟩ ?_ ?_ ?_⟩
 ·rintro i σ H2 _ ⟨_,_,rfl,_⟩
  exact SqT.of hb
 ·rintro i x σ H2 hx ⟨v2,rfl,rfl,hk⟩
  obtain⟨y,rfl,hy⟩:=cU hx
  have ed:k.drop i=y::k.drop (i+1):=by
   have hi:=(List.getElem?_eq_some_iff.mp hy).1
   rw[List.drop_eq_getElem_cons hi,(List.getElem?_eq_some_iff.mp hy).2]
  have eo:bF c z (y::k.drop (i+1))=if ar z<=ar y then false else if c.contains (-y)=true then true else bF c z (k.drop (i+1)):=rfl
  rw[ed,eo] at hk
  refine⟨_,rfl,y,rfl,_,rfl,z,rfl,_,_,rfl,rfl,_,rfl,cp (fun g=>?_) (fun g=>?_)⟩
  ·rw[if_pos (show ar z<=ar y from of_decide_eq_true g)] at hk
   rw[hk] at q
   exact q
  ·rw[if_neg (show ¬ ar z<=ar y from fun n=>g (decide_eq_true n))] at hk
   have e:(if false=true then !cy (.int (-y)) (c.map V.int) else cy (.int (-y)) (c.map V.int))=c.contains (-y):=by
    rw[if_neg Bool.false_ne_true,bi]
   refine⟨_,rfl,_,rfl,_,rfl,a,_,rfl,.inr (SqT.of ha),rfl,aW c,_,rfl,?_⟩
   rw[e]
   cases g2:c.contains (-y) with
   |true=>
    rw[g2,if_pos rfl] at hk
    rw[hk] at q
    exact aK q
   |false=>
    rw[g2,if_neg Bool.false_ne_true] at hk
    exact ax ⟨_,rfl,rfl,hk⟩
 ·rintro σ H2 ⟨v2,rfl,rfl,hk⟩
  rw[List.drop_of_length_le (by rw[List.length_map];exact Nat.le_refl _)] at hk
  rw[hk] at q
  exact q
theorem oO:aF ["clause","literal","opposed","other"] ["clause","literal","opposed"] (ap oG):=⟨rfl,rfl,rfl,by decide+kernel,rfl,by decide+kernel,by decide+kernel⟩
theorem qL {f g:Addr}{fd gd:FuncData}(F:Fun K "is_blocked" "is_blocked" oG f fd)(Ghas_other_way:Fn P w K mg base 1 "has_other_way" g gd ["clause","other","literal"] jy):FnOk P w K mg base cA 2 f fd ["clause","literal","opposed"] oI:=by
 have sc:=oO
 refine F.ok oO (fun vs H Q E h=>?_) (fun cdv A outer s H vs Q E hr h=>?_)
 ·obtain⟨a,l,c,z,xs,cs,rfl,_⟩:=h
  rfl
 obtain⟨a,l,c,z,xs,cs,rfl,ha,hl,hcs,q⟩:=h
 refine⟨_,(ag (cP PassesOwn.never rfl (bc (pv 2)) (aA (i:=3) sc.nd rfl (Or.inl rfl))
   (ah (aJ (bh (aL (aC Ghas_other_way hr (by omega) rfl (aa (pv 0) (aa (pv 3) (aa (pv 1) ac)))))) (ah (al cq)) au)))
  (ah (al cq))),?_⟩
 refine⟨_,rfl,l,rfl,⟨_,SqL.of hl⟩,dk (K:=K) (a:=l) (xs:=xs) (rO H a l z c cs) ⟨none,rfl,rfl,rfl⟩ ?_ ?_ ?_⟩
 ·rintro i σ H2 _ ⟨_,_,rfl,_⟩
  exact SqL.of hl
 ·rintro i x σ H2 hx ⟨v2,rfl,rfl,hall⟩
  obtain⟨k,hk,hcl⟩:=hcs.get hx
  obtain⟨tc,rfl,htc⟩:=hcl
  refine⟨_,rfl,_,rfl,_,rfl,a,tc,c,k,z,rfl,ha,htc,_,rfl,?_⟩
  cases g:bF c z k with
  |false=>
   refine aK ?_
   have e2:(cs.all fun k=>bF c z k)=false:=List.all_eq_false.mpr ⟨k,List.mem_of_getElem? hk,by rw[g];exact Bool.false_ne_true⟩
   rw[e2] at q
   exact q
  |true=>
   refine ax ⟨_,rfl,rfl,?_⟩
   rw[List.take_add_one,hk,List.all_append,hall]
   show (bF c z k&&true)=true
   rw[g]
   rfl
 ·rintro σ H2 ⟨v2,rfl,rfl,hall⟩
  rw[List.take_of_length_le (by rw[hcs.length];exact Nat.le_refl _)] at hall
  rw[hall] at q
  exact q
end
end K62
namespace K62
open PySem L2 OD
abbrev kh:Stmt:=cX 34
abbrev ki:Stmt:=cX 35
abbrev kj:Stmt:=cX 36
abbrev kn:Stmt:=cX 37
abbrev tF:Stmt:=cX 38
def RC (H H':Hp)(o:Option (List (List Int)))(v:V):Prop:=
 match o with
 |none=>v=.non
 |some cs=>∃ (l:Addr) (xs:List V),v=.ref l/\H l=none/\H' l=some (.lst xs)/\CLs H' cs xs
def cG (cs:List (List Int))(i:Nat):List (List Int):=cs.take i++cs.drop (i+1)
def g9 (t:Str)(cs:List (List Int))(d:PyData):Option (List (List Int)):=(bo cs.length d).map fun i=>cs.take i++[dF t false (cs.getD i [])]++cs.drop (i+1)
def g_ (t:Str)(cs:List (List Int))(d:PyData):Option (List (List Int)):=(bo cs.length d).bind fun i=>if eK t (cs.getD i [])=true then some (bS ((cs.getD i []).getD 0 0) cs) else none
def fu (t:Str)(cs:List (List Int)):PyData->Option (List (List Int))
 |.int z=>if ((cs.any fun c=>c.contains z)&&!(cs.any fun c=>c.contains (-z)))=true then some (bS (if cN t z=true then z else -z) cs) else none
 |_=>none
def hG (cs:List (List Int))(d e:PyData):Option (List (List Int)):=(bo cs.length d).bind fun i=>(bo cs.length e).bind fun j=>if (!decide (i=j)&&((cs.getD j []).all fun z=>(cs.getD i []).contains z))=true then some (cG cs i) else none
def dg (t:Str)(cs:List (List Int))(i:Nat)(z:Int):Bool:=(cs.getD i []).contains z&&(cN t z&&((cs.filter fun c=>c.contains (-z)).all fun k=>bF (cs.getD i []) z k))
def dI (t:Str)(cs:List (List Int))(d:PyData):PyData->Option (List (List Int))
 |.int z=>(bo cs.length d).bind fun i=>if dg t cs i z=true then some (cG cs i) else none
 |_=>none
structure SentAt (H:Hp)(p q:Addr)(t:Str)(xs:List V)(cs:List (List Int)):Prop where
 hp:H p=some (.tup [.str t,.ref q])
 hq:H q=some (.lst xs)
 hcs:CLs H cs xs
 ht:t.length<=30
 hn:cs.length<=400
 hok:∀ c∈cs,gj t.length c
 hc:∀ c∈cs,c.length<=60
inductive v9 (b:Str->List (List Int)->PyData->Option (List (List Int)))(vs:List V)(H:Hp)(Q:VK):Prop
 |mk (p q:Addr)(t:Str)(xs:List V)(cs:List (List Int))(v:V)(d:PyData)(h0:vs=[.ref p,v])(h1:SentAt H p q t xs cs)(h2:RD H d v)(h3:∀ v' H',Same H H'->RC H H' (b t cs d) v'->Q v' H'):v9 b vs H Q
def mP (b:Str->List (List Int)->PyData->Option (List (List Int))):Sp:=fun vs H Q _=>v9 b vs H Q
inductive v_ (b:Str->List (List Int)->PyData->PyData->Option (List (List Int)))(vs:List V)(H:Hp)(Q:VK):Prop
 |mk (p q:Addr)(t:Str)(xs:List V)(cs:List (List Int))(v w:V)(d e:PyData)(h0:vs=[.ref p,v,w])(h1:SentAt H p q t xs cs)(h2:RD H d v)(h3:RD H e w)(h4:∀ v' H',Same H H'->RC H H' (b t cs d e) v'->Q v' H'):v_ b vs H Q
def qM (b:Str->List (List Int)->PyData->PyData->Option (List (List Int))):Sp:=fun vs H Q _=>v_ b vs H Q
inductive hJ (vs:List V)(H:Hp)(Q:VK):Prop
 |mk (p q:Addr)(t:Str)(w:V)(hw:Bool)(c:List Int)(h0:vs=[.ref p,.str (bx hw),.ref q])(h1:H p=some (.tup [.str t,w]))(h2:t.length<=900)(h3:m8 H q c)(h4:c.length<=60)(h5:(∀ l∈c,1<=ar l/\ar l<=(t.length:Int)))(h6:∀ (l:Addr) (H':Hp),Same H H'->m8 H' l (dF t hw c)->Q (.ref l) H'):hJ vs H Q
def d9:Sp:=fun vs H Q _=>hJ vs H Q
inductive jB (vs:List V)(H:Hp)(Q:VK):Prop
 |mk (p:Addr)(l:Int)(xs:List V)(cs:List (List Int))(h0:vs=[.ref p,.int l])(h1:H p=some (.lst xs))(h2:CLs H cs xs)(h3:cs.length<=900)(h4:∀ c∈cs,c.length<=900)(h5:∀ (q:Addr) (ys:List V) (H':Hp),Same H H'->H q=none->H' q=some (.lst ys)->CLs H' (bS l cs) ys->Q (.ref q) H'):jB vs H Q
def ff:Sp:=fun vs H Q _=>jB vs H Q
theorem jC {t:Str}{c:List Int}(h:eK t c=true):∃ z,c=[z]:=by
 match c,h with
 |[z],_=>exact⟨z,rfl⟩
theorem dY {H:Hp}{cs:List (List Int)}{xs:List V}{i:Nat}(h:CLs H cs xs)(hi:i < cs.length):∃ tc,xs[i]? =some (.ref tc)/\m8 H tc (cs.getD i [])/\cs.getD i []∈cs:=by
 have hl:=h.length
 obtain⟨x,hx⟩:∃ x,xs[i]? =some x:=⟨_,List.getElem?_eq_getElem (by omega)⟩
 obtain⟨c,hc,tc,rfl,htc⟩:=h.get hx
 have e:cs.getD i []=c:=by rw[List.getD_eq_getElem?_getD,hc];rfl
 rw[e]
 exact⟨tc,hx,htc,List.mem_of_getElem? hc⟩
section
variable {P:Program}{w:World}{K:PySem.W.Frag}{mg:Str->Option Value}{base:Heap}
theorem lz:aF ["sentence","place","clauses"] ["sentence","place"] (ap kh):=⟨rfl,rfl,rfl,by decide+kernel,rfl,by decide+kernel,by decide+kernel⟩
theorem oP {f g1 g2:Addr}{fd e1 e2:FuncData}(F:Fun K "behind_drop" "behind_drop" kh f fd)(T:qJ mg)(Gis_place:Fn P w K mg base 2 "is_place" g1 e1 ["thing","many"] dH)(Gdropped:Fn P w K mg base 3 "dropped" g2 e2 ["sentence","hand","literals"] d9):FnOk P w K mg base cA 4 f fd ["sentence","place"] (mP g9):=by
 have sc:=lz
 refine F.ok lz (fun vs H Q E h=>?_) (fun cdv A outer s H vs Q E hr h=>?_)
 ·obtain⟨p,q,t,xs,cs,v,d,rfl,_⟩:=h
  rfl
 obtain⟨p,q,t,xs,cs,v,d,rfl,S,hd,q'⟩:=h
 have hu:=hr.units
 have hlen:=S.hcs.length
 refine⟨_,(ag (aH (i:=2) sc.nd rfl (Or.inl rfl) (ao ak (pv 0) af (fun _ _=>rfl)))
  (ag (aJ (bh (aL (aC Gis_place hr (by omega) rfl (aa (pv 1) (aa (ai aE rfl T.len PySem.boot_len (aa (pv 2) ac)) ac))))) (ah (al a_)) au)
  (ah (al (av bv (av bv (aX bn (pv 2) bw (bf (pv 1))) (aR (aa (aC Gdropped hr (by omega) rfl (aa (pv 0) (aa (aI rfl T.g_SPOILER) (aa (ao ak (pv 2) (pv 1) (fun _ _=>rfl)) ac)))) ac))) (aX bn (pv 2) (bf (av bu (pv 1) af)) bw)))))),?_⟩
 refine⟨_,rfl,.inr (.inl ⟨p,_,1,.ref q,rfl,rfl,SqT.of S.hp,rfl,?_⟩)⟩
 refine⟨_,rfl,_,rfl,.ref q,_,rfl,.inl ⟨_,SqL.of S.hq,rfl⟩,v,d,cs.length,(by rw[hlen];rfl),hd,_,rfl,?_⟩
 unfold g9 at q'
 cases e:bo cs.length d with
 |none=>
  rw[e] at q'
  exact aK (q' _ _ (Same.refl _) rfl)
 |some i=>
  rw[e] at q'
  obtain⟨hi,rfl⟩:=bp e
  obtain rfl:=aV hd
  obtain⟨tc,hx,htc,hm⟩:=dY S.hcs hi
  have ht:=S.ht
  have hn:=S.hn
  refine ax ?_
  refine⟨_,rfl,_,rfl,_,rfl,q,xs,rfl,SqL.of S.hq,fun l1 q1=>?_⟩
  rw[fc]
  have k1:=ae q1 (.lst (xs.take i))
  have r1:upd H l1 (.lst (xs.take i)) l1=some (.lst (xs.take i)):=ad
  generalize upd H l1 (.lst (xs.take i))=H1 at k1 r1
  refine⟨_,rfl,_,rfl,_,rfl,.inl ⟨q,xs,(i:Int),.ref tc,rfl,rfl,SqL.of (k1 _ _ S.hq),aS hx,p,tc,t,_,false,_,rfl,k1 _ _ S.hp,(by omega),k1 _ _ htc,S.hc _ hm,S.hok _ hm,fun l2 H2 k2 r2=>⟨(by show 1<=sizeLine;decide),fun l3 q3=>?_⟩⟩⟩
  have k3:=ae q3 (.lst [.ref l2])
  refine⟨l1,l3,_,_,rfl,rfl,(k2.trans k3) _ _ r1,ad,Nat.le_of_lt (aB (by rw[List.length_take];show _+1<=1000;omega)),fun l4 q4=>?_⟩
  have k4:=ae q4 (.lst (xs.take i++[.ref l2]))
  refine⟨_,rfl,_,rfl,_,_,rfl,rfl,_,rfl,q,xs,rfl,SqL.of ((k1.trans (k2.trans (k3.trans k4))) _ _ S.hq),fun l5 q5=>?_⟩
  have ec:cf xs (some ((i:Int)+1)) none=xs.drop (i+1):=cV xs (i+1)
  rw[ec]
  have k5:=ae q5 (.lst (xs.drop (i+1)))
  refine⟨l4,l5,_,_,rfl,rfl,k5 _ _ ad,ad,Nat.le_of_lt (aB (by rw[List.length_append,List.length_take,List.length_drop];show _+1+_<=1000;omega)),fun l6 q6=>?_⟩
  have k6:=ae q6 (.lst (xs.take i++[.ref l2]++xs.drop (i+1)))
  have kk:=k1.trans (k2.trans (k3.trans (k4.trans (k5.trans k6))))
  refine q' _ _ kk ⟨l6,_,rfl,(k1.trans (k2.trans (k3.trans (k4.trans k5)))).free q6,ad,?_⟩
  exact bI (bI (bW i (S.hcs.mono kk)) (Paired.cons ⟨l2,rfl,(k3.trans (k4.trans (k5.trans k6))) _ _ r2⟩ .nil)) (bX (i+1) (S.hcs.mono kk))
theorem lA:aF ["sentence","place","clauses"] ["sentence","place"] (ap ki):=⟨rfl,rfl,rfl,by decide+kernel,rfl,by decide+kernel,by decide+kernel⟩
theorem oQ {f g1 g2 g3:Addr}{fd e1 e2 e3:FuncData}(F:Fun K "behind_unit" "behind_unit" ki f fd)(T:qJ mg)(Gis_place:Fn P w K mg base 2 "is_place" g1 e1 ["thing","many"] dH)(Gis_unit:Fn P w K mg base 3 "is_unit" g2 e2 ["sentence","clause"] jx)(Gclauses_behind:Fn P w K mg base 1 "clauses_behind" g3 e3 ["clauses","literal"] ff):FnOk P w K mg base cA 4 f fd ["sentence","place"] (mP g_):=by
 have sc:=lA
 refine F.ok lA (fun vs H Q E h=>?_) (fun cdv A outer s H vs Q E hr h=>?_)
 ·obtain⟨p,q,t,xs,cs,v,d,rfl,_⟩:=h
  rfl
 obtain⟨p,q,t,xs,cs,v,d,rfl,S,hd,q'⟩:=h
 have hlen:=S.hcs.length
 refine⟨_,(ag (aH (i:=2) sc.nd rfl (Or.inl rfl) (ao ak (pv 0) af (fun _ _=>rfl)))
  (ag (aJ (PW.pt (bK (bh (aL (aC Gis_place hr (by omega) rfl (aa (pv 1) (aa (ai aE rfl T.len PySem.boot_len (aa (pv 2) ac)) ac))))) (bT (bh (aL (aC Gis_unit hr (by omega) rfl (aa (pv 0) (aa (ao ak (pv 2) (pv 1) (fun _ _=>rfl)) ac)))))))) (ah (al a_)) au)
  (ah (al (aC Gclauses_behind hr (by omega) rfl (aa (pv 2) (aa (ao ak (ao ak (pv 2) (pv 1) (fun _ _=>rfl)) af (fun _ _=>rfl)) ac))))))),?_⟩
 refine⟨_,rfl,.inr (.inl ⟨p,_,1,.ref q,rfl,rfl,SqT.of S.hp,rfl,?_⟩)⟩
 refine⟨_,rfl,_,rfl,.ref q,_,rfl,.inl ⟨_,SqL.of S.hq,rfl⟩,v,d,cs.length,(by rw[hlen];rfl),hd,_,rfl,?_⟩
 unfold g_ at q'
 cases e:bo cs.length d with
 |none=>
  rw[e] at q'
  exact aK (aK (q' _ _ (Same.refl _) rfl))
 |some i=>
  rw[e] at q'
  obtain⟨hi,rfl⟩:=bp e
  obtain rfl:=aV hd
  obtain⟨tc,hx,htc,hm⟩:=dY S.hcs hi
  have ht:=S.ht
  have hn:=S.hn
  have hc:=S.hc
  have q2:∀ v' H',Same H H'->RC H H' (if eK t (cs.getD i [])=true then some (bS ((cs.getD i []).getD 0 0) cs) else none) v'->Q v' H':=q'
  refine ax ⟨_,rfl,_,rfl,_,rfl,.inl ⟨q,xs,(i:Int),.ref tc,rfl,rfl,SqL.of S.hq,aS hx,p,tc,t,_,_,rfl,S.hp,(by omega),htc,S.hok _ hm,_,rfl,?_⟩⟩
  cases g:eK t (cs.getD i []) with
  |false=>
   rw[g,if_neg Bool.false_ne_true] at q2
   exact aK (q2 _ _ (Same.refl _) rfl)
  |true=>
   rw[g,if_pos rfl] at q2
   obtain⟨z,hz⟩:=jC g
   rw[hz] at htc q2
   exact ax ⟨_,rfl,_,rfl,_,rfl,.inl ⟨q,xs,(i:Int),.ref tc,rfl,rfl,SqL.of S.hq,aS hx,.inr (.inl ⟨tc,_,0,.int z,rfl,rfl,SqT.of htc,rfl,q,z,xs,cs,rfl,S.hq,S.hcs,(by omega),(fun c h=>by have:=hc c h;omega),fun l ys H1 k1 n1 r1 c1=>q2 _ _ k1 ⟨l,ys,rfl,n1,r1,c1⟩⟩)⟩⟩
theorem lB:aF ["sentence","place","within","clauses"] ["sentence","place","within"] (ap kn):=⟨rfl,rfl,rfl,by decide+kernel,rfl,by decide+kernel,by decide+kernel⟩
theorem oR {f g1 g2:Addr}{fd e1 e2:FuncData}(F:Fun K "behind_within" "behind_within" kn f fd)(T:qJ mg)(Gis_place:Fn P w K mg base 2 "is_place" g1 e1 ["thing","many"] dH)(Gholds_all:Fn P w K mg base 1 "holds_all" g2 e2 ["clause","literals"] lw):FnOk P w K mg base cA 3 f fd ["sentence","place","within"] (qM fun _=>hG):=by
 have sc:=lB
 refine F.ok lB (fun vs H Q E h=>?_) (fun cdv A outer s H vs Q E hr h=>?_)
 ·obtain⟨p,q,t,xs,cs,v,w,d,e,rfl,_⟩:=h
  rfl
 obtain⟨p,q,t,xs,cs,v,w,d,e,rfl,S,hd,he,q'⟩:=h
 have hu:=hr.units
 have hlen:=S.hcs.length
 refine⟨_,(ag (aH (i:=3) sc.nd rfl (Or.inl rfl) (ao ak (pv 0) af (fun _ _=>rfl)))
  (ag (aJ (PW.pt (bK (bh (aL (aC Gis_place hr (by omega) rfl (aa (pv 1) (aa (ai aE rfl T.len PySem.boot_len (aa (pv 3) ac)) ac))))) (bK (bh (aL (aC Gis_place hr (by omega) rfl (aa (pv 2) (aa (ai aE rfl T.len PySem.boot_len (aa (pv 3) ac)) ac))))) (bT (aj (aM hu) (pv 1) (pv 2) (aq _)))))) (ah (al a_)) au)
  (ag (aJ (bh (aL (aC Gholds_all hr (by omega) rfl (aa (ao ak (pv 3) (pv 1) (fun _ _=>rfl)) (aa (ao ak (pv 3) (pv 2) (fun _ _=>rfl)) ac))))) (ah (al a_)) au)
  (ah (al (av bv (aX bn (pv 3) bw (bf (pv 1))) (aX bn (pv 3) (bf (av bu (pv 1) af)) bw))))))),?_⟩
 refine⟨_,rfl,.inr (.inl ⟨p,_,1,.ref q,rfl,rfl,SqT.of S.hp,rfl,?_⟩)⟩
 refine⟨_,rfl,_,rfl,.ref q,_,rfl,.inl ⟨_,SqL.of S.hq,rfl⟩,v,d,cs.length,(by rw[hlen];rfl),hd,_,rfl,?_⟩
 unfold hG at q'
 cases e1:bo cs.length d with
 |none=>
  rw[e1] at q'
  exact aK (aK (q' _ _ (Same.refl _) rfl))
 |some i=>
  rw[e1] at q'
  obtain⟨hi,rfl⟩:=bp e1
  obtain rfl:=aV hd
  refine ax ⟨_,rfl,_,rfl,.ref q,_,rfl,.inl ⟨_,SqL.of S.hq,rfl⟩,w,e,cs.length,(by rw[hlen];rfl),he,_,rfl,?_⟩
  cases e2:bo cs.length e with
  |none=>
   rw[e2] at q'
   exact aK (aK (q' _ _ (Same.refl _) rfl))
  |some j=>
   rw[e2] at q'
   obtain⟨hj,rfl⟩:=bp e2
   obtain rfl:=aV he
   have hn:=S.hn
   have q2:∀ v' H',Same H H'->RC H H' (if (!decide (i=j)&&((cs.getD j []).all fun z=>(cs.getD i []).contains z))=true then some (cG cs i) else none) v'->Q v' H':=q'
   refine ax ⟨_,rfl,_,rfl,.inl ⟨rfl,_,rfl,cp (fun g=>?_) (fun g=>?_)⟩⟩
   ·have eij:i=j:=by
     have:=V.int.inj (of_decide_eq_true g)
     omega
    rw[decide_eq_true eij] at q2
    exact q2 _ _ (Same.refl _) rfl
   ·have nij:i≠j:=fun z=>g (decide_eq_true (by rw[z]))
    rw[decide_eq_false nij] at q2
    obtain⟨tc,hx,htc,hm⟩:=dY S.hcs hi
    obtain⟨td,hy,htd,hm2⟩:=dY S.hcs hj
    refine⟨_,rfl,_,rfl,.inl ⟨q,xs,(i:Int),.ref tc,rfl,rfl,SqL.of S.hq,aS hx,_,rfl,_,rfl,.inl ⟨q,xs,(j:Int),.ref td,rfl,rfl,SqL.of S.hq,aS hy,tc,td,_,_,rfl,htc,htd,_,rfl,?_⟩⟩⟩
    cases g2:((cs.getD j []).all fun z=>(cs.getD i []).contains z) with
    |false=>
     rw[g2] at q2
     exact aK (q2 _ _ (Same.refl _) rfl)
    |true=>
     rw[g2] at q2
     refine ax ?_
     refine⟨_,rfl,_,rfl,_,rfl,q,xs,rfl,SqL.of S.hq,fun l1 q1=>?_⟩
     rw[fc]
     have k1:=ae q1 (.lst (xs.take i))
     refine⟨_,rfl,_,rfl,_,_,rfl,rfl,_,rfl,q,xs,rfl,SqL.of (k1 _ _ S.hq),fun l5 q5=>?_⟩
     have ec:cf xs (some ((i:Int)+1)) none=xs.drop (i+1):=cV xs (i+1)
     rw[ec]
     have k5:=ae q5 (.lst (xs.drop (i+1)))
     refine⟨l1,l5,_,_,rfl,rfl,k5 _ _ ad,ad,Nat.le_of_lt (aB (by rw[List.length_take,List.length_drop];omega)),fun l6 q6=>?_⟩
     have kk:=k1.trans (k5.trans (ae q6 (.lst (xs.take i++xs.drop (i+1)))))
     exact q2 _ _ kk ⟨l6,_,rfl,(k1.trans k5).free q6,ad,bI (bW i (S.hcs.mono kk)) (bX (i+1) (S.hcs.mono kk))⟩
end
end K62
namespace K62
open PySem L2 OD
def aP (H:Hp)(z:Int)(x:V):Bool:=match x with
 |.ref p=>match H p with
  |some (.tup zs)=>zs.contains (.int z)
  |_=>false
 |_=>false
theorem mQ (zs:List Int)(l:Int):(zs.map V.int).contains (.int l)=zs.contains l:=by
 induction zs with
 |nil=>rfl
 |cons z r ih=>
  rw[List.map_cons,List.contains_cons,List.contains_cons,ih]
  congr 1
  by_cases h:l=z
  ·rw[h];simp
  ·rw[beq_eq_false_iff_ne.mpr h,beq_eq_false_iff_ne.mpr fun e=>h (V.int.inj e)]
theorem bL {H:Hp}{z:Int}{k:List Int}{x:V}(h:CL H k x):aP H z x=k.contains z:=by
 obtain⟨p,rfl,hp⟩:=h
 unfold aP
 simp only [hp]
 exact mQ k z
theorem iE {H:Hp}{z:Int}:∀ {cs:List (List Int)} {xs:List V},CLs H cs xs->xs.any (aP H z)=cs.any fun c=>c.contains z
 |_,_,.nil=>rfl
 |k::cs,x::xs,.cons h t=>by
  rw[List.any_cons,List.any_cons,bL h,iE t]
theorem eL {H:Hp}{z:Int}:∀ {cs:List (List Int)} {xs:List V},CLs H cs xs->CLs H (cs.filter fun c=>c.contains z) (xs.filter (aP H z))
 |_,_,.nil=>.nil
 |k::cs,x::xs,.cons h t=>by
  cases g:k.contains z with
  |true=>
   rw[List.filter_cons_of_pos (by exact g),List.filter_cons_of_pos (by rw[bL h];exact g)]
   exact .cons h (eL t)
  |false=>
   rw[List.filter_cons_of_neg (by rw[g];decide),List.filter_cons_of_neg (by rw[bL h,g];decide)]
   exact eL t
theorem lC {α:Type}(l:List α)(f:α->Bool):((l.map fun x=>V.bl (f x)).all sR)=true/\(l.map fun x=>V.bl (f x)).any je=l.any f:=by
 refine⟨by rw[List.all_map];exact List.all_eq_true.mpr fun _ _=>rfl,?_⟩
 rw[List.any_map]
 rfl
section
variable {P:Program}{w:World}{K:PySem.W.Frag}{mg:Str->Option Value}{base:Heap}
theorem lD:aF ["sentence","literal","clauses"] ["sentence","literal"] (ap kj):=⟨rfl,rfl,rfl,by decide+kernel,rfl,by decide+kernel,by decide+kernel⟩
theorem oS {f g1 g2 g3:Addr}{fd e1 e2 e3:FuncData}(F:Fun K "behind_pure" "behind_pure" kj f fd)(T:qJ mg)(Gis_number:Fn P w K mg base 1 "is_number" g1 e1 ["thing"] cS)(Gis_of:Fn P w K mg base 2 "is_of" g2 e2 ["sentence","literal","hand"] gk)(Gclauses_behind:Fn P w K mg base 1 "clauses_behind" g3 e3 ["clauses","literal"] ff):FnOk P w K mg base cA 3 f fd ["sentence","literal"] (mP fu):=by
 have sc:=lD
 refine F.ok lD (fun vs H Q E h=>?_) (fun cdv A outer s H vs Q E hr h=>?_)
 ·obtain⟨p,q,t,xs,cs,v,d,rfl,_⟩:=h
  rfl
 obtain⟨p,q,t,xs,cs,v,d,rfl,S,hd,q'⟩:=h
 have hlen:=S.hcs.length
 have hn:=S.hn
 have hc:=S.hc
 have ht:=S.ht
 refine⟨_,(ag (aH (i:=2) sc.nd rfl (Or.inl rfl) (ao ak (pv 0) af (fun _ _=>rfl)))
  (ag (aJ (PW.pt (bK (bh (aL (aC Gis_number hr (by omega) rfl (aa (pv 1) ac)))) (bT (bh (aL (ai (jf rfl) rfl T.any PyProof.Rows.boot_any (aa (aN (NY:=["clause","literal"]) (idx:=[none,some 1]) rfl ⟨by with_unfolding_all rfl,(by with_unfolding_all exact⟨rfl,trivial⟩),fun _=>by rfl,by rfl,by rfl,by rfl,by decide⟩ (bc (pv 2)) (fun _ _ _ _=>(aA (i:=0) (show List.Nodup (["clause","literal"]:List Str) by decide+kernel) rfl (Or.inl rfl))) (fun _ _ _ _=>cE) (fun _ _ _ _=>(bg (bE (K:=K) rfl) (pv 1) (pv 0) (by with_unfolding_all rfl)))) ac))))))) (ah (al a_)) au)
  (ag (aJ (aL (ai (jf rfl) rfl T.any PyProof.Rows.boot_any (aa (aN (NY:=["clause","literal"]) (idx:=[none,some 1]) rfl ⟨by with_unfolding_all rfl,(by with_unfolding_all exact⟨rfl,trivial⟩),fun _=>by rfl,by rfl,by rfl,by rfl,by decide⟩ (bc (pv 2)) (fun _ _ _ _=>(aA (i:=0) (show List.Nodup (["clause","literal"]:List Str) by decide+kernel) rfl (Or.inl rfl))) (fun _ _ _ _=>cE) (fun _ _ _ _=>(bg (bE (K:=K) rfl) (fm dm (pv 1)) (pv 0) (by with_unfolding_all rfl)))) ac))) (ah (al a_)) au)
  (ah (al (aC Gclauses_behind hr (by omega) rfl (aa (pv 2) (aa (fO (aL (aC Gis_of hr (by omega) rfl (aa (pv 0) (aa (pv 1) (aa (aI rfl T.g_WISHER) ac))))) (pv 1) (fm dm (pv 1))) ac)))))))),?_⟩
 refine⟨_,rfl,.inr (.inl ⟨p,_,1,.ref q,rfl,rfl,SqT.of S.hp,rfl,?_⟩)⟩
 refine⟨_,rfl,v,d,rfl,hd,_,rfl,?_⟩
 rcases iu d with⟨z,rfl⟩|hni
 rotate_left
 ·rw[dN hni]
  have e:fu t cs d=none:=by
   cases d with
   |int z=>exact absurd rfl (hni z)
   |_=>rfl
  rw[e] at q'
  exact aK (aK (q' _ _ (Same.refl _) rfl))
 obtain rfl:=aV hd
 have q2:∀ v' H',Same H H'->RC H H' (if ((cs.any fun c=>c.contains z)&&!(cs.any fun c=>c.contains (-z)))=true then some (bS (if cN t z=true then z else -z) cs) else none) v'->Q v' H':=q'
 refine ax ⟨_,rfl,q,rfl,⟨_,SqL.of S.hq⟩,fun D hD=>?_⟩
 refine cb [some (.int z)] (fun _=>true) (fun x=>.bl (aP H z x)) rfl S.hq hD (by omega) ?_ ?_ ?_
 ·intro x hx H' R k r
  exact r
 ·intro x hx _ H' R k r
  obtain⟨i,hi⟩:=List.mem_iff_getElem?.mp hx
  obtain⟨kc,_,hcl⟩:=S.hcs.get hi
  rw[bL hcl] at r
  obtain⟨tc,rfl,htc⟩:=hcl
  refine⟨_,rfl,_,rfl,tc,_,rfl,.inr (SqT.of (k _ _ htc)),rfl,aW kc,?_⟩
  show R (.bl (cy (.int z) (kc.map V.int))) H'
  rw[bi]
  exact r
 have ef:(xs.filter fun _=>true)=xs:=List.filter_eq_self.mpr fun _ _=>rfl
 rw[ef]
 have ea:=lC xs (aP H z)
 have k1:=ae hD (.lst (xs.map fun x=>.bl (aP H z x)))
 have r1:upd H D (.lst (xs.map fun x=>.bl (aP H z x))) D=some (.lst (xs.map fun x=>.bl (aP H z x))):=ad
 generalize upd H D (.lst (xs.map fun x=>.bl (aP H z x)))=H1 at k1 r1
 refine⟨D,_,rfl,SqL.of r1,ea.1,_,rfl,?_⟩
 rw[ea.2,iE S.hcs]
 cases g1:(cs.any fun c=>c.contains z) with
 |false=>
  rw[g1] at q2
  exact aK (q2 _ _ k1 rfl)
 |true=>
 rw[g1] at q2
 refine ax ⟨_,rfl,q,rfl,⟨_,SqL.of (k1 _ _ S.hq)⟩,fun D2 hD2=>?_⟩
 refine cb [some (.int z)] (fun _=>true) (fun x=>.bl (aP H (-z) x)) rfl (k1 _ _ S.hq) hD2 (by omega) ?_ ?_ ?_
 ·intro x hx H' R k r
  exact r
 ·intro x hx _ H' R k r
  obtain⟨i,hi⟩:=List.mem_iff_getElem?.mp hx
  obtain⟨kc,_,hcl⟩:=S.hcs.get hi
  rw[bL hcl] at r
  obtain⟨tc,rfl,htc⟩:=hcl
  refine⟨_,rfl,_,rfl,_,rfl,tc,_,rfl,.inr (SqT.of (k _ _ (k1 _ _ htc))),rfl,aW kc,?_⟩
  show R (.bl (cy (.int (-z)) (kc.map V.int))) H'
  rw[bi]
  exact r
 rw[ef]
 have ea2:=lC xs (aP H (-z))
 have k2:=ae hD2 (.lst (xs.map fun x=>.bl (aP H (-z) x)))
 have r2:upd H1 D2 (.lst (xs.map fun x=>.bl (aP H (-z) x))) D2=some (.lst (xs.map fun x=>.bl (aP H (-z) x))):=ad
 generalize upd H1 D2 (.lst (xs.map fun x=>.bl (aP H (-z) x)))=H2 at k2 r2
 refine⟨D2,_,rfl,SqL.of r2,ea2.1,_,rfl,?_⟩
 rw[ea2.2,iE S.hcs]
 have k12:=k1.trans k2
 cases g2:(cs.any fun c=>c.contains (-z)) with
 |true=>
  rw[g2] at q2
  exact aK (q2 _ _ k12 rfl)
 |false=>
 rw[g2] at q2
 obtain⟨c0,hc0,hz0⟩:=List.any_eq_true.mp g1
 have hz:=S.hok c0 hc0 z (List.contains_iff_mem.mp hz0)
 have q3:∀ v' H',Same H H'->RC H H' (some (bS (if cN t z=true then z else -z) cs)) v'->Q v' H':=q2
 refine ax ⟨_,rfl,_,rfl,_,rfl,p,t,_,z,true,rfl,k12 _ _ S.hp,(by omega),hz.1,hz.2,_,rfl,?_⟩
 cases g3:cN t z with
 |true=>
  rw[g3,if_pos rfl] at q3
  exact aK ⟨_,rfl,q,z,xs,cs,rfl,k12 _ _ S.hq,S.hcs.mono k12,(by omega),(fun c h=>by have:=hc c h;omega),fun l ys H3 k3 n3 r3 c3=>q3 _ _ (k12.trans k3) ⟨l,ys,rfl,k12.free n3,r3,c3⟩⟩
 |false=>
  rw[g3,if_neg Bool.false_ne_true] at q3
  exact ax ⟨_,rfl,_,rfl,q,-z,xs,cs,rfl,k12 _ _ S.hq,S.hcs.mono k12,(by omega),(fun c h=>by have:=hc c h;omega),fun l ys H3 k3 n3 r3 c3=>q3 _ _ (k12.trans k3) ⟨l,ys,rfl,k12.free n3,r3,c3⟩⟩
theorem rP:aF ["sentence","place","literal","clauses","opposed"] ["sentence","place","literal"] (ap tF):=⟨rfl,rfl,rfl,by decide+kernel,rfl,by decide+kernel,by decide+kernel⟩
theorem tG {f g1 g2 g3 g4:Addr}{fd e1 e2 e3 e4:FuncData}(F:Fun K "behind_blocked" "behind_blocked" tF f fd)(T:qJ mg)(Gis_place:Fn P w K mg base 2 "is_place" g1 e1 ["thing","many"] dH)(Gis_number:Fn P w K mg base 1 "is_number" g2 e2 ["thing"] cS)(Gis_of:Fn P w K mg base 2 "is_of" g3 e3 ["sentence","literal","hand"] gk)(Gis_blocked:Fn P w K mg base 2 "is_blocked" g4 e4 ["clause","literal","opposed"] oI):FnOk P w K mg base cA 3 f fd ["sentence","place","literal"] (qM dI):=by
 have sc:=rP
 refine F.ok rP (fun vs H Q E h=>?_) (fun cdv A outer s H vs Q E hr h=>?_)
 ·obtain⟨p,q,t,xs,cs,v,w,d,e,rfl,_⟩:=h
  rfl
 obtain⟨p,q,t,xs,cs,v,w,d,e,rfl,S,hd,he,q'⟩:=h
 have hlen:=S.hcs.length
 have hn:=S.hn
 have ht:=S.ht
 refine⟨_,(ag (aH (i:=3) sc.nd rfl (Or.inl rfl) (ao ak (pv 0) af (fun _ _=>rfl)))
  (ag (aJ (PW.pt (bK (bh (aL (aC Gis_place hr (by omega) rfl (aa (pv 1) (aa (ai aE rfl T.len PySem.boot_len (aa (pv 3) ac)) ac))))) (bK (bh (aL (aC Gis_number hr (by omega) rfl (aa (pv 2) ac)))) (bT (aj bB (pv 2) (ao ak (pv 3) (pv 1) (fun _ _=>rfl)) (by with_unfolding_all rfl)))))) (ah (al a_)) au)
  (ag (cM (i:=4) sc.nd rfl rfl (NY:=["clause","literal"]) (idx:=[none,some 2]) rfl ⟨by with_unfolding_all rfl,(by with_unfolding_all exact⟨rfl,trivial⟩),fun _=>by rfl,by rfl,by rfl,by rfl,by decide⟩ (bc (pv 3)) (fun _ _ _ _=>(aA (i:=0) (show List.Nodup (["clause","literal"]:List Str) by decide+kernel) rfl (Or.inl rfl))) (fun _ _ _ _=>(aZ (aj (bE (K:=K) rfl) (fm dm (pv 1)) (pv 0) (by with_unfolding_all rfl)))) (fun _ _ _ _=>(pv 0)) (by with_unfolding_all rfl))
  (ag (aJ (PW.pt (bK (bh (aL (aC Gis_of hr (by omega) rfl (aa (pv 0) (aa (pv 2) (aa (aI rfl T.g_WISHER) ac)))))) (bT (bh (aL (aC Gis_blocked hr (by omega) rfl (aa (ao ak (pv 3) (pv 1) (fun _ _=>rfl)) (aa (pv 2) (aa (pv 4) ac))))))))) (ah (al a_)) au)
  (ah (al (av bv (aX bn (pv 3) bw (bf (pv 1))) (aX bn (pv 3) (bf (av bu (pv 1) af)) bw)))))))),?_⟩
 refine⟨_,rfl,.inr (.inl ⟨p,_,1,.ref q,rfl,rfl,SqT.of S.hp,rfl,?_⟩)⟩
 refine⟨_,rfl,_,rfl,.ref q,_,rfl,.inl ⟨_,SqL.of S.hq,rfl⟩,v,d,cs.length,(by rw[hlen];rfl),hd,_,rfl,?_⟩
 cases e1:bo cs.length d with
 |none=>
  have e0:dI t cs d e=none:=by
   cases e with
   |int z=>
    show (bo cs.length d).bind _=none
    rw[e1]
    rfl
   |_=>rfl
  rw[e0] at q'
  exact aK (aK (q' _ _ (Same.refl _) rfl))
 |some i=>
 obtain⟨hi,rfl⟩:=bp e1
 obtain rfl:=aV hd
 refine ax ⟨_,rfl,w,e,rfl,he,_,rfl,?_⟩
 rcases iu e with⟨z,rfl⟩|hni
 rotate_left
 ·rw[dN hni]
  have e0:dI t cs (.int (i:Int)) e=none:=by
   cases e with
   |int z=>exact absurd rfl (hni z)
   |_=>rfl
  rw[e0] at q'
  exact aK (aK (q' _ _ (Same.refl _) rfl))
 obtain rfl:=aV he
 obtain⟨tc,hx,htc,hm⟩:=dY S.hcs hi
 have q2:∀ v' H',Same H H'->RC H H' (if dg t cs i z=true then some (cG cs i) else none) v'->Q v' H':=fun v' H' k r=>q' v' H' k (by
  show RC H H' ((bo cs.length (.int (i:Int))).bind _) v'
  rw[e1]
  exact r)
 unfold dg at q2
 have e:(if true=true then !cy (.int z) ((cs.getD i []).map V.int) else cy (.int z) ((cs.getD i []).map V.int))=!(cs.getD i []).contains z:=by
  rw[if_pos rfl,bi]
 refine ax ⟨_,rfl,_,rfl,_,rfl,.inl ⟨q,xs,(i:Int),.ref tc,rfl,rfl,SqL.of S.hq,aS hx,tc,_,rfl,.inr (SqT.of htc),rfl,aW _,_,rfl,?_⟩⟩
 rw[e]
 cases g1:(cs.getD i []).contains z with
 |false=>
  rw[g1] at q2
  exact aK (q2 _ _ (Same.refl _) rfl)
 |true=>
 rw[g1] at q2
 have hz:=S.hok _ hm z (List.contains_iff_mem.mp g1)
 refine ax ⟨_,rfl,q,rfl,⟨_,SqL.of S.hq⟩,fun D hD=>?_⟩
 refine cb [some (.int z)] (aP H (-z)) (fun x=>x) rfl S.hq hD (by omega) ?_ ?_ ?_
 ·intro x hx H' R k r
  obtain⟨i,hi⟩:=List.mem_iff_getElem?.mp hx
  obtain⟨kc,_,hcl⟩:=S.hcs.get hi
  rw[bL hcl] at r
  obtain⟨td,rfl,htd⟩:=hcl
  refine⟨_,rfl,_,rfl,_,rfl,td,_,rfl,.inr (SqT.of (k _ _ htd)),rfl,aW kc,_,rfl,?_⟩
  show R (cy (.int (-z)) (kc.map V.int)) H'
  rw[bi]
  exact r
 ·intro x hx _ H' R k r
  exact⟨_,rfl,r⟩
 rw[List.map_id']
 have k1:=ae hD (.lst (xs.filter (aP H (-z))))
 have r1:upd H D (.lst (xs.filter (aP H (-z)))) D=some (.lst (xs.filter (aP H (-z)))):=ad
 generalize upd H D (.lst (xs.filter (aP H (-z))))=H1 at k1 r1
 have hop:=(eL (z:=-z) S.hcs).mono k1
 refine⟨_,rfl,_,rfl,p,t,_,z,true,rfl,k1 _ _ S.hp,(by omega),hz.1,hz.2,_,rfl,?_⟩
 cases g2:cN t z with
 |false=>
  rw[g2] at q2
  exact aK (aK (q2 _ _ k1 rfl))
 |true=>
 rw[g2] at q2
 refine ax ⟨_,rfl,_,rfl,.inl ⟨q,xs,(i:Int),.ref tc,rfl,rfl,SqL.of (k1 _ _ S.hq),aS hx,_,rfl,_,rfl,tc,D,_,z,_,_,rfl,k1 _ _ htc,r1,hop,_,rfl,?_⟩⟩
 cases g3:((cs.filter fun c=>c.contains (-z)).all fun k=>bF (cs.getD i []) z k) with
 |false=>
  rw[g3] at q2
  exact aK (q2 _ _ k1 rfl)
 |true=>
  rw[g3] at q2
  refine ax ?_
  refine⟨_,rfl,_,rfl,_,rfl,q,xs,rfl,SqL.of (k1 _ _ S.hq),fun l1 q1=>?_⟩
  rw[fc]
  have k2:=ae q1 (.lst (xs.take i))
  refine⟨_,rfl,_,rfl,_,_,rfl,rfl,_,rfl,q,xs,rfl,SqL.of ((k1.trans k2) _ _ S.hq),fun l5 q5=>?_⟩
  have ec:cf xs (some ((i:Int)+1)) none=xs.drop (i+1):=cV xs (i+1)
  rw[ec]
  have k5:=ae q5 (.lst (xs.drop (i+1)))
  refine⟨l1,l5,_,_,rfl,rfl,k5 _ _ ad,ad,Nat.le_of_lt (aB (by rw[List.length_take,List.length_drop];omega)),fun l6 q6=>?_⟩
  have kk:=k1.trans (k2.trans (k5.trans (ae q6 (.lst (xs.take i++xs.drop (i+1))))))
  exact q2 _ _ kk ⟨l6,_,rfl,(k1.trans (k2.trans k5)).free q6,ad,bI (bW i (S.hcs.mono kk)) (bX (i+1) (S.hcs.mono kk))⟩
end
end K62
namespace K62
open PySem L2 OD
abbrev ko:Stmt:=cX 39
abbrev kq:Stmt:=cX 40
def bb:Str:=Str.ofString "unit"
def bz:Str:=Str.ofString "pure"
def aD:Str:=Str.ofString "within"
def aw:Str:=Str.ofString "blocked"
theorem qN:SeqAt.shaped (.str bq)=true:=Nice.shaped (dE 8 (by decide+kernel))
theorem qO:SeqAt.shaped (.str bb)=true:=Nice.shaped (dE 8 (by decide+kernel))
theorem qP:SeqAt.shaped (.str bz)=true:=Nice.shaped (dE 8 (by decide+kernel))
theorem mR:SeqAt.shaped (.str aD)=true:=Nice.shaped (dE 8 (by decide+kernel))
theorem kr:SeqAt.shaped (.str aw)=true:=Nice.shaped (dE 8 (by decide+kernel))
def ba (t:Str)(cs:List (List Int))(d:PyData):Option (List (List Int)):=
 if formB bq 2 d=true then g9 t cs (j_ d 1)
 else if formB bb 2 d=true then g_ t cs (j_ d 1)
 else if formB bz 2 d=true then fu t cs (j_ d 1)
 else if formB aD 3 d=true then hG cs (j_ d 1) (j_ d 2)
 else if formB aw 3 d=true then dI t cs (j_ d 1) (j_ d 2)
 else none
inductive oT (vs:List V)(H:Hp)(Q:VK):Prop
 |mk (p q:Addr)(t:Str)(xs:List V)(cs:List (List Int))(v:V)(d:PyData)(h0:vs=[.ref p,v])(h1:SentAt H p q t xs cs)(h2:RD H d v)(h3:tY d)(h4:∀ v' H',Same H H'->RC H H' (ba t cs d) v'->Q v' H'):oT vs H Q
def lE:Sp:=fun vs H Q _=>oT vs H Q
structure wb (K:PySem.W.Frag)(mg:Str->Option Value)(CB:Addr):Prop where
 m_BadStep:mg "BadStep"=some (.ref CB)
 x_BadStep:PySem.W.excIn K CB [.type "ValueError",.type "Exception",.type "BaseException",.type "object"] "ValueError.__new__"=true
inductive oU (CB:Addr)(vs:List V)(H:Hp)(Q:VK)(E:XK):Prop
 |mk (p q:Addr)(t:Str)(xs:List V)(cs:List (List Int))(v:V)(d:PyData)(h0:vs=[.ref p,v])(h1:SentAt H p q t xs cs)(h2:RD H d v)(h3:tY d)
  (h4:∀ ds,ba t cs d=some ds->∀ (r l:Addr) (ys:List V) (H':Hp),Same H H'->H l=none->H' r=some (.tup [.str t,.ref l])->H' l=some (.lst ys)->CLs H' ds ys->Q (.ref r) H') (h5:ba t cs d=none->∀ H',Same H H'->E (.ref CB) none H'):oU CB vs H Q E
def iF (CB:Addr):Sp:=fun vs H Q E=>oU CB vs H Q E
section
variable {P:Program}{w:World}{K:PySem.W.Frag}{mg:Str->Option Value}{base:Heap}{CB:Addr}
theorem lF:aF ["sentence","step"] ["sentence","step"] (ap ko):=⟨rfl,rfl,rfl,by decide+kernel,rfl,by decide+kernel,by decide+kernel⟩
theorem oV {f g1 g2 g3 g4 g5 g6:Addr}{fd e1 e2 e3 e4 e5 e6:FuncData}(F:Fun K "clauses_after" "clauses_after" ko f fd)(Gbegins_with:Fn P w K mg base 1 "begins_with" g1 e1 ["thing","word","many"] rK)(Gbehind_drop:Fn P w K mg base 4 "behind_drop" g2 e2 ["sentence","place"] (mP g9))(Gbehind_unit:Fn P w K mg base 4 "behind_unit" g3 e3 ["sentence","place"] (mP g_))(Gbehind_pure:Fn P w K mg base 3 "behind_pure" g4 e4 ["sentence","literal"] (mP fu))(Gbehind_within:Fn P w K mg base 3 "behind_within" g5 e5 ["sentence","place","within"] (qM fun _=>hG))(Gbehind_blocked:Fn P w K mg base 3 "behind_blocked" g6 e6 ["sentence","place","literal"] (qM dI)):FnOk P w K mg base cA 5 f fd ["sentence","step"] lE:=by
 have sc:=lF
 refine F.ok lF (fun vs H Q E h=>?_) (fun cdv A outer s H vs Q E hr h=>?_)
 ·obtain⟨p,q,t,xs,cs,v,d,rfl,_⟩:=h
  rfl
 obtain⟨p,q,t,xs,cs,v,d,rfl,S,hd,hsh,q'⟩:=h
 refine⟨_,(ag (aJ (aL (aC Gbegins_with hr (by omega) rfl (aa (pv 1) (aa az (aa af ac))))) (ah (al (aC Gbehind_drop hr (by omega) rfl (aa (pv 0) (aa (ao ak (pv 1) af (fun _ _=>rfl)) ac))))) au)
  (ag (aJ (aL (aC Gbegins_with hr (by omega) rfl (aa (pv 1) (aa az (aa af ac))))) (ah (al (aC Gbehind_unit hr (by omega) rfl (aa (pv 0) (aa (ao ak (pv 1) af (fun _ _=>rfl)) ac))))) au)
  (ag (aJ (aL (aC Gbegins_with hr (by omega) rfl (aa (pv 1) (aa az (aa af ac))))) (ah (al (aC Gbehind_pure hr (by omega) rfl (aa (pv 0) (aa (ao ak (pv 1) af (fun _ _=>rfl)) ac))))) au)
  (ag (aJ (aL (aC Gbegins_with hr (by omega) rfl (aa (pv 1) (aa az (aa af ac))))) (ah (al (aC Gbehind_within hr (by omega) rfl (aa (pv 0) (aa (ao ak (pv 1) af (fun _ _=>rfl)) (aa (ao ak (pv 1) af (fun _ _=>rfl)) ac)))))) au)
  (ag (aJ (aL (aC Gbegins_with hr (by omega) rfl (aa (pv 1) (aa az (aa af ac))))) (ah (al (aC Gbehind_blocked hr (by omega) rfl (aa (pv 0) (aa (ao ak (pv 1) af (fun _ _=>rfl)) (aa (ao ak (pv 1) af (fun _ _=>rfl)) ac)))))) au)
  (ah (al a_))))))),?_⟩
 unfold ba at q'
 refine⟨_,rfl,v,d,bq,2,rfl,hd,by decide,qN,hsh,_,rfl,?_⟩
 cases c1:formB bq 2 d with
 |true=>
  rw[c1,if_pos rfl] at q'
  obtain⟨ds,rfl,hl⟩:=dG c1
  obtain⟨b,zs,rfl,hb,hz⟩:=aU hd
  obtain⟨d0,d1,x0,x1,rfl,rfl,r0,r1⟩:=eJ hz hl
  exact aK ⟨_,rfl,_,rfl,.inr (.inl ⟨b,_,1,x1,rfl,rfl,SqT.of hb,rfl,p,q,t,xs,cs,x1,d1,rfl,S,r1,q'⟩)⟩
 |false=>
 rw[c1,if_neg Bool.false_ne_true] at q'
 refine ax ⟨_,rfl,v,d,bb,2,rfl,hd,by decide,qO,hsh,_,rfl,?_⟩
 cases c2:formB bb 2 d with
 |true=>
  rw[c2,if_pos rfl] at q'
  obtain⟨ds,rfl,hl⟩:=dG c2
  obtain⟨b,zs,rfl,hb,hz⟩:=aU hd
  obtain⟨d0,d1,x0,x1,rfl,rfl,r0,r1⟩:=eJ hz hl
  exact aK ⟨_,rfl,_,rfl,.inr (.inl ⟨b,_,1,x1,rfl,rfl,SqT.of hb,rfl,p,q,t,xs,cs,x1,d1,rfl,S,r1,q'⟩)⟩
 |false=>
 rw[c2,if_neg Bool.false_ne_true] at q'
 refine ax ⟨_,rfl,v,d,bz,2,rfl,hd,by decide,qP,hsh,_,rfl,?_⟩
 cases c3:formB bz 2 d with
 |true=>
  rw[c3,if_pos rfl] at q'
  obtain⟨ds,rfl,hl⟩:=dG c3
  obtain⟨b,zs,rfl,hb,hz⟩:=aU hd
  obtain⟨d0,d1,x0,x1,rfl,rfl,r0,r1⟩:=eJ hz hl
  exact aK ⟨_,rfl,_,rfl,.inr (.inl ⟨b,_,1,x1,rfl,rfl,SqT.of hb,rfl,p,q,t,xs,cs,x1,d1,rfl,S,r1,q'⟩)⟩
 |false=>
 rw[c3,if_neg Bool.false_ne_true] at q'
 refine ax ⟨_,rfl,v,d,aD,3,rfl,hd,by decide,mR,hsh,_,rfl,?_⟩
 cases c4:formB aD 3 d with
 |true=>
  rw[c4,if_pos rfl] at q'
  obtain⟨ds,rfl,hl⟩:=dG c4
  obtain⟨b,zs,rfl,hb,hz⟩:=aU hd
  obtain⟨d0,d1,d2,x0,x1,x2,rfl,rfl,r0,r1,r2⟩:=d8 hz hl
  exact aK ⟨_,rfl,_,rfl,.inr (.inl ⟨b,_,1,x1,rfl,rfl,SqT.of hb,rfl,_,rfl,.inr (.inl ⟨b,_,2,x2,rfl,rfl,SqT.of hb,rfl,p,q,t,xs,cs,x1,x2,d1,d2,rfl,S,r1,r2,q'⟩)⟩)⟩
 |false=>
 rw[c4,if_neg Bool.false_ne_true] at q'
 refine ax ⟨_,rfl,v,d,aw,3,rfl,hd,by decide,kr,hsh,_,rfl,?_⟩
 cases c5:formB aw 3 d with
 |true=>
  rw[c5,if_pos rfl] at q'
  obtain⟨ds,rfl,hl⟩:=dG c5
  obtain⟨b,zs,rfl,hb,hz⟩:=aU hd
  obtain⟨d0,d1,d2,x0,x1,x2,rfl,rfl,r0,r1,r2⟩:=d8 hz hl
  exact aK ⟨_,rfl,_,rfl,.inr (.inl ⟨b,_,1,x1,rfl,rfl,SqT.of hb,rfl,_,rfl,.inr (.inl ⟨b,_,2,x2,rfl,rfl,SqT.of hb,rfl,p,q,t,xs,cs,x1,x2,d1,d2,rfl,S,r1,r2,q'⟩)⟩)⟩
 |false=>
  rw[c5,if_neg Bool.false_ne_true] at q'
  exact ax (q' _ _ (Same.refl _) rfl)
theorem lG:aF ["sentence","step","clauses"] ["sentence","step"] (ap kq):=⟨rfl,rfl,rfl,by decide+kernel,rfl,by decide+kernel,by decide+kernel⟩
theorem oW {f g:Addr}{fd gd:FuncData}(F:Fun K "smaller_by" "smaller_by" kq f fd)(T:wb K mg CB)(Gclauses_after:Fn P w K mg base 5 "clauses_after" g gd ["sentence","step"] lE):FnOk P w K mg base (gv P w) 6 f fd ["sentence","step"] (iF CB):=by
 have sc:=lG
 refine F.okX lG (fun vs H Q E h=>?_) (fun cdv A outer s H vs Q E hr h=>?_)
 ·obtain⟨p,q,t,xs,cs,v,d,rfl,_⟩:=h
  rfl
 obtain⟨p,q,t,xs,cs,v,d,rfl,S,hd,hsh,q1,q2⟩:=h
 refine⟨_,(ag (aH (i:=2) sc.nd rfl (Or.inl rfl) (aC Gclauses_after hr (by omega) rfl (aa (pv 0) (aa (pv 1) ac))))
  (ag (aJ (aj jP (pv 2) a_ (aq _)) (ah (nX T.x_BadStep PySem.F.excBase_ValueError T.m_BadStep rfl (aa az ac))) au)
  (ah (al (bR (aa (ao ak (pv 0) af (fun _ _=>rfl)) (aa (pv 2) ac))))))),?_⟩
 refine⟨_,rfl,_,rfl,p,q,t,xs,cs,v,d,rfl,S,hd,hsh,fun v' H1 k1 r1=>?_⟩
 cases e:ba t cs d with
 |none=>
  rw[e] at r1
  have r1':v'=.non:=r1
  subst r1'
  refine⟨_,rfl,rfl,_,rfl,?_⟩
  rw[decide_eq_true rfl]
  exact aK ⟨(by show 1<=sizeLine;decide),q2 e H1 k1⟩
 |some ds=>
  rw[e] at r1
  obtain⟨l,ys,rfl,nl,hl,hc⟩:=r1
  refine⟨_,rfl,rfl,_,rfl,?_⟩
  rw[decide_eq_false (fun z=>nomatch z)]
  refine ax ⟨_,rfl,.inr (.inl ⟨p,_,0,.str t,rfl,rfl,SqT.of (k1 _ _ S.hp),rfl,_,rfl,(by show 2<=sizeLine;decide),fun r hr2=>?_⟩)⟩
  have k2:=ae hr2 (.tup [.str t,.ref l])
  exact q1 ds e r l ys _ (k1.trans k2) nl ad (k2 _ _ hl) (hc.mono k2)
end
end K62
namespace K62
open PySem L2 OD
abbrev oX:Stmt:=cX 23
abbrev kt:Stmt:=cX 20
structure vd (mg:Str->Option Value):Prop where
 abs:mg "abs"=none
 max:mg "max"=none
 tuple:mg "tuple"=none
 list:mg "list"=none
 len:mg "len"=none
 range:mg "range"=none
inductive rQ (vs:List V)(H:Hp)(Q:VK):Prop
 |mk (p:Addr)(t:Str)(w:V)(hw:Bool)(h0:vs=[.ref p,.str (bx hw)])(h1:H p=some (.tup [.str t,w]))(h2:t.length<=900)(h3:∀ (l:Addr) (H':Hp),Same H H'->H' l=some (.lst ((bJ t hw).map V.int))->Q (.ref l) H'):rQ vs H Q
def ku:Sp:=fun vs H Q _=>rQ vs H Q
def lH:Sp:=fun vs H Q _=>∃ b:Bool,vs=[.str (bx b)]/\Q (.str (bx (!b))) H
inductive rR (H:Hp)(D p:Addr)(t:Str)(hw:Bool)(i:Nat)(σ:St)(ys:List V)(H2:Hp):Prop
 |mk (v0:Option V)(h0:σ=[v0,some (.str (bx hw)),some (.ref p)])(h1:ys=(((List.range i).filter fun i=>cK t i == hw).map fun (i:Nat)=>V.int ((i:Int)+1)))(h2:H2=upd H D (.lst ys)):rR H D p t hw i σ ys H2
section
variable {P:Program}{w:World}{K:PySem.W.Frag}{mg:Str->Option Value}{base:Heap}
theorem oY:aF ["sentence","hand"] ["sentence","hand"] (ap oX):=⟨rfl,rfl,rfl,by decide+kernel,rfl,by decide+kernel,by decide+kernel⟩
theorem qQ {f f1:Addr}{fd d1:FuncData}(F:Fun K "variables_of" "variables_of" oX f fd)(T:vd mg)(Ghand_of:Fn P w K mg base 1 "hand_of" f1 d1 ["sentence","variable"] kf):FnOk P w K mg base cA 2 f fd ["sentence","hand"] ku:=by
 have sc:=oY
 refine F.ok oY (fun vs H Q E h=>?_) (fun cdv A outer s H vs Q E hr h=>?_)
 ·obtain⟨p,t,w,hw,rfl,_⟩:=h
  rfl
 obtain⟨p,t,w,hw,rfl,hp,h9,q⟩:=h
 have hu:=hr.units
 refine⟨_,(ah (al (aN (NY:=["variable","hand","sentence"]) (idx:=[none,some 1,some 0]) rfl ⟨by with_unfolding_all rfl,(by with_unfolding_all exact⟨rfl,rfl,trivial⟩),fun _=>by rfl,by rfl,by rfl,by rfl,by decide⟩ (l_ rfl T.range (aa af (aa (av bu (ai aE rfl T.len PySem.boot_len (aa (ao ak (pv 0) af (fun _ _=>rfl)) ac)) af) ac))) (fun _ _ _ _=>(aA (i:=0) (show List.Nodup (["variable","hand","sentence"]:List Str) by decide+kernel) rfl (Or.inl rfl))) (fun _ _ _ _=>(aZ (aj (aM hu) (aC Ghand_of hr (by omega) rfl (aa (pv 2) (aa (pv 0) ac))) (pv 1) (aq _)))) (fun _ _ _ _=>(pv 0))))),?_⟩
 refine⟨_,rfl,.inr (.inl ⟨p,_,0,.str t,rfl,rfl,SqT.of hp,rfl,.str t,_,rfl,⟨Nat.le_of_lt (aB (by omega)),rfl⟩,_,_,rfl,rfl,?_⟩)⟩
 refine⟨_,_,rfl,⟨by decide,by decide,by omega,by omega⟩,fun D hD=>?_⟩
 have en:((t.length:Int)+1 - 1).toNat=t.length:=by omega
 refine fZ (lo:=1) (n:=((t.length:Int)+1 - 1).toNat) (rR H D p t hw)
  ⟨none,rfl,rfl,rfl⟩ ?_ ?_ ?_
 ·rintro i σ ys H2 _ ⟨_,_,_,rfl⟩
  exact ad
 ·rintro i σ ys H2 hi ⟨v0,rfl,rfl,rfl⟩
  rw[en] at hi
  have hp2:=ae hD (.lst (((List.range i).filter fun i=>cK t i == hw).map fun (i:Nat)=>V.int ((i:Int)+1))) _ _ hp
  have ei:(1:Int)+(i:Int)=(i:Int)+1:=by omega
  rw[ei]
  refine⟨_,rfl,_,rfl,p,t,w,i,rfl,hp2,hi,h9,_,rfl,.inl ⟨rfl,_,rfl,?_⟩⟩
  rw[eE]
  by_cases g0:cK t i=hw
  ·have g:(cK t i == hw)=true:=by rw[g0];exact beq_self_eq_true _
   rw[decide_eq_true g0]
   refine aK ⟨_,rfl,ad,?_,_,rfl,?_,fA⟩
   ·have:=List.length_filter_le (fun i=>cK t i == hw) (List.range i)
    rw[List.length_range] at this
    rw[List.length_map]
    exact aB (by omega)
   ·rw[List.range_succ,List.filter_append,List.filter_cons_of_pos (p:=fun i=>cK t i == hw) g,List.map_append]
    rfl
  ·rw[decide_eq_false g0]
   refine ax ⟨_,rfl,?_,rfl⟩
   rw[List.range_succ,List.filter_append,List.filter_cons_of_neg (p:=fun i=>cK t i == hw) (fun z=>g0 (by simpa using z))]
   simp
 ·rintro σ ys H2 ⟨_,_,rfl,rfl⟩
  refine q D _ (ae hD _) ?_
  rw[ad,en]
  unfold bJ
  rw[List.map_map]
  rfl
theorem qR:aF ["hand"] ["hand"] (ap kt):=⟨rfl,rfl,rfl,by decide+kernel,rfl,by decide+kernel,by decide+kernel⟩
theorem oZ {f:Addr}{fd:FuncData}(F:Fun K "other_hand" "other_hand" kt f fd)(T:vL mg):FnOk P w K mg base cA 1 f fd ["hand"] lH:=by
 refine F.ok qR (fun vs H Q E h=>?_) (fun cdv A outer s H vs Q E hr h=>?_)
 ·obtain⟨b,rfl,_⟩:=h
  rfl
 obtain⟨b,rfl,q⟩:=h
 have hu:=hr.units
 refine⟨_,(ah (al (fO (aj (aM hu) (pv 0) (aI rfl T.g_WISHER) (aq _)) (aI rfl T.g_SPOILER) (aI rfl T.g_WISHER)))),?_⟩
 refine⟨_,rfl,.inl ⟨rfl,_,rfl,?_⟩⟩
 have e:decide (V.str (bx b)=V.str (Str.ofString "wisher"))=b:=by
  have z:=eE b true
  have z2:bx true=Str.ofString "wisher":=rfl
  rw[z2] at z
  rw[z]
  cases b<;>rfl
 rw[e]
 cases b with
 |true=>exact aK q
 |false=>exact ax q
end
abbrev gl:Stmt:=cX 24
theorem hU (c:List Int):(c.map V.int).all cj=true:=by
 rw[List.all_map]
 exact List.all_eq_true.mpr fun _ _=>rfl
theorem jD (c:List Int)(p:Int->Bool)(f:Int->V):((c.map V.int).filter (mv p)).map (uJ f)=(c.filter p).map f:=by
 induction c with
 |nil=>rfl
 |cons x r ih=>
  rw[List.map_cons]
  by_cases h:p x=true
  ·rw[List.filter_cons_of_pos (p:=mv p) (a:=V.int x) h,List.filter_cons_of_pos (p:=p) h,List.map_cons,List.map_cons,ih]
   rfl
  ·rw[List.filter_cons_of_neg (p:=mv p) (a:=V.int x) h,List.filter_cons_of_neg (p:=p) h,ih]
theorem qS {K:PySem.W.Frag}{H:Hp}{p:Addr}{ns:List Int}{Q:VK}(h:SqL K H p (ns.map V.int))(h0:∀ a∈ns,0<=a)(q:Q (.int (ns.foldl max 0)) H):og K (.ref p) (.int 0) H Q:=
 ⟨p,ns,rfl,h,fun e=>by rw[e] at q;exact q,fun M m1 m2=>by rw[oh h0 (.inl m1) m2 (h0 M m1)] at q;exact q⟩
theorem lI (l:Int):0<=ar l:=by
 rcases d6 l with⟨_,e⟩|⟨_,e⟩<;>omega
section
variable {P:Program}{w:World}{K:PySem.W.Frag}{mg:Str->Option Value}{base:Heap}
theorem hV:aF ["sentence","hand","literals","others","last"] ["sentence","hand","literals"] (ap gl):=⟨rfl,rfl,rfl,by decide+kernel,rfl,by decide+kernel,by decide+kernel⟩
theorem kx {f f1 f2:Addr}{fd d1 d2:FuncData}(F:Fun K "dropped" "dropped" gl f fd)(T:vd mg)(Gother_hand:Fn P w K mg base 1 "other_hand" f1 d1 ["hand"] lH)(Gvariables_of:Fn P w K mg base 2 "variables_of" f2 d2 ["sentence","hand"] ku):
  FnOk P w K mg base cA 3 f fd ["sentence","hand","literals"] d9:=by
 have sc:=hV
 refine F.ok hV (fun vs H Q E h=>?_) (fun cdv A outer s H vs Q E hr h=>?_)
 ·obtain⟨p,q,t,w,hw,c,rfl,_⟩:=h
  rfl
 obtain⟨p,q,t,w,hw,c,rfl,hp,h9,hq,hc9,hrg,q'⟩:=h
 have hu:=hr.units
 refine⟨_,(ag (aH (i:=3) sc.nd rfl (Or.inr rfl) (aC Gvariables_of hr (by omega) rfl (aa (pv 0) (aa (aC Gother_hand hr (by omega) rfl (aa (pv 1) ac)) ac))))
  (ag (aH (i:=4) sc.nd rfl (Or.inr rfl) (qA rfl rfl T.max (aN (NY:=["literal","others"]) (idx:=[none,some 3]) rfl ⟨by with_unfolding_all rfl,(by with_unfolding_all exact⟨rfl,trivial⟩),fun _=>by rfl,by rfl,by rfl,by rfl,by decide⟩ (ci (pv 2)) (fun _ _ _ _=>(aA (i:=0) (show List.Nodup (["literal","others"]:List Str) by decide+kernel) rfl (Or.inl rfl))) (fun _ _ _ _=>(aZ (aj (bE (K:=K) rfl) (ai aO rfl T.abs PyProof.Rows.boot_abs (aa (pv 0) ac)) (pv 1) (by with_unfolding_all rfl)))) (fun _ _ _ _=>(ai aO rfl T.abs PyProof.Rows.boot_abs (aa (pv 0) ac)))) af))
  (ah (al (bj bM rfl T.tuple PyProof.Rows.boot_tuple (aa (aN (NY:=["literal","last"]) (idx:=[none,some 4]) rfl ⟨by with_unfolding_all rfl,(by with_unfolding_all exact⟨rfl,trivial⟩),fun _=>by rfl,by rfl,by rfl,by rfl,by decide⟩ (ci (pv 2)) (fun _ _ _ _=>(aA (i:=0) (show List.Nodup (["literal","last"]:List Str) by decide+kernel) rfl (Or.inl rfl))) (fun _ _ _ _=>(aZ (aj iU (ai aO rfl T.abs PyProof.Rows.boot_abs (aa (pv 0) ac)) (pv 1) (aq _)))) (fun _ _ _ _=>(pv 0))) ac)))))),?_⟩
 refine⟨_,rfl,_,rfl,hw,rfl,p,t,w,!hw,rfl,hp,h9,fun l H1 k1 hl=>?_⟩
 refine⟨_,rfl,q,rfl,⟨_,SqT.of (k1 _ _ hq)⟩,fun D hD=>?_⟩
 refine bP [some (.ref l)] (mv fun z=>(bJ t (!hw)).contains (ar z)) (uJ fun z=>.int (ar z)) rfl (k1 _ _ hq) hD (by rw[List.length_map];omega) ?_ ?_ ?_
 ·intro x hx H' R k r
  obtain⟨z,_,rfl⟩:=cm hx
  refine⟨_,rfl,z,rfl,_,rfl,l,_,rfl,.inl (SqL.of (k _ _ hl)),rfl,hU _,_,rfl,?_⟩
  show R (cy (.int (ar z)) ((bJ t (!hw)).map V.int)) H'
  rw[bi]
  exact r
 ·intro x hx _ H' R k r
  obtain⟨z,_,rfl⟩:=cm hx
  exact⟨_,rfl,z,rfl,r⟩
 have e:((c.map V.int).filter (mv fun z=>(bJ t (!hw)).contains (ar z))).map (uJ fun z=>.int (ar z))=((c.filter fun l=>!(cK t (ar l - 1).toNat == hw)).map ar).map V.int:=by
  rw[jD,List.map_map]
  have:(c.filter fun z=>(bJ t (!hw)).contains (ar z))=c.filter fun l=>!(cK t (ar l - 1).toNat == hw):=List.filter_congr fun z hz=>qB (hrg z hz).1 (hrg z hz).2
  rw[this]
  rfl
 rw[e]
 have k2:=ae hD (.lst (((c.filter fun l=>!(cK t (ar l - 1).toNat == hw)).map ar).map V.int))
 have r2:upd H1 D (.lst (((c.filter fun l=>!(cK t (ar l - 1).toNat == hw)).map ar).map V.int)) D=some (.lst (((c.filter fun l=>!(cK t (ar l - 1).toNat == hw)).map ar).map V.int)):=ad
 generalize upd H1 D (.lst (((c.filter fun l=>!(cK t (ar l - 1).toNat == hw)).map ar).map V.int))=H2 at k2 r2
 unfold tC
 refine qS (ns:=(c.filter fun l=>!(cK t (ar l - 1).toNat == hw)).map ar) (SqL.of r2) (fun a ha=>?_) ?_
 ·obtain⟨z,_,rfl⟩:=List.mem_map.mp ha
  exact lI z
 refine⟨_,rfl,q,rfl,⟨_,SqT.of (k2 _ _ (k1 _ _ hq))⟩,fun D2 hD2=>?_⟩
 refine bP [some (.int (eG t hw c))] (mv fun l=>decide (ar l<=eG t hw c)) (fun x=>x) rfl (k2 _ _ (k1 _ _ hq)) hD2 (by rw[List.length_map];omega) ?_ ?_ ?_
 ·intro x hx H' R k r
  obtain⟨z,_,rfl⟩:=cm hx
  exact⟨_,rfl,z,rfl,_,rfl,_,_,rfl,rfl,_,rfl,r⟩
 ·intro x hx _ H' R k r
  exact⟨_,rfl,r⟩
 rw[bV c (fun l=>decide (ar l<=eG t hw c)) _ fun i=>rfl]
 refine⟨D2,_,rfl,.inl ⟨SqL.of ad,fun L3 hL3=>?_⟩⟩
 exact q' L3 _ (((k1.trans k2).trans (ae hD2 _)).trans (ae hL3 _)) ad
end
end K62
namespace K62
open PySem L2 OD
abbrev iG:Stmt:=cX 21
section
variable {P:Program}{w:World}{K:PySem.W.Frag}{mg:Str->Option Value}{base:Heap}
theorem jE:aF ["clauses","literal","left","clause"] ["clauses","literal"] (ap iG):=⟨rfl,rfl,rfl,by decide+kernel,rfl,by decide+kernel,by decide+kernel⟩
theorem mS {f:Addr}{fd:FuncData}(F:Fun K "clauses_behind" "clauses_behind" iG f fd)(T:vd mg):FnOk P w K mg base cA 1 f fd ["clauses","literal"] ff:=by
 have sc:=jE
 refine F.ok jE (fun vs H Q E h=>?_) (fun cdv A outer s H vs Q E hr h=>?_)
 ·obtain⟨p,l,xs,cs,rfl,_⟩:=h
  rfl
 obtain⟨p,l,xs,cs,rfl,hp,hcs,hn,hc9,q⟩:=h
 have hu:=hr.units
 refine⟨_,(ag (aH (i:=2) sc.nd rfl (Or.inl rfl) (aR ac))
  (ag (cP PassesOwn.never rfl (bc (pv 0)) (aA (i:=3) sc.nd rfl (Or.inl rfl))
   (ah (aJ (aj bB (pv 1) (pv 3) (by with_unfolding_all rfl)) (ah (cY (fS PySem.F.plainAttrs_list PySem.F.slot_list_append PySem.F.type_list_append cJ (pv 2) (aa (bj bM rfl T.tuple PyProof.Rows.boot_tuple (aa (aN (NY:=["other","literal"]) (idx:=[none,some 1]) rfl ⟨by with_unfolding_all rfl,(by with_unfolding_all exact⟨rfl,trivial⟩),fun _=>by rfl,by rfl,by rfl,by rfl,by decide⟩ (ci (pv 3)) (fun _ _ _ _=>(aA (i:=0) (show List.Nodup (["other","literal"]:List Str) by decide+kernel) rfl (Or.inl rfl))) (fun _ _ _ _=>(aZ (aj (cR hu) (pv 0) (fm dm (pv 1)) (aq _)))) (fun _ _ _ _=>(pv 0))) ac)) ac)))) au)))
  (ah (al (pv 2))))),?_⟩
 refine⟨Nat.zero_le _,fun lf hlf=>?_⟩
 have hp1:upd H lf (.lst []) p=some (.lst xs):=(ae hlf _) _ _ hp
 refine⟨_,rfl,p,rfl,⟨_,SqL.of hp1⟩,dk (K:=K) (a:=p) (xs:=xs)
  (fun i σ H2=>∃ cv,σ=[some (.ref p),some (.int l),some (.ref lf),cv]/\∃ ys,H2 lf=some (.lst ys)/\CLs H2 (bS l (cs.take i)) ys/\Same H H2)
  ⟨none,rfl,[],ad,.nil,ae hlf _⟩ ?_ ?_ ?_⟩
 ·rintro i σ H2 _ ⟨_,_,_,_,_,k2⟩
  exact SqL.of (k2 _ _ hp)
 ·rintro i x σ H2 hx ⟨cv,rfl,ys,g1,g2,k2⟩
  obtain⟨c,hc,t,rfl,ht⟩:=hcs.get hx
  have ht2:=k2 _ _ ht
  have hcm:c∈cs:=List.mem_of_getElem? hc
  have e:cs.take (i+1)=cs.take i++[c]:=by rw[List.take_add_one,hc];rfl
  have hyl:ys.length<=900:=by
   rw[← g2.length]
   refine Nat.le_trans (List.length_filterMap_le _ _) ?_
   rw[List.length_take]
   omega
  refine⟨_,rfl,_,rfl,t,c.map V.int,rfl,.inr (SqT.of ht2),rfl,hU c,_,rfl,?_⟩
  rw[bi]
  cases gc:c.contains l with
  |false=>
   refine aK ⟨_,rfl,.inl ⟨rfl,_,SqL.of g1⟩,_,rfl,t,rfl,⟨_,SqT.of ht2⟩,fun D hD=>?_⟩
   refine bP [some (.int l)] (fun x=>!decide (x=.int (-l))) (fun x=>x) rfl ht2 hD (by rw[List.length_map];exact hc9 c hcm) ?_ ?_ ?_
   ·intro x hx H' R k r
    obtain⟨z,_,rfl⟩:=cm hx
    exact⟨_,rfl,_,rfl,_,rfl,.inl ⟨rfl,_,rfl,r⟩⟩
   ·intro x hx _ H' R k r
    exact⟨_,rfl,r⟩
   ·rw[bV c (fun o=>!decide (o=-l)) _ fun i=>by congr 1;exact decide_eq_decide.mpr ⟨fun z=>V.int.inj z,fun z=>congrArg _ z⟩]
    refine⟨D,_,rfl,.inl ⟨SqL.of ad,fun t' ht'=>?_⟩⟩
    have nlD:lf≠D:=am g1 hD
    have g1':upd H2 D (.lst ((c.filter fun o=>!decide (o=-l)).map V.int)) lf=some (.lst ys):=by rw[ay nlD];exact g1
    have k3:=ae hD (.lst ((c.filter fun o=>!decide (o=-l)).map V.int))
    generalize upd H2 D (.lst ((c.filter fun o=>!decide (o=-l)).map V.int))=H3 at g1' ht' k3
    have k4:=ae ht' (.tup ((c.filter fun o=>!decide (o=-l)).map V.int))
    have g1'':=k4 _ _ g1'
    have ht4:upd H3 t' (.tup ((c.filter fun o=>!decide (o=-l)).map V.int)) t'=some (.tup ((c.filter fun o=>!decide (o=-l)).map V.int)):=ad
    generalize upd H3 t' (.tup ((c.filter fun o=>!decide (o=-l)).map V.int))=H4 at g1'' ht4 k4
    refine⟨lf,ys,_,rfl,rfl,g1'',aB (by omega),_,rfl,_,ad,?_,(k2.trans (k3.trans k4)).upd_new hlf _⟩
    rw[e]
    unfold bS
    rw[List.filterMap_append]
    have eb:List.filterMap (c8 l) [c]=[c.filter fun o=>!decide (o=-l)]:=by
     rw[List.filterMap_cons]
     unfold c8
     rw[gc,if_neg Bool.false_ne_true]
     rfl
    rw[eb]
    exact CLs.snoc (CL.upd ⟨t',rfl,ht4⟩ g1'') ((g2.mono (k3.trans k4)).upd g1'')
  |true=>
   refine ax ⟨_,rfl,ys,g1,?_,k2⟩
   rw[e]
   unfold bS
   rw[List.filterMap_append]
   have eb:List.filterMap (c8 l) [c]=[]:=by
    rw[List.filterMap_cons]
    unfold c8
    rw[gc,if_pos rfl]
    rfl
   rw[eb,List.append_nil]
   exact g2
 ·rintro σ H2 ⟨cv,rfl,ys,g1,g2,k2⟩
  rw[List.take_of_length_le (by rw[hcs.length];exact Nat.le_refl _)] at g2
  exact⟨_,rfl,q lf ys H2 k2 hlf g1 g2⟩
end
end K62
namespace K62
open PySem L2 OD
theorem jF (z:Int):ar (-z)=ar z:=by
 rcases d6 z with⟨_,e⟩|⟨_,e⟩<;>rcases d6 (-z) with⟨_,e'⟩|⟨_,e'⟩<;>omega
theorem hW {c:List Int}{z:Int}:∀ {k:List Int},Ups k->bF c z k=k.any fun x=>decide (ar x < ar z)&&c.contains (-x)
 |[],_=>rfl
 |x::r,h=>by
  have e:bF c z (x::r)=if ar z<=ar x then false else if c.contains (-x)=true then true else bF c z r:=rfl
  rw[e,List.any_cons]
  by_cases g:ar z<=ar x
  ·rw[if_pos g,decide_eq_false (by omega),Bool.false_and,Bool.false_or]
   refine (List.any_eq_false.mpr fun y hy=>?_).symm
   have:=h.head y hy
   rw[decide_eq_false (by omega)]
   exact Bool.false_ne_true
  ·rw[if_neg g,decide_eq_true (by omega),Bool.true_and]
   cases g2:c.contains (-x) with
   |true=>rfl
   |false=>
    rw[if_neg Bool.false_ne_true,hW h.tail]
    rfl
theorem o6 {c k:List Int}{z:Int}:(k.any fun x=>decide (ar x < ar z)&&c.contains (-x))=(c.any fun o=>decide (ar o < ar z)&&k.contains (0 - o)):=by
 rw[Bool.eq_iff_iff,List.any_eq_true,List.any_eq_true]
 constructor
 ·rintro⟨x,hx,h⟩
  rw[Bool.and_eq_true] at h
  refine⟨-x,List.contains_iff_mem.mp h.2,?_⟩
  rw[Bool.and_eq_true,jF]
  refine⟨h.1,List.contains_iff_mem.mpr ?_⟩
  rw[Int.zero_sub,Int.neg_neg]
  exact hx
 ·rintro⟨o,ho,h⟩
  rw[Bool.and_eq_true] at h
  refine⟨0 - o,List.contains_iff_mem.mp h.2,?_⟩
  rw[Bool.and_eq_true,Int.zero_sub,jF,Int.neg_neg]
  exact⟨h.1,List.contains_iff_mem.mpr ho⟩
theorem gm {α:Type}(l:List α)(p:α->Bool):decide ((l.filter p).length=0)=!l.any p:=by
 cases h:l.any p with
 |true=>
  obtain⟨x,hx,hp⟩:=List.any_eq_true.mp h
  refine decide_eq_false fun z=>?_
  have:=List.length_pos_of_mem (List.mem_filter.mpr ⟨hx,hp⟩)
  omega
 |false=>
  refine decide_eq_true ?_
  rw[List.filter_eq_nil_iff.mpr fun a ha=>by
   have:=List.any_eq_false.mp h a ha
   exact this]
  rfl
theorem fg (l:Int)(cs:List (List Int)):bS l cs=(cs.filter fun c=>!c.contains l).map fun c=>c.filter fun x=>!decide (x=-l):=by
 unfold bS
 induction cs with
 |nil=>rfl
 |cons c r ih=>
  cases g:c.contains l with
  |true=>
   rw[List.filterMap_cons_none (by unfold c8;rw[if_pos g]),List.filter_cons_of_neg (by rw[g];decide)]
   exact ih
  |false=>
   rw[List.filterMap_cons_some (b:=c.filter fun x=>!decide (x=-l)) (by unfold c8;rw[if_neg (by rw[g];exact Bool.false_ne_true)]),List.filter_cons_of_pos (by rw[g];rfl),List.map_cons,ih]
theorem kA {z:Int}{cs:List (List Int)}(h:(cs.any fun c=>c.contains (-z))=false):bS z cs=cs.filter fun c=>!c.contains z:=by
 rw[fg]
 conv=>rhs;rw[← List.map_id (cs.filter fun c=>!c.contains z)]
 refine List.map_congr_left fun c hc=>?_
 have hm:=(List.mem_filter.mp hc).1
 have hn:=List.any_eq_false.mp h c hm
 refine List.filter_eq_self.mpr fun x hx=>?_
 have:x≠-z:=fun e=>hn (List.contains_iff_mem.mpr (by rw[← e];exact hx))
 rw[decide_eq_false this]
 rfl
theorem kB {z:Int}{cs:List (List Int)}(h:(cs.any fun c=>c.contains (-z))=false):bS (-z) cs=cs.map fun c=>c.filter fun x=>!decide (x=z):=by
 rw[fg,Int.neg_neg]
 have e:(cs.filter fun c=>!c.contains (-z))=cs:=List.filter_eq_self.mpr fun c hc=>by
  have hn:=List.any_eq_false.mp h c hc
  cases g:c.contains (-z) with
  |true=>exact absurd g hn
  |false=>rfl
 rw[e]
end K62
namespace K62
open PySem L2 OD
abbrev tH:Stmt:=cX 50
abbrev kC:Stmt:=cX 52
abbrev o7:Stmt:=cX 53
abbrev kE:Stmt:=cX 54
structure kF (mg:Str->Option Value):Prop where
 isinstance:mg "isinstance"=none
 int:mg "int"=none
 bool:mg "bool"=none
 tuple:mg "tuple"=none
 list:mg "list"=none
 abs:mg "abs"=none
 len:mg "len"=none
 max:mg "max"=none
 range:mg "range"=none
inductive uV (vs:List V)(H:Hp)(Q:VK):Prop
 |mk (t:Str)(hw:Bool)(l:Int)(h0:vs=[.str t,.str (bx hw),.int l])(h1:1<=ar l)(h2:ar l<=t.length)(h3:t.length<=900)(h4:Q (.bl (cK t (ar l - 1).toNat == hw)) H):uV vs H Q
def eN:Sp:=fun vs H Q _=>uV vs H Q
inductive o8 (vs:List V)(H:Hp)(Q:VK):Prop
 |mk (q:Addr)(t:Str)(hw:Bool)(c:List Int)(h0:vs=[.str t,.str (bx hw),.ref q])(h1:t.length<=30)(h2:m8 H q c)(h3:rB t.length c)(h4:∀ (l:Addr) (H':Hp),Same H H'->m8 H' l (dF t hw c)->Q (.ref l) H'):o8 vs H Q
def fG:Sp:=fun vs H Q _=>o8 vs H Q
inductive o9 (vs:List V)(H:Hp)(Q:VK):Prop
 |mk (a:Addr)(v:V)(d:PyData)(ys:List V)(h0:vs=[.ref a,v])(h1:H a=some (.lst ys))(h2:ys.length<=900)(h3:RD H d v)(h4:Q (.bl (bo ys.length d).isSome) H):o9 vs H Q
def fH:Sp:=fun vs H Q _=>o9 vs H Q
section
variable {P:Program}{w:World}{K:PySem.W.Frag}{mg:Str->Option Value}{base:Heap}
theorem rS:aF ["_law_turns","_law_hand","_law_literal"] ["_law_turns","_law_hand","_law_literal"] (ap tH):=⟨rfl,rfl,rfl,by decide+kernel,rfl,by decide+kernel,by decide+kernel⟩
theorem tI {f:Addr}{fd:FuncData}(F:Fun K "_law_own" "_law_own" tH f fd)(T:kF mg):FnOk P w K mg base cA 1 f fd ["_law_turns","_law_hand","_law_literal"] eN:=by
 have sc:=rS
 refine F.ok rS (fun vs H Q E h=>?_) (fun cdv A outer s H vs Q E hr h=>?_)
 ·obtain⟨t,hw,l,rfl,_⟩:=h
  rfl
 obtain⟨t,hw,l,rfl,l1,l2,h9,q⟩:=h
 have hu:=hr.units
 refine⟨_,(ah (al (bg (aM hu) (bg (aM hu) (ao ak (pv 0) (av cB (ai aO rfl T.abs PyProof.Rows.boot_abs (aa (pv 2) ac)) af) (fun _ _=>rfl)) az (aq _)) (bg (aM hu) (pv 1) az (aq _)) (aq _)))),?_⟩
 have hil:(ar l - 1).toNat < t.cps.toList.length:=by
  rw[Array.length_toList]
  show _ < t.length
  omega
 obtain⟨ch,hch⟩:∃ ch,t.cps.toList[(ar l - 1).toNat]? =some ch:=⟨_,List.getElem?_eq_getElem hil⟩
 have hat:ig t.cps.toList (ar l - 1)=some ch:=by
  have e:ar l - 1=(((ar l - 1).toNat:Nat):Int):=by omega
  rw[e]
  exact aS hch
 refine⟨_,rfl,_,rfl,l,rfl,_,_,rfl,rfl,.inr (.inr ⟨t,_,_,rfl,rfl,Nat.le_of_lt (aB (by omega)),hat,.inl ⟨rfl,_,rfl,.inl ⟨rfl,.inl ⟨rfl,?_⟩⟩⟩⟩)⟩
 rw[rA,← nW hch,uN]
 have e:decide (V.bl (cK t (ar l - 1).toNat)=V.bl hw)=(cK t (ar l - 1).toNat == hw):=by
  cases cK t (ar l - 1).toNat<;>cases hw<;>rfl
 rw[e]
 exact q
theorem tJ:aF ["_law_thing"] ["_law_thing"] (ap o7):=⟨rfl,rfl,rfl,by decide+kernel,rfl,by decide+kernel,by decide+kernel⟩
theorem qT {f:Addr}{fd:FuncData}(F:Fun K "_law_number" "_law_number" o7 f fd)(T:kF mg):FnOk P w K mg base cA 1 f fd ["_law_thing"] cS:=by
 refine F.ok tJ (fun vs H Q E h=>?_) (fun cdv A outer s H vs Q E hr h=>?_)
 ·obtain⟨v,d,rfl,_⟩:=h
  rfl
 obtain⟨v,d,rfl,hd,q⟩:=h
 have nd:=e_ hd
 refine⟨_,(ah (al (dj (ai bU rfl T.isinstance PyProof.Rows.boot_isinstance (aa (pv 0) (aa (cD (v:=.ty "int") rfl T.int PyProof.Rows.boot_int rfl) ac))) (eS (m_ (ai bU rfl T.isinstance PyProof.Rows.boot_isinstance (aa (pv 0) (aa (cD (v:=.ty "bool") rfl T.bool PyProof.Rows.boot_bool rfl) ac)))))))),?_⟩
 refine⟨_,rfl,v,_,"int",_,rfl,ja d v hd,lb d nd,_,rfl,?_⟩
 cases hI:fW d with
 |false=>
  rw[hI] at q
  exact ax q
 |true=>
  rw[hI] at q
  exact aK ⟨_,rfl,v,_,"bool",_,rfl,ja d v hd,jb d nd,_,rfl,q⟩
theorem lJ:aF ["_law_turns","_law_hand","_law_literals","_law_last"] ["_law_turns","_law_hand","_law_literals"] (ap kC):=⟨rfl,rfl,rfl,by decide+kernel,rfl,by decide+kernel,by decide+kernel⟩
theorem o_ {f g:Addr}{fd gd:FuncData}(F:Fun K "_law_dropped" "_law_dropped" kC f fd)(T:kF mg)(G_law_own:Fn P w K mg base 1 "_law_own" g gd ["_law_turns","_law_hand","_law_literal"] eN):FnOk P w K mg base cA 2 f fd ["_law_turns","_law_hand","_law_literals"] fG:=by
 have sc:=lJ
 refine F.ok lJ (fun vs H Q E h=>?_) (fun cdv A outer s H vs Q E hr h=>?_)
 ·obtain⟨q,t,hw,c,rfl,_⟩:=h
  rfl
 obtain⟨q,t,hw,c,rfl,h9,hq,hok,q'⟩:=h
 have hu:=hr.units
 have hcl:=mD hok
 refine⟨_,(ag (aH (i:=3) sc.nd rfl (Or.inr rfl) (ai (mC rfl) rfl T.max PyProof.Rows.boot_max (aa (av bv (aR (aa af ac)) (aN (NY:=["_law_literal","_law_turns","_law_hand"]) (idx:=[none,some 0,some 1]) rfl ⟨by with_unfolding_all rfl,(by with_unfolding_all exact⟨rfl,rfl,trivial⟩),fun _=>by rfl,by rfl,by rfl,by rfl,by decide⟩ (ci (pv 2)) (fun _ _ _ _=>(aA (i:=0) (show List.Nodup (["_law_literal","_law_turns","_law_hand"]:List Str) by decide+kernel) rfl (Or.inl rfl))) (fun _ _ _ _=>(aZ (bh (aL (aC G_law_own hr (by omega) rfl (aa (pv 1) (aa (pv 2) (aa (pv 0) ac)))))))) (fun _ _ _ _=>(ai aO rfl T.abs PyProof.Rows.boot_abs (aa (pv 0) ac))))) ac)))
  (ah (al (bj bM rfl T.tuple PyProof.Rows.boot_tuple (aa (aN (NY:=["_law_literal","_law_last"]) (idx:=[none,some 3]) rfl ⟨by with_unfolding_all rfl,(by with_unfolding_all exact⟨rfl,trivial⟩),fun _=>by rfl,by rfl,by rfl,by rfl,by decide⟩ (ci (pv 2)) (fun _ _ _ _=>(aA (i:=0) (show List.Nodup (["_law_literal","_law_last"]:List Str) by decide+kernel) rfl (Or.inl rfl))) (fun _ _ _ _=>(aZ (aj iU (ai aO rfl T.abs PyProof.Rows.boot_abs (aa (pv 0) ac)) (pv 1) (aq _)))) (fun _ _ _ _=>(pv 0))) ac))))),?_⟩
 refine⟨(by show 1<=sizeLine;decide),fun l0 hl0=>?_⟩
 have k0:=ae hl0 (.lst [.int 0])
 have r0:upd H l0 (.lst [.int 0]) l0=some (.lst [.int 0]):=ad
 generalize upd H l0 (.lst [.int 0])=H0 at k0 r0
 refine⟨_,rfl,q,rfl,⟨_,SqT.of (k0 _ _ hq)⟩,fun D hD=>?_⟩
 refine bP [some (.str t),some (.str (bx hw))] (mv fun l=>!(cK t (ar l - 1).toNat == hw)) (uJ fun z=>.int (ar z)) rfl (k0 _ _ hq) hD (by rw[List.length_map];omega) ?_ ?_ ?_
 ·intro x hx H' R k r
  obtain⟨z,hz,rfl⟩:=cm hx
  have:=hok.2 z hz
  exact⟨_,rfl,_,rfl,_,rfl,t,hw,z,rfl,this.1,this.2,by omega,_,rfl,r⟩
 ·intro x hx _ H' R k r
  obtain⟨z,_,rfl⟩:=cm hx
  exact⟨_,rfl,z,rfl,r⟩
 have e:((c.map V.int).filter (mv fun l=>!(cK t (ar l - 1).toNat == hw))).map (uJ fun z=>.int (ar z))=((c.filter fun l=>!(cK t (ar l - 1).toNat == hw)).map ar).map V.int:=by
  rw[jD,List.map_map]
  rfl
 rw[e]
 have hfl:=List.length_filter_le (fun l=>!(cK t (ar l - 1).toNat == hw)) c
 have hnn:∀ a∈(c.filter fun l=>!(cK t (ar l - 1).toNat == hw)).map ar,0<=a:=fun a ha=>by
  obtain⟨z,_,rfl⟩:=List.mem_map.mp ha
  exact lI z
 have el:eG t hw c=((c.filter fun l=>!(cK t (ar l - 1).toNat == hw)).map ar).foldl max 0:=rfl
 have hml:((c.filter fun l=>!(cK t (ar l - 1).toNat == hw)).map ar).length<=30:=by
  rw[List.length_map]
  omega
 generalize (c.filter fun l=>!(cK t (ar l - 1).toNat == hw)).map ar=ms at hnn el hml
 have k2:=ae hD (.lst (ms.map V.int))
 have r2:upd H0 D (.lst (ms.map V.int)) D=some (.lst (ms.map V.int)):=ad
 generalize upd H0 D (.lst (ms.map V.int))=H2 at k2 r2
 refine⟨l0,D,_,_,rfl,rfl,k2 _ _ r0,r2,(by rw[List.length_map,List.length_singleton];exact Nat.le_of_lt (aB (by omega))),fun p3 hp3=>?_⟩
 have k3:=ae hp3 (.lst ([V.int 0]++ms.map V.int))
 have r3:upd H2 p3 (.lst ([V.int 0]++ms.map V.int)) p3=some (.lst ((0::ms).map V.int)):=ad
 generalize upd H2 p3 (.lst ([V.int 0]++ms.map V.int))=H3 at k3 r3
 refine⟨p3,0::ms,rfl,SqL.of r3,(fun z=>nomatch z),fun M m1 m2=>?_⟩
 have eM:eG t hw c=M:=by
  rw[el]
  refine oh hnn ?_ (fun a ha=>m2 a (List.mem_cons_of_mem _ ha)) (m2 0 List.mem_cons_self)
  rcases List.mem_cons.mp m1 with z|z
  ·exact .inr z
  ·exact .inl z
 rw[← eM]
 have kk:=k0.trans (k2.trans k3)
 refine⟨_,rfl,q,rfl,⟨_,SqT.of (kk _ _ hq)⟩,fun D2 hD2=>?_⟩
 refine bP [some (.int (eG t hw c))] (mv fun l=>decide (ar l<=eG t hw c)) (fun x=>x) rfl (kk _ _ hq) hD2 (by rw[List.length_map];omega) ?_ ?_ ?_
 ·intro x hx H' R k r
  obtain⟨z,_,rfl⟩:=cm hx
  exact⟨_,rfl,z,rfl,_,rfl,_,_,rfl,rfl,_,rfl,r⟩
 ·intro x hx _ H' R k r
  exact⟨_,rfl,r⟩
 rw[bV c (fun l=>decide (ar l<=eG t hw c)) _ fun i=>rfl]
 refine⟨D2,_,rfl,.inl ⟨SqL.of ad,fun L3 hL3=>?_⟩⟩
 exact q' L3 _ ((kk.trans (ae hD2 _)).trans (ae hL3 _)) ad
theorem lK:aF ["_law_sets","_law_thing"] ["_law_sets","_law_thing"] (ap kE):=⟨rfl,rfl,rfl,by decide+kernel,rfl,by decide+kernel,by decide+kernel⟩
theorem pb {f g:Addr}{fd gd:FuncData}(F:Fun K "_law_ahead" "_law_ahead" kE f fd)(T:kF mg)(G_law_number:Fn P w K mg base 1 "_law_number" g gd ["_law_thing"] cS):FnOk P w K mg base cA 2 f fd ["_law_sets","_law_thing"] fH:=by
 have sc:=lK
 refine F.ok lK (fun vs H Q E h=>?_) (fun cdv A outer s H vs Q E hr h=>?_)
 ·obtain⟨a,v,d,ys,rfl,_⟩:=h
  rfl
 obtain⟨a,v,d,ys,rfl,ha,h9,hd,q⟩:=h
 refine⟨_,(ah (al (dj (aC G_law_number hr (by omega) rfl (aa (pv 1) ac)) (dj (bg rh (pv 1) af (aq _)) (eS (bg dn (pv 1) (ai aE rfl T.len PySem.boot_len (aa (pv 0) ac)) (aq _))))))),?_⟩
 refine⟨_,rfl,v,d,rfl,hd,_,rfl,?_⟩
 rcases iu d with⟨z,rfl⟩|hn
 ·obtain rfl:=aV hd
  refine aK ?_
  have q':Q (.bl (if 0<=z/\z < (ys.length:Int) then some z.toNat else none).isSome) H:=q
  refine⟨_,rfl,_,_,rfl,rfl,_,rfl,?_⟩
  by_cases h0:0<=z
  ·rw[decide_eq_true h0]
   refine aK ⟨_,rfl,_,rfl,.ref a,_,rfl,.inl ⟨_,SqL.of ha,rfl⟩,_,_,rfl,rfl,?_⟩
   by_cases h1:z < (ys.length:Int)
   ·rw[if_pos ⟨h0,h1⟩] at q'
    show Q (.bl (decide (z < (ys.length:Int)))) H
    rw[decide_eq_true h1]
    exact q'
   ·rw[if_neg fun c=>h1 c.2] at q'
    show Q (.bl (decide (z < (ys.length:Int)))) H
    rw[decide_eq_false h1]
    exact q'
  ·rw[if_neg fun c=>h0 c.1] at q'
   rw[decide_eq_false h0]
   exact ax q'
 ·rw[dN hn]
  have e:bo ys.length d=none:=by
   cases d with
   |int z=>exact absurd rfl (hn z)
   |_=>rfl
  rw[e] at q
  exact ax q
end
end K62
namespace K62
open PySem L2 OD
abbrev kG:Stmt:=cX 55
theorem eO {H:Hp}{pc:List Int->Bool}{pv:V->Bool}(e:∀ c x,CL H c x->pv x=pc c):∀ {cs:List (List Int)} {xs:List V},CLs H cs xs->CLs H (cs.filter pc) (xs.filter pv)
 |_,_,.nil=>.nil
 |k::cs,x::xs,.cons h t=>by
  cases g:pc k with
  |true=>
   rw[List.filter_cons_of_pos (by exact g),List.filter_cons_of_pos (by rw[e k x h];exact g)]
   exact .cons h (eO e t)
  |false=>
   rw[List.filter_cons_of_neg (by rw[g];decide),List.filter_cons_of_neg (by rw[e k x h,g];decide)]
   exact eO e t
inductive pd (vs:List V)(H:Hp)(Q:VK):Prop
 |mk (q:Addr)(z:Int)(xs:List V)(cs:List (List Int))(h0:vs=[.ref q,.int z])(h1:H q=some (.lst xs))(h2:CLs H cs xs)(h3:cs.length<=400)(h4:∀ c∈cs,c.length<=60)(h5:∀ (l:Addr) (ys:List V) (H':Hp),Same H H'->H l=none->H' l=some (.lst ys)->CLs H' (bS z cs) ys->Q (.ref l) H'):pd vs H Q
def fI:Sp:=fun vs H Q _=>pd vs H Q
inductive pe (H1:Hp)(D:Addr)(z:Int)(ds:List (List Int))(i:Nat)(σ:St)(zs:List V)(H2:Hp):Prop
 |mk (v0:Option V)(h0:σ=[v0,some (.int z)])(h1:H2 D=some (.lst zs))(h2:CLs H2 ((ds.take i).map fun c=>c.filter fun o=>!decide (o=-z)) zs)(h3:∀ b o,b≠D->H1 b=some o->H2 b=some o):pe H1 D z ds i σ zs H2
section
variable {P:Program}{w:World}{K:PySem.W.Frag}{mg:Str->Option Value}{base:Heap}
theorem lL:aF ["_law_clauses","_law_literal","_law_rest"] ["_law_clauses","_law_literal"] (ap kG):=⟨rfl,rfl,rfl,by decide+kernel,rfl,by decide+kernel,by decide+kernel⟩
theorem pf {f:Addr}{fd:FuncData}(F:Fun K "_law_stand" "_law_stand" kG f fd)(T:kF mg):FnOk P w K mg base cA 1 f fd ["_law_clauses","_law_literal"] fI:=by
 have sc:=lL
 refine F.ok lL (fun vs H Q E h=>?_) (fun cdv A outer s H vs Q E hr h=>?_)
 ·obtain⟨q,z,xs,cs,rfl,_⟩:=h
  rfl
 obtain⟨q,z,xs,cs,rfl,hq,hcs,hn,hc,q'⟩:=h
 have hu:=hr.units
 have hlen:=hcs.length
 refine⟨_,(ag (cM (i:=2) sc.nd rfl rfl (NY:=["_law_clause","_law_literal"]) (idx:=[none,some 1]) rfl ⟨by with_unfolding_all rfl,(by with_unfolding_all exact⟨rfl,trivial⟩),fun _=>by rfl,by rfl,by rfl,by rfl,by decide⟩ (bc (pv 0)) (fun _ _ _ _=>(aA (i:=0) (show List.Nodup (["_law_clause","_law_literal"]:List Str) by decide+kernel) rfl (Or.inl rfl))) (fun _ _ _ _=>(aZ (aj (bO (K:=K) rfl) (pv 1) (pv 0) (by with_unfolding_all rfl)))) (fun _ _ _ _=>(pv 0)) (by with_unfolding_all rfl))
  (ah (al (aN (NY:=["_law_clause","_law_literal"]) (idx:=[none,some 1]) rfl ⟨by with_unfolding_all rfl,(by with_unfolding_all exact⟨rfl,trivial⟩),fun _=>by rfl,by rfl,by rfl,by rfl,by decide⟩ (bc (pv 2)) (fun _ _ _ _=>(aA (i:=0) (show List.Nodup (["_law_clause","_law_literal"]:List Str) by decide+kernel) rfl (Or.inl rfl))) (fun _ _ _ _=>cE) (fun _ _ _ _=>(bj (cn (K:=K) rfl) rfl T.tuple PyProof.Rows.boot_tuple (aa (aN (NY:=["_law_one","_law_literal"]) (idx:=[none,some 1]) rfl ⟨by with_unfolding_all rfl,(by with_unfolding_all exact⟨rfl,trivial⟩),fun _=>by rfl,by rfl,by rfl,by rfl,by decide⟩ (io (K:=K) rfl (pv 0)) (fun _ _ _ _=>(aA (i:=0) (show List.Nodup (["_law_one","_law_literal"]:List Str) by decide+kernel) rfl (Or.inl rfl))) (fun _ _ _ _=>(aZ (aj (cR hu) (pv 0) (av cB af (pv 1)) (aq _)))) (fun _ _ _ _=>(pv 0))) ac))))))),?_⟩
 refine⟨_,rfl,q,rfl,⟨_,SqL.of hq⟩,fun D hD=>?_⟩
 refine cb [some (.int z)] (fun x=>!aP H z x) (fun x=>x) rfl hq hD (by omega) ?_ ?_ ?_
 ·intro x hx H' R k r
  obtain⟨i,hi⟩:=List.mem_iff_getElem?.mp hx
  obtain⟨kc,_,hcl⟩:=hcs.get hi
  rw[bL hcl] at r
  obtain⟨td,rfl,htd⟩:=hcl
  refine⟨_,rfl,_,rfl,td,_,rfl,.inr (SqT.of (k _ _ htd)),rfl,aW kc,_,rfl,?_⟩
  show R (!cy (.int z) (kc.map V.int)) H'
  rw[bi]
  exact r
 ·intro x hx _ H' R k r
  exact⟨_,rfl,r⟩
 rw[List.map_id']
 have k1:=ae hD (.lst (xs.filter fun x=>!aP H z x))
 have r1:upd H D (.lst (xs.filter fun x=>!aP H z x)) D=some (.lst (xs.filter fun x=>!aP H z x)):=ad
 generalize upd H D (.lst (xs.filter fun x=>!aP H z x))=H1 at k1 r1
 have hds:=(eO (pc:=fun c=>!c.contains z) (pv:=fun x=>!aP H z x) (fun c x h=>by rw[bL h]) hcs).mono k1
 have hdl:=List.length_filter_le (fun c:List Int=>!c.contains z) cs
 have hdc:∀ c∈cs.filter fun c=>!c.contains z,c.length<=60:=fun c h=>hc c (List.mem_filter.mp h).1
 rw[fg] at q'
 generalize (cs.filter fun c=>!c.contains z)=ds at hds hdl hdc q'
 generalize (xs.filter fun x=>!aP H z x)=ys at hds r1
 have hyl:=hds.length
 refine⟨_,rfl,D,rfl,⟨_,SqL.of r1⟩,fun D2 hD2=>?_⟩
 have nD:D≠D2:=am r1 hD2
 refine cr (K:=K) (a:=D) (xs:=ys) (pe H1 D2 z ds) ⟨none,rfl,ad,.nil,fun b o hb e=>by rw[ay hb];exact e⟩ ?_ ?_ ?_
 ·rintro i σ zs H2 _ ⟨_,_,h1,_,h3⟩
  exact⟨h1,SqL.of (h3 _ _ nD r1)⟩
 ·rintro i x σ zs H2 hx ⟨v0,rfl,h1,h2,h3⟩
  obtain⟨c,hcd,tc,rfl,htc⟩:=hds.get hx
  have hcl:=hdc c (List.mem_of_getElem? hcd)
  have htc2:=h3 _ _ (am htc hD2) htc
  have hil:i < ys.length:=(List.getElem?_eq_some_iff.mp hx).1
  refine c_ ?_
  refine oE ?_
  refine⟨_,rfl,tc,rfl,⟨_,SqT.of htc2⟩,fun D3 hD3=>?_⟩
  refine bP [some (.int z)] (mv fun o=>!decide (o=-z)) (fun x=>x) rfl htc2 hD3 (by rw[List.length_map];omega) ?_ ?_ ?_
  ·intro x hx H' R k r
   obtain⟨y,_,rfl⟩:=cm hx
   refine⟨_,rfl,_,rfl,_,_,rfl,rfl,.inl ⟨rfl,_,rfl,?_⟩⟩
   have e:decide (V.int y=V.int (0 - z))=decide (y=-z):=decide_eq_decide.mpr ⟨fun h=>by have:=V.int.inj h;omega,fun h=>by rw[h,Int.zero_sub]⟩
   show R (!decide (V.int y=V.int (0 - z))) H'
   rw[e]
   exact r
  ·intro x hx _ H' R k r
   exact⟨_,rfl,r⟩
  rw[bV c (fun o=>!decide (o=-z)) _ fun i=>rfl]
  have k3:=ae hD3 (.lst ((c.filter fun o=>!decide (o=-z)).map V.int))
  refine⟨D3,_,rfl,.inl ⟨SqL.of ad,fun p hp=>?_⟩⟩
  have k4:=ae hp (.tup ((c.filter fun o=>!decide (o=-z)).map V.int))
  have k34:=k3.trans k4
  have h1':=k34 _ _ h1
  have hzl:=h2.length
  rw[List.length_map,List.length_take] at hzl
  refine⟨h1',aB (by omega),⟨_,rfl,ad,?_,fun b o hb e=>by rw[ay hb];exact k34 _ _ (h3 _ _ hb e)⟩⟩
  rw[List.take_add_one,hcd,List.map_append]
  have npD:p≠D2:=fun e=>by
   rw[← e] at h1'
   rw[ad] at h1'
   cases h1'
  refine CLs.snoc ⟨p,rfl,?_⟩ ((h2.mono k34).upd h1')
  rw[ay npD]
  exact ad
 ·rintro σ zs H2 ⟨_,_,h1,h2,h3⟩
  rw[List.take_of_length_le (by omega)] at h2
  exact q' D2 zs H2 (fun b o e=>h3 _ _ (am e (k1.free hD2)) (k1 _ _ e)) (k1.free hD2) h1 h2
end
end K62
namespace K62
open PySem L2 OD
abbrev iH:Stmt:=cX 56
structure ClsAt (H:Hp)(q:Addr)(t:Str)(xs:List V)(cs:List (List Int)):Prop where
 hq:H q=some (.lst xs)
 hcs:CLs H cs xs
 ht:t.length<=30
 hn:cs.length<=400
 hok:∀ c∈cs,gj t.length c
 hc:∀ c∈cs,c.length<=60
inductive ph (vs:List V)(H:Hp)(Q:VK):Prop
 |mk (q:Addr)(t:Str)(z:Int)(xs:List V)(cs:List (List Int))(h0:vs=[.str t,.ref q,.int z])(h1:ClsAt H q t xs cs)(h2:∀ v' H',Same H H'->RC H H' (fu t cs (.int z)) v'->Q v' H'):ph vs H Q
def iI:Sp:=fun vs H Q _=>ph vs H Q
inductive lM (H1:Hp)(D:Addr)(z:Int)(ds:List (List Int))(i:Nat)(σ:St)(zs:List V)(H2:Hp):Prop
 |mk (v0:Option V)(h0:σ=[v0,some (.int z)])(h1:H2 D=some (.lst zs))(h2:CLs H2 ((ds.take i).map fun c=>c.filter fun o=>!decide (o=z)) zs)(h3:∀ b o,b≠D->H1 b=some o->H2 b=some o):lM H1 D z ds i σ zs H2
theorem lN {n:Nat}{cs:List (List Int)}{z:Int}(h:∀ c∈cs,gj n c)(g:¬ (1<=ar z/\ar z<=(n:Int))):(cs.any fun c=>c.contains z)=false:=
 List.any_eq_false.mpr fun c hc e=>g (h c hc z (List.contains_iff_mem.mp e))
theorem jG {H:Hp}{z:Int}{cs:List (List Int)}{xs:List V}(h:CLs H cs xs):((xs.filter (aP H z)).length=0)=((cs.any fun c=>c.contains z)=false):=by
 have e:=(eL (z:=z) h).length
 have f:=gm cs fun c=>c.contains z
 rw[← e]
 cases g:(cs.any fun c=>c.contains z) with
 |true=>
  rw[g] at f
  exact propext ⟨fun z=>absurd (decide_eq_true z) (by rw[f];exact Bool.false_ne_true),fun z=>nomatch z⟩
 |false=>
  rw[g] at f
  exact propext ⟨fun _=>rfl,fun _=>of_decide_eq_true f⟩
section
variable {P:Program}{w:World}{K:PySem.W.Frag}{mg:Str->Option Value}{base:Heap}
theorem fJ:aF ["_law_turns","_law_clauses","_law_literal","_law_some"] ["_law_turns","_law_clauses","_law_literal"] (ap iH):=⟨rfl,rfl,rfl,by decide+kernel,rfl,by decide+kernel,by decide+kernel⟩
theorem pi {f g1 g2:Addr}{fd e1 e2:FuncData}(F:Fun K "_law_pure" "_law_pure" iH f fd)(T:kF mg)(G_law_number:Fn P w K mg base 1 "_law_number" g1 e1 ["_law_thing"] cS)(G_law_own:Fn P w K mg base 1 "_law_own" g2 e2 ["_law_turns","_law_hand","_law_literal"] eN):FnOk P w K mg base cA 2 f fd ["_law_turns","_law_clauses","_law_literal"] iI:=by
 have sc:=fJ
 refine F.ok fJ (fun vs H Q E h=>?_) (fun cdv A outer s H vs Q E hr h=>?_)
 ·obtain⟨q,t,z,xs,cs,rfl,_⟩:=h
  rfl
 obtain⟨q,t,z,xs,cs,rfl,S,q'⟩:=h
 have hu:=hr.units
 have hlen:=S.hcs.length
 have hn:=S.hn
 have ht:=S.ht
 refine⟨_,(ag (aJ (PW.pt (bK (bh (aL (aC G_law_number hr (by omega) rfl (aa (pv 2) ac)))) (bK (aj dn (ai aO rfl T.abs PyProof.Rows.boot_abs (aa (pv 2) ac)) af (aq _)) (bT (aj dS (ai aO rfl T.abs PyProof.Rows.boot_abs (aa (pv 2) ac)) (ai aE rfl T.len PySem.boot_len (aa (pv 0) ac)) (aq _)))))) (ah (al a_)) au)
  (ag (cM (i:=3) sc.nd rfl rfl (NY:=["_law_clause","_law_literal"]) (idx:=[none,some 2]) rfl ⟨by with_unfolding_all rfl,(by with_unfolding_all exact⟨rfl,trivial⟩),fun _=>by rfl,by rfl,by rfl,by rfl,by decide⟩ (bc (pv 1)) (fun _ _ _ _=>(aA (i:=0) (show List.Nodup (["_law_clause","_law_literal"]:List Str) by decide+kernel) rfl (Or.inl rfl))) (fun _ _ _ _=>(aZ (aj (bE (K:=K) rfl) (pv 1) (pv 0) (by with_unfolding_all rfl)))) (fun _ _ _ _=>(pv 0)) (by with_unfolding_all rfl))
  (ag (aJ (PW.pt (bK (aj (aM hu) (ai aE rfl T.len PySem.boot_len (aa (pv 3) ac)) af (aq _)) (bT (aj dS (ai aE rfl T.len PySem.boot_len (aa (aN (NY:=["_law_clause","_law_literal"]) (idx:=[none,some 2]) rfl ⟨by with_unfolding_all rfl,(by with_unfolding_all exact⟨rfl,trivial⟩),fun _=>by rfl,by rfl,by rfl,by rfl,by decide⟩ (bc (pv 1)) (fun _ _ _ _=>(aA (i:=0) (show List.Nodup (["_law_clause","_law_literal"]:List Str) by decide+kernel) rfl (Or.inl rfl))) (fun _ _ _ _=>(aZ (aj (bE (K:=K) rfl) (av cB af (pv 1)) (pv 0) (by with_unfolding_all rfl)))) (fun _ _ _ _=>(pv 0))) ac)) af (aq _))))) (ah (al a_)) au)
  (ag (aJ (aL (aC G_law_own hr (by omega) rfl (aa (pv 0) (aa az (aa (pv 2) ac))))) (ah (al (aN (NY:=["_law_clause","_law_literal"]) (idx:=[none,some 2]) rfl ⟨by with_unfolding_all rfl,(by with_unfolding_all exact⟨rfl,trivial⟩),fun _=>by rfl,by rfl,by rfl,by rfl,by decide⟩ (bc (pv 1)) (fun _ _ _ _=>(aA (i:=0) (show List.Nodup (["_law_clause","_law_literal"]:List Str) by decide+kernel) rfl (Or.inl rfl))) (fun _ _ _ _=>(aZ (aj (bO (K:=K) rfl) (pv 1) (pv 0) (by with_unfolding_all rfl)))) (fun _ _ _ _=>(pv 0))))) au)
  (ah (al (aN (NY:=["_law_clause","_law_literal"]) (idx:=[none,some 2]) rfl ⟨by with_unfolding_all rfl,(by with_unfolding_all exact⟨rfl,trivial⟩),fun _=>by rfl,by rfl,by rfl,by rfl,by decide⟩ (bc (pv 1)) (fun _ _ _ _=>(aA (i:=0) (show List.Nodup (["_law_clause","_law_literal"]:List Str) by decide+kernel) rfl (Or.inl rfl))) (fun _ _ _ _=>cE) (fun _ _ _ _=>(bj (cn (K:=K) rfl) rfl T.tuple PyProof.Rows.boot_tuple (aa (aN (NY:=["_law_one","_law_literal"]) (idx:=[none,some 1]) rfl ⟨by with_unfolding_all rfl,(by with_unfolding_all exact⟨rfl,trivial⟩),fun _=>by rfl,by rfl,by rfl,by rfl,by decide⟩ (io (K:=K) rfl (pv 0)) (fun _ _ _ _=>(aA (i:=0) (show List.Nodup (["_law_one","_law_literal"]:List Str) by decide+kernel) rfl (Or.inl rfl))) (fun _ _ _ _=>(aZ (aj (cR hu) (pv 0) (pv 1) (aq _)))) (fun _ _ _ _=>(pv 0))) ac)))))))))),?_⟩
 have q2:∀ v' H',Same H H'->RC H H' (if ((cs.any fun c=>c.contains z)&&!(cs.any fun c=>c.contains (-z)))=true then some (bS (if cN t z=true then z else -z) cs) else none) v'->Q v' H':=q'
 refine⟨_,rfl,.int z,.int z,rfl,bY z,_,rfl,?_⟩
 refine ax ⟨_,rfl,z,rfl,_,_,rfl,rfl,_,rfl,cp (fun g=>?_) (fun g=>?_)⟩
 ·have g':ar z < 1:=of_decide_eq_true g
  rw[lN S.hok (by omega)] at q2
  exact aK (q2 _ _ (Same.refl _) rfl)
 have gz1:1<=ar z:=by
  have g':¬ ar z < 1:=fun n=>g (decide_eq_true n)
  omega
 refine⟨_,rfl,z,rfl,_,rfl,.str t,_,rfl,⟨Nat.le_of_lt (aB (by omega)),rfl⟩,_,_,rfl,rfl,_,rfl,cp (fun g2=>?_) (fun g2=>?_)⟩
 ·have g':(t.length:Int) < ar z:=of_decide_eq_true g2
  rw[lN S.hok (by omega)] at q2
  exact q2 _ _ (Same.refl _) rfl
 have gz2:ar z<=(t.length:Int):=by
  have g':¬ (t.length:Int) < ar z:=fun n=>g2 (decide_eq_true n)
  omega
 refine⟨_,rfl,q,rfl,⟨_,SqL.of S.hq⟩,fun D hD=>?_⟩
 refine cb [some (.int z)] (aP H z) (fun x=>x) rfl S.hq hD (by omega) ?_ ?_ ?_
 ·intro x hx H' R k r
  obtain⟨i,hi⟩:=List.mem_iff_getElem?.mp hx
  obtain⟨kc,_,hcl⟩:=S.hcs.get hi
  rw[bL hcl] at r
  obtain⟨td,rfl,htd⟩:=hcl
  refine⟨_,rfl,_,rfl,td,_,rfl,.inr (SqT.of (k _ _ htd)),rfl,aW kc,_,rfl,?_⟩
  show R (cy (.int z) (kc.map V.int)) H'
  rw[bi]
  exact r
 ·intro x hx _ H' R k r
  exact⟨_,rfl,r⟩
 rw[List.map_id']
 have k1:=ae hD (.lst (xs.filter (aP H z)))
 have r1:upd H D (.lst (xs.filter (aP H z))) D=some (.lst (xs.filter (aP H z))):=ad
 generalize upd H D (.lst (xs.filter (aP H z)))=H1 at k1 r1
 have ee:=jG (z:=z) S.hcs
 refine⟨_,rfl,.ref D,_,rfl,.inl ⟨_,SqL.of r1,rfl⟩,.inl ⟨rfl,_,rfl,cp (fun g3=>?_) (fun g3=>?_)⟩⟩
 ·have g':(xs.filter (aP H z)).length=0:=by
   have:=V.int.inj (of_decide_eq_true g3)
   omega
  rw[ee] at g'
  rw[g'] at q2
  exact aK (q2 _ _ k1 rfl)
 have hp1:(cs.any fun c=>c.contains z)=true:=by
  cases g4:(cs.any fun c=>c.contains z) with
  |true=>rfl
  |false=>
   rw[g4] at ee
   have:(xs.filter (aP H z)).length=0:=by rw[ee]
   exact absurd (decide_eq_true (congrArg V.int (by rw[this];rfl))) g3
 rw[hp1] at q2
 refine⟨_,rfl,q,rfl,⟨_,SqL.of (k1 _ _ S.hq)⟩,fun D2 hD2=>?_⟩
 refine cb [some (.int z)] (aP H (-z)) (fun x=>x) rfl (k1 _ _ S.hq) hD2 (by omega) ?_ ?_ ?_
 ·intro x hx H' R k r
  obtain⟨i,hi⟩:=List.mem_iff_getElem?.mp hx
  obtain⟨kc,_,hcl⟩:=S.hcs.get hi
  rw[bL hcl] at r
  obtain⟨td,rfl,htd⟩:=hcl
  refine⟨_,rfl,_,_,rfl,rfl,_,rfl,td,_,rfl,.inr (SqT.of (k _ _ (k1 _ _ htd))),rfl,aW kc,_,rfl,?_⟩
  show R (cy (.int (0 - z)) (kc.map V.int)) H'
  rw[bi,Int.zero_sub]
  exact r
 ·intro x hx _ H' R k r
  exact⟨_,rfl,r⟩
 rw[List.map_id']
 have k2:=ae hD2 (.lst (xs.filter (aP H (-z))))
 have r2:upd H1 D2 (.lst (xs.filter (aP H (-z)))) D2=some (.lst (xs.filter (aP H (-z)))):=ad
 generalize upd H1 D2 (.lst (xs.filter (aP H (-z))))=H2 at k2 r2
 have ee2:=jG (z:=-z) S.hcs
 have k12:=k1.trans k2
 refine⟨.ref D2,_,rfl,.inl ⟨_,SqL.of r2,rfl⟩,_,_,rfl,rfl,_,rfl,cp (fun g5=>?_) (fun g5=>?_)⟩
 ·have g':(0:Int) < ((xs.filter (aP H (-z))).length:Int):=of_decide_eq_true g5
  have hp2:(cs.any fun c=>c.contains (-z))=true:=by
   cases g4:(cs.any fun c=>c.contains (-z)) with
   |true=>rfl
   |false=>
    rw[g4] at ee2
    have:(xs.filter (aP H (-z))).length=0:=by rw[ee2]
    omega
  rw[hp2] at q2
  exact q2 _ _ k12 rfl
 have hp2:(cs.any fun c=>c.contains (-z))=false:=by
  have g':¬ (0:Int) < ((xs.filter (aP H (-z))).length:Int):=fun n=>g5 (decide_eq_true n)
  rw[← ee2]
  omega
 rw[hp2] at q2
 have q3:∀ v' H',Same H H'->RC H H' (some (bS (if cN t z=true then z else -z) cs)) v'->Q v' H':=q2
 refine⟨_,rfl,_,rfl,t,true,z,rfl,gz1,gz2,(by omega),_,rfl,?_⟩
 have eo:(cK t (ar z - 1).toNat == true)=cN t z:=by
  unfold cN
  cases cK t (ar z - 1).toNat<;>rfl
 rw[eo]
 cases g6:cN t z with
 |true=>
  rw[g6,if_pos rfl,kA hp2] at q3
  refine aK ⟨_,rfl,q,rfl,⟨_,SqL.of (k12 _ _ S.hq)⟩,fun D3 hD3=>?_⟩
  refine cb [some (.int z)] (fun x=>!aP H z x) (fun x=>x) rfl (k12 _ _ S.hq) hD3 (by omega) ?_ ?_ ?_
  ·intro x hx H' R k r
   obtain⟨i,hi⟩:=List.mem_iff_getElem?.mp hx
   obtain⟨kc,_,hcl⟩:=S.hcs.get hi
   rw[bL hcl] at r
   obtain⟨td,rfl,htd⟩:=hcl
   refine⟨_,rfl,_,rfl,td,_,rfl,.inr (SqT.of (k _ _ (k12 _ _ htd))),rfl,aW kc,_,rfl,?_⟩
   show R (!cy (.int z) (kc.map V.int)) H'
   rw[bi]
   exact r
  ·intro x hx _ H' R k r
   exact⟨_,rfl,r⟩
  rw[List.map_id']
  have k3:=ae hD3 (.lst (xs.filter fun x=>!aP H z x))
  exact q3 _ _ (k12.trans k3) ⟨D3,_,rfl,k12.free hD3,ad,(eO (pc:=fun c=>!c.contains z) (pv:=fun x=>!aP H z x) (fun c x h=>by rw[bL h]) S.hcs).mono (k12.trans k3)⟩
 |false=>
  rw[g6,if_neg Bool.false_ne_true,kB hp2] at q3
  have hcs2:=S.hcs.mono k12
  have hq2:=k12 _ _ S.hq
  refine ax ⟨_,rfl,q,rfl,⟨_,SqL.of hq2⟩,fun D3 hD3=>?_⟩
  have nD:q≠D3:=am hq2 hD3
  refine cr (K:=K) (a:=q) (xs:=xs) (lM H2 D3 z cs) ⟨none,rfl,ad,.nil,fun b o hb e=>by rw[ay hb];exact e⟩ ?_ ?_ ?_
  ·rintro i σ zs H4 _ ⟨_,_,h1,_,h3⟩
   exact⟨h1,SqL.of (h3 _ _ nD hq2)⟩
  ·rintro i x σ zs H4 hx ⟨v0,rfl,h1,h2,h3⟩
   obtain⟨c,hcd,tc,rfl,htc⟩:=hcs2.get hx
   have hcl:=S.hc c (List.mem_of_getElem? hcd)
   have htc2:=h3 _ _ (am htc hD3) htc
   have hil:i < xs.length:=(List.getElem?_eq_some_iff.mp hx).1
   refine c_ ?_
   refine oE ?_
   refine⟨_,rfl,tc,rfl,⟨_,SqT.of htc2⟩,fun D5 hD5=>?_⟩
   refine bP [some (.int z)] (mv fun o=>!decide (o=z)) (fun x=>x) rfl htc2 hD5 (by rw[List.length_map];omega) ?_ ?_ ?_
   ·intro x hx H' R k r
    obtain⟨y,_,rfl⟩:=cm hx
    refine⟨_,rfl,_,rfl,.inl ⟨rfl,_,rfl,?_⟩⟩
    have e:decide (V.int y=V.int z)=decide (y=z):=decide_eq_decide.mpr ⟨fun h=>V.int.inj h,fun h=>by rw[h]⟩
    show R (!decide (V.int y=V.int z)) H'
    rw[e]
    exact r
   ·intro x hx _ H' R k r
    exact⟨_,rfl,r⟩
   rw[bV c (fun o=>!decide (o=z)) _ fun i=>rfl]
   have k3:=ae hD5 (.lst ((c.filter fun o=>!decide (o=z)).map V.int))
   refine⟨D5,_,rfl,.inl ⟨SqL.of ad,fun p hp=>?_⟩⟩
   have k4:=ae hp (.tup ((c.filter fun o=>!decide (o=z)).map V.int))
   have k34:=k3.trans k4
   have h1':=k34 _ _ h1
   have hzl:=h2.length
   rw[List.length_map,List.length_take] at hzl
   refine⟨h1',aB (by omega),⟨_,rfl,ad,?_,fun b o hb e=>by rw[ay hb];exact k34 _ _ (h3 _ _ hb e)⟩⟩
   rw[List.take_add_one,hcd,List.map_append]
   have npD:p≠D3:=fun e=>by
    rw[← e] at h1'
    rw[ad] at h1'
    cases h1'
   refine CLs.snoc ⟨p,rfl,?_⟩ ((h2.mono k34).upd h1')
   rw[ay npD]
   exact ad
  ·rintro σ zs H4 ⟨_,_,h1,h2,h3⟩
   rw[List.take_of_length_le (by omega)] at h2
   exact q3 _ _ (fun b o e=>h3 _ _ (am e (k12.free hD3)) (k12 _ _ e)) ⟨D3,zs,rfl,k12.free hD3,h1,h2⟩
end
end K62
namespace K62
open PySem L2 OD
abbrev fK:Stmt:=cX 57
inductive lO (vs:List V)(H:Hp)(Q:VK):Prop
 |mk (q:Addr)(t:Str)(i:Nat)(z:Int)(xs:List V)(cs:List (List Int))(h0:vs=[.str t,.ref q,.int (i:Int),.int z])(h1:ClsAt H q t xs cs)(h2:i < cs.length)(h3:∀ c∈cs,Ups c)(h4:∀ v' H',Same H H'->RC H H' (if dg t cs i z=true then some (cG cs i) else none) v'->Q v' H'):lO vs H Q
def gn:Sp:=fun vs H Q _=>lO vs H Q
inductive tK (H:Hp)(q:Addr)(t:Str)(i:Nat)(z:Int)(cs:List (List Int))(j:Nat)(σ:St)(H2:Hp):Prop
 |mk (v4:Option V)(h0:σ=[some (.str t),some (.ref q),some (.int (i:Int)),some (.int z),v4])(h1:Same H H2)(h2:((cs.take j).all fun k=>!k.contains (-z) || bF (cs.getD i []) z k)=true):tK H q t i z cs j σ H2
theorem gp {p o:List Int->Bool}:∀ cs:List (List Int),((cs.filter p).all o)=cs.all fun k=>!p k || o k
 |[]=>rfl
 |k::r=>by
  cases g:p k with
  |true=>
   rw[List.filter_cons_of_pos g,List.all_cons,List.all_cons,gp r,g]
   rfl
  |false=>
   rw[List.filter_cons_of_neg (by rw[g];decide),List.all_cons,gp r,g]
   rfl
section
variable {P:Program}{w:World}{K:PySem.W.Frag}{mg:Str->Option Value}{base:Heap}
theorem eP:aF ["_law_turns","_law_clauses","_law_k","_law_literal","_law_other"] ["_law_turns","_law_clauses","_law_k","_law_literal"] (ap fK):=⟨rfl,rfl,rfl,by decide+kernel,rfl,by decide+kernel,by decide+kernel⟩
theorem mT {f g1 g2:Addr}{fd e1 e2:FuncData}(F:Fun K "_law_blocked" "_law_blocked" fK f fd)(T:kF mg)(G_law_number:Fn P w K mg base 1 "_law_number" g1 e1 ["_law_thing"] cS)(G_law_own:Fn P w K mg base 1 "_law_own" g2 e2 ["_law_turns","_law_hand","_law_literal"] eN):FnOk P w K mg base cA 2 f fd ["_law_turns","_law_clauses","_law_k","_law_literal"] gn:=by
 have sc:=eP
 refine F.ok eP (fun vs H Q E h=>?_) (fun cdv A outer s H vs Q E hr h=>?_)
 ·obtain⟨q,t,i,z,xs,cs,rfl,_⟩:=h
  rfl
 obtain⟨q,t,i,z,xs,cs,rfl,S,hi,hup,q'⟩:=h
 have hu:=hr.units
 have hlen:=S.hcs.length
 have hn:=S.hn
 have ht:=S.ht
 refine⟨_,(ag (aJ (PW.pt (bK (bh (aL (aC G_law_number hr (by omega) rfl (aa (pv 3) ac)))) (bK (aj bB (pv 3) (ao ak (pv 1) (pv 2) (fun _ _=>rfl)) (by with_unfolding_all rfl)) (bT (bh (aL (aC G_law_own hr (by omega) rfl (aa (pv 0) (aa az (aa (pv 3) ac)))))))))) (ah (al a_)) au)
  (ag (cP PassesOwn.never rfl (bc (pv 1)) (aA (i:=4) sc.nd rfl (Or.inr rfl))
   (ah (aJ (aj cI (av cB af (pv 3)) (pv 4) (by with_unfolding_all rfl)) (ah (aJ (aj (aM hu) (ai aE rfl T.len PySem.boot_len (aa (aN (NY:=["_law_one","_law_other","_law_literal"]) (idx:=[none,some 4,some 3]) rfl ⟨by with_unfolding_all rfl,(by with_unfolding_all exact⟨rfl,rfl,trivial⟩),fun _=>by rfl,by rfl,by rfl,by rfl,by decide⟩ (ci (ao ak (pv 1) (pv 2) (fun _ _=>rfl))) (fun _ _ _ _=>(aA (i:=0) (show List.Nodup (["_law_one","_law_other","_law_literal"]:List Str) by decide+kernel) rfl (Or.inl rfl))) (fun _ _ _ _=>(aZ (PW.pt (b_ (aj dn (ai aO rfl T.abs PyProof.Rows.boot_abs (aa (pv 0) ac)) (ai aO rfl T.abs PyProof.Rows.boot_abs (aa (pv 2) ac)) (aq _)) (cg (aj (bE (K:=K) rfl) (av cB af (pv 0)) (pv 1) (by with_unfolding_all rfl))))))) (fun _ _ _ _=>(pv 0))) ac)) af (aq _)) (ah (al a_)) au)) au)))
  (ah (al (av bv (aX bn (pv 1) bw (bf (pv 2))) (aX bn (pv 1) (bf (av bu (pv 2) af)) bw)))))),?_⟩
 obtain⟨tc,hx,htc,hm⟩:=dY S.hcs hi
 have hcl:=S.hc _ hm
 unfold dg at q'
 refine⟨_,rfl,.int z,.int z,rfl,bY z,_,rfl,?_⟩
 have e:(if true=true then !cy (.int z) ((cs.getD i []).map V.int) else cy (.int z) ((cs.getD i []).map V.int))=!(cs.getD i []).contains z:=by
  rw[if_pos rfl,bi]
 refine ax ⟨_,rfl,_,rfl,_,rfl,.inl ⟨q,xs,(i:Int),.ref tc,rfl,rfl,SqL.of S.hq,aS hx,tc,_,rfl,.inr (SqT.of htc),rfl,aW _,_,rfl,?_⟩⟩
 rw[e]
 cases g1:(cs.getD i []).contains z with
 |false=>
  rw[g1] at q'
  exact aK (aK (q' _ _ (Same.refl _) rfl))
 |true=>
 rw[g1] at q'
 have hz:=S.hok _ hm z (List.contains_iff_mem.mp g1)
 refine ax ⟨_,rfl,_,rfl,t,true,z,rfl,hz.1,hz.2,(by omega),_,rfl,?_⟩
 have eo:(cK t (ar z - 1).toNat == true)=cN t z:=by
  unfold cN
  cases cK t (ar z - 1).toNat<;>rfl
 rw[eo]
 cases g2:cN t z with
 |false=>
  rw[g2] at q'
  exact aK (q' _ _ (Same.refl _) rfl)
 |true=>
 rw[g2] at q'
 refine ax ?_
 rw[gp] at q'
 refine⟨_,rfl,q,rfl,⟨_,SqL.of S.hq⟩,dk (K:=K) (a:=q) (xs:=xs) (tK H q t i z cs) ⟨none,rfl,Same.refl _,rfl⟩ ?_ ?_ ?_⟩
 ·rintro j σ H2 _ ⟨_,_,k2,_⟩
  exact SqL.of (k2 _ _ S.hq)
 ·rintro j x σ H2 hxj ⟨v4,rfl,k2,hall⟩
  obtain⟨kc,hk,td,rfl,htd⟩:=S.hcs.get hxj
  have hkm:=List.mem_of_getElem? hk
  have htd2:=k2 _ _ htd
  have htc2:=k2 _ _ htc
  have e2:(if false=true then !cy (.int (0 - z)) (kc.map V.int) else cy (.int (0 - z)) (kc.map V.int))=kc.contains (-z):=by
   rw[if_neg Bool.false_ne_true,bi,Int.zero_sub]
  have next:∀ H3,Same H H3->(!kc.contains (-z) || bF (cs.getD i []) z kc)=true->tK H q t i z cs (j+1) [some (.str t),some (.ref q),some (.int (i:Int)),some (.int z),some (.ref td)] H3:=fun H3 k3 hb=>by
   refine⟨_,rfl,k3,?_⟩
   rw[List.take_add_one,hk,List.all_append,hall]
   show ((!kc.contains (-z) || bF (cs.getD i []) z kc)&&true)=true
   rw[hb]
   rfl
  refine⟨_,rfl,_,_,rfl,rfl,_,rfl,td,_,rfl,.inr (SqT.of htd2),rfl,aW kc,_,rfl,?_⟩
  rw[e2]
  cases g3:kc.contains (-z) with
  |false=>exact ax (next H2 k2 (by rw[g3];rfl))
  |true=>
  refine aK ?_
  refine⟨_,rfl,_,rfl,.inl ⟨q,xs,(i:Int),.ref tc,rfl,rfl,SqL.of (k2 _ _ S.hq),aS hx,tc,rfl,⟨_,SqT.of htc2⟩,fun D hD=>?_⟩⟩
  refine bP [some (.ref td),some (.int z)] (mv fun o=>decide (ar o < ar z)&&kc.contains (0 - o)) (fun x=>x) rfl htc2 hD (by rw[List.length_map];omega) ?_ ?_ ?_
  ·intro x hx H' R k r
   obtain⟨y,_,rfl⟩:=cm hx
   have r':R (decide (ar y < ar z)&&kc.contains (0 - y)) H':=r
   refine⟨_,rfl,y,rfl,_,rfl,z,rfl,_,_,rfl,rfl,_,rfl,cp (fun g4=>?_) (fun g4=>?_)⟩
   ·rw[decide_eq_true (show ar y < ar z from of_decide_eq_true g4)] at r'
    refine⟨_,rfl,_,_,rfl,rfl,_,rfl,td,_,rfl,.inr (SqT.of (k _ _ htd2)),rfl,aW kc,_,rfl,?_⟩
    show R (cy (.int (0 - y)) (kc.map V.int)) H'
    rw[bi]
    exact r'
   ·rw[decide_eq_false (show ¬ ar y < ar z from fun n=>g4 (decide_eq_true n))] at r'
    exact r'
  ·intro x hx _ H' R k r
   exact⟨_,rfl,r⟩
  rw[bV (cs.getD i []) (fun o=>decide (ar o < ar z)&&kc.contains (0 - o)) _ fun i=>rfl]
  have k3:=k2.trans (ae hD (.lst (((cs.getD i []).filter fun o=>decide (ar o < ar z)&&kc.contains (0 - o)).map V.int)))
  have eb:bF (cs.getD i []) z kc=!decide (((cs.getD i []).filter fun o=>decide (ar o < ar z)&&kc.contains (0 - o)).length=0):=by
   rw[gm,hW (hup kc hkm),o6,Bool.not_not]
  refine⟨.ref D,_,rfl,.inl ⟨_,SqL.of ad,rfl⟩,.inl ⟨rfl,_,rfl,?_⟩⟩
  rw[List.length_map]
  refine cp (fun g5=>?_) (fun g5=>?_)
  ·have g':((cs.getD i []).filter fun o=>decide (ar o < ar z)&&kc.contains (0 - o)).length=0:=by
    have:=V.int.inj (of_decide_eq_true g5)
    omega
   rw[decide_eq_true g'] at eb
   have ea:(cs.all fun k=>!k.contains (-z) || bF (cs.getD i []) z k)=false:=List.all_eq_false.mpr ⟨kc,hkm,by rw[g3,eb];exact Bool.false_ne_true⟩
   rw[ea] at q'
   exact q' _ _ k3 rfl
  ·have g':¬ ((cs.getD i []).filter fun o=>decide (ar o < ar z)&&kc.contains (0 - o)).length=0:=fun n=>g5 (decide_eq_true (by rw[n];rfl))
   rw[decide_eq_false g'] at eb
   exact next _ k3 (by rw[g3,eb];rfl)
 ·rintro σ H2 ⟨v4,rfl,k2,hall⟩
  rw[List.take_of_length_le (by omega)] at hall
  rw[hall] at q'
  refine⟨_,rfl,_,rfl,_,rfl,q,xs,rfl,SqL.of (k2 _ _ S.hq),fun l1 q1=>?_⟩
  rw[fc]
  have k3:=k2.trans (ae q1 (.lst (xs.take i)))
  refine⟨_,rfl,_,rfl,_,_,rfl,rfl,_,rfl,q,xs,rfl,SqL.of (k3 _ _ S.hq),fun l5 q5=>?_⟩
  have ec:cf xs (some ((i:Int)+1)) none=xs.drop (i+1):=cV xs (i+1)
  rw[ec]
  have k5:=ae q5 (.lst (xs.drop (i+1)))
  refine⟨l1,l5,_,_,rfl,rfl,k5 _ _ ad,ad,Nat.le_of_lt (aB (by rw[List.length_take,List.length_drop];omega)),fun l6 q6=>?_⟩
  have kk:=k3.trans (k5.trans (ae q6 (.lst (xs.take i++xs.drop (i+1)))))
  exact q' _ _ kk ⟨l6,_,rfl,(k3.trans k5).free q6,ad,bI (bW i (S.hcs.mono kk)) (bX (i+1) (S.hcs.mono kk))⟩
end
end K62
namespace K62
open PySem L2 OD
abbrev jH:Stmt:=cX 58
inductive StepIn (cs:List (List Int)):PyData->Prop
 |drop (i:Nat) (h:i < cs.length):StepIn cs (.tuple [.str bq,.int (i:Int)])
 |unit (i:Nat) (h:i < cs.length):StepIn cs (.tuple [.str bb,.int (i:Int)])
 |pure (z:Int):StepIn cs (.tuple [.str bz,.int z])
 |within (i j:Nat) (h:i < cs.length) (g:j < cs.length):StepIn cs (.tuple [.str aD,.int (i:Int),.int (j:Int)])
 |blocked (i:Nat) (z:Int) (h:i < cs.length):StepIn cs (.tuple [.str aw,.int (i:Int),.int z])
theorem hX (w x:Str)(n:Nat)(a:PyData):formB w n (.tuple [.str x,a])=(decide (2=n)&&decide (x=w)):=rfl
theorem eQ (w x:Str)(n:Nat)(a b:PyData):formB w n (.tuple [.str x,a,b])=(decide (3=n)&&decide (x=w)):=rfl
theorem kH (t:Str)(cs:List (List Int))(a:PyData):ba t cs (.tuple [.str bq,a])=g9 t cs a:=by
 unfold ba
 rw[hX,show (decide (2=2)&&decide (bq=bq))=true by decide+kernel,if_pos rfl]
 rfl
theorem kI (t:Str)(cs:List (List Int))(a:PyData):ba t cs (.tuple [.str bb,a])=g_ t cs a:=by
 unfold ba
 rw[hX,hX,show (decide (2=2)&&decide (bb=bq))=false by decide+kernel,show (decide (2=2)&&decide (bb=bb))=true by decide+kernel,if_neg Bool.false_ne_true,if_pos rfl]
 rfl
theorem kJ (t:Str)(cs:List (List Int))(a:PyData):ba t cs (.tuple [.str bz,a])=fu t cs a:=by
 unfold ba
 rw[hX,hX,hX,show (decide (2=2)&&decide (bz=bq))=false by decide+kernel,show (decide (2=2)&&decide (bz=bb))=false by decide+kernel,show (decide (2=2)&&decide (bz=bz))=true by decide+kernel,if_neg Bool.false_ne_true,if_neg Bool.false_ne_true,if_pos rfl]
 rfl
theorem iJ (t:Str)(cs:List (List Int))(a b:PyData):ba t cs (.tuple [.str aD,a,b])=hG cs a b:=by
 unfold ba
 rw[eQ,eQ,eQ,eQ,show (decide (3=2)&&decide (aD=bq))=false by decide+kernel,show (decide (3=2)&&decide (aD=bb))=false by decide+kernel,show (decide (3=2)&&decide (aD=bz))=false by decide+kernel,show (decide (3=3)&&decide (aD=aD))=true by decide+kernel,if_neg Bool.false_ne_true,if_neg Bool.false_ne_true,if_neg Bool.false_ne_true,if_pos rfl]
 rfl
theorem gB (t:Str)(cs:List (List Int))(a b:PyData):ba t cs (.tuple [.str aw,a,b])=dI t cs a b:=by
 unfold ba
 rw[eQ,eQ,eQ,eQ,eQ,show (decide (3=2)&&decide (aw=bq))=false by decide+kernel,show (decide (3=2)&&decide (aw=bb))=false by decide+kernel,show (decide (3=2)&&decide (aw=bz))=false by decide+kernel,show (decide (3=3)&&decide (aw=aD))=false by decide+kernel,show (decide (3=3)&&decide (aw=aw))=true by decide+kernel,if_neg Bool.false_ne_true,if_neg Bool.false_ne_true,if_neg Bool.false_ne_true,if_neg Bool.false_ne_true,if_pos rfl]
 rfl
theorem bQ {n i:Nat}(h:i < n):bo n (.int (i:Int))=some i:=by
 show (if 0<=(i:Int)/\(i:Int) < (n:Int) then some (i:Int).toNat else none)=some i
 rw[if_pos ⟨by omega,by omega⟩]
 rfl
end K62
namespace K62
open PySem L2 OD
abbrev iK:Stmt:=cX 46
structure vN (K:PySem.W.Frag)(mg:Str->Option Value)(CB C1 C2 C3 C4 C5 C7 C8 C9:Addr):Prop where
 isinstance:mg "isinstance"=none
 ValueError:mg "ValueError"=none
 g_NoVariable:cx mg "NoVariable" (.ref C1)
 g_NoFilling:cx mg "NoFilling" (.ref C2)
 g_BadLine:cx mg "BadLine" (.ref C3)
 g_NotWhole:cx mg "NotWhole" (.ref C4)
 g_NoHand:cx mg "NoHand" (.ref C5)
 g_BadStep:cx mg "BadStep" (.ref CB)
 g_NoForm:cx mg "NoForm" (.ref C7)
 g_TooMany:cx mg "TooMany" (.ref C8)
 g_NoText:cx mg "NoText" (.ref C9)
 ask:dC K CB
 kV:PySem.W.kitOne K (.ref CB) (.type "ValueError")=some true
 k1:PySem.W.kitOne K (.ref CB) (.ref C1)=some false
 k2:PySem.W.kitOne K (.ref CB) (.ref C2)=some false
 k3:PySem.W.kitOne K (.ref CB) (.ref C3)=some false
 k4:PySem.W.kitOne K (.ref CB) (.ref C4)=some false
 k5:PySem.W.kitOne K (.ref CB) (.ref C5)=some false
 k7:PySem.W.kitOne K (.ref CB) (.ref C7)=some false
 k8:PySem.W.kitOne K (.ref CB) (.ref C8)=some false
 k9:PySem.W.kitOne K (.ref CB) (.ref C9)=some false
def kindsB:List Bool:=[false,false,false,false,false,true,false,false,false,true]
inductive pj (CB:Addr)(vs:List V)(H:Hp)(Q:VK):Prop
 |mk (ea:Addr)(h0:vs=[.ref ea])(h1:H ea=some (jm ea CB))(q:∀ (l:Addr) (H':Hp),Same H H'->H' l=some (.lst (kindsB.map V.bl))->Q (.ref l) H'):pj CB vs H Q
def iL (CB:Addr):Sp:=fun vs H Q _=>pj CB vs H Q
section
variable {P:Program}{w:World}{K:PySem.W.Frag}{mg:Str->Option Value}{base:Heap}{CB C1 C2 C3 C4 C5 C7 C8 C9:Addr}
theorem fL:aF ["_law_kept","_law_kinds_here"] ["_law_kept"] (ap iK):=⟨rfl,rfl,rfl,by decide+kernel,rfl,by decide+kernel,by decide+kernel⟩
theorem pq {f:Addr}{fd:FuncData}(F:Fun K "_law_kinds" "_law_kinds" iK f fd)(T:vN K mg CB C1 C2 C3 C4 C5 C7 C8 C9):FnOk P w K mg base cA 1 f fd ["_law_kept"] (iL CB):=by
 have sc:=fL
 refine F.ok fL (fun vs H Q E h=>?_) (fun cdv A outer s H vs Q E hr h=>?_)
 ·obtain⟨ea,rfl,_⟩:=h
  rfl
 obtain⟨ea,rfl,he,q⟩:=h
 have hu:=hr.units
 have kN:PySem.W.kitOne K (.ref CB) (.ref CB)=some true:=jo K CB
 have en:decide (V.ref ea=V.non)=false:=decide_eq_false fun z=>by cases z
 refine⟨_,(ag (aJ (aj jP (pv 0) a_ (aq _)) (ah (al (aR ac))) au)
  (ag (aH (i:=1) sc.nd rfl (Or.inl rfl) (aR (aa (ai aG rfl T.isinstance PyProof.Rows.boot_isinstance (aa (pv 0) (aa (aI rfl T.g_NoVariable) ac))) (aa (ai aG rfl T.isinstance PyProof.Rows.boot_isinstance (aa (pv 0) (aa (aI rfl T.g_NoFilling) ac))) (aa (ai aG rfl T.isinstance PyProof.Rows.boot_isinstance (aa (pv 0) (aa (aI rfl T.g_BadLine) ac))) ac)))))
  (ag (aH (i:=1) sc.nd rfl (Or.inl rfl) (av bv (pv 1) (aR (aa (ai aG rfl T.isinstance PyProof.Rows.boot_isinstance (aa (pv 0) (aa (aI rfl T.g_NotWhole) ac))) (aa (ai aG rfl T.isinstance PyProof.Rows.boot_isinstance (aa (pv 0) (aa (aI rfl T.g_NoHand) ac))) (aa (ai aG rfl T.isinstance PyProof.Rows.boot_isinstance (aa (pv 0) (aa (aI rfl T.g_BadStep) ac))) ac))))))
  (ag (aH (i:=1) sc.nd rfl (Or.inl rfl) (av bv (pv 1) (aR (aa (ai aG rfl T.isinstance PyProof.Rows.boot_isinstance (aa (pv 0) (aa (aI rfl T.g_NoForm) ac))) (aa (ai aG rfl T.isinstance PyProof.Rows.boot_isinstance (aa (pv 0) (aa (aI rfl T.g_TooMany) ac))) (aa (ai aG rfl T.isinstance PyProof.Rows.boot_isinstance (aa (pv 0) (aa (aI rfl T.g_NoText) ac))) ac))))))
  (ah (al (av bv (pv 1) (aR (aa (ai aG rfl T.isinstance PyProof.Rows.boot_isinstance (aa (pv 0) (aa (cD (v:=.ty "ValueError") rfl T.ValueError PyProof.Rows.Boot.«ValueError» rfl) ac))) ac))))))))),?_⟩
 refine⟨_,rfl,rfl,_,rfl,?_⟩
 rw[en]
 refine ax ?_
 refine⟨_,rfl,⟨ea,CB,_,_,_,rfl,rfl,he,T.ask,T.k1,_,rfl,⟨ea,CB,_,_,_,rfl,rfl,he,T.ask,T.k2,_,rfl,⟨ea,CB,_,_,_,rfl,rfl,he,T.ask,T.k3,(by show 3<=sizeLine;decide),fun l1 hl1=>?_⟩⟩⟩⟩
 have k1:=ae hl1 (.lst [.bl false,.bl false,.bl false])
 have r1:upd H l1 (.lst [.bl false,.bl false,.bl false]) l1=some (.lst [.bl false,.bl false,.bl false]):=ad
 show eg 1 (.ref l1) _ (upd H l1 (.lst [.bl false,.bl false,.bl false])) _
 generalize upd H l1 (.lst [.bl false,.bl false,.bl false])=H1 at k1 r1
 refine⟨_,rfl,_,rfl,⟨ea,CB,_,_,_,rfl,rfl,(k1 _ _ he),T.ask,T.k4,_,rfl,⟨ea,CB,_,_,_,rfl,rfl,(k1 _ _ he),T.ask,T.k5,_,rfl,⟨ea,CB,_,_,_,rfl,rfl,(k1 _ _ he),T.ask,kN,(by show 3<=sizeLine;decide),fun l2 hl2=>?_⟩⟩⟩⟩
 have k2:=ae hl2 (.lst [.bl false,.bl false,.bl true])
 refine⟨l1,l2,_,_,rfl,rfl,k2 _ _ r1,ad,(by show 6<=sizeLine;decide),fun l3 hl3=>?_⟩
 have k3:=k1.trans (k2.trans (ae hl3 (.lst [.bl false,.bl false,.bl false,.bl false,.bl false,.bl true])))
 have r3:upd (upd H1 l2 (.lst [.bl false,.bl false,.bl true])) l3 (.lst [.bl false,.bl false,.bl false,.bl false,.bl false,.bl true]) l3=some (.lst [.bl false,.bl false,.bl false,.bl false,.bl false,.bl true]):=ad
 show eg 1 (.ref l3) _ (upd (upd H1 l2 (.lst [.bl false,.bl false,.bl true])) l3 (.lst [.bl false,.bl false,.bl false,.bl false,.bl false,.bl true])) _
 generalize upd (upd H1 l2 (.lst [.bl false,.bl false,.bl true])) l3 (.lst [.bl false,.bl false,.bl false,.bl false,.bl false,.bl true])=H3 at k3 r3
 refine⟨_,rfl,_,rfl,⟨ea,CB,_,_,_,rfl,rfl,(k3 _ _ he),T.ask,T.k7,_,rfl,⟨ea,CB,_,_,_,rfl,rfl,(k3 _ _ he),T.ask,T.k8,_,rfl,⟨ea,CB,_,_,_,rfl,rfl,(k3 _ _ he),T.ask,T.k9,(by show 3<=sizeLine;decide),fun l4 hl4=>?_⟩⟩⟩⟩
 have k4:=ae hl4 (.lst [.bl false,.bl false,.bl false])
 refine⟨l3,l4,_,_,rfl,rfl,k4 _ _ r3,ad,(by show 9<=sizeLine;decide),fun l5 hl5=>?_⟩
 have k5:=k3.trans (k4.trans (ae hl5 (.lst [.bl false,.bl false,.bl false,.bl false,.bl false,.bl true,.bl false,.bl false,.bl false])))
 have r5:upd (upd H3 l4 (.lst [.bl false,.bl false,.bl false])) l5 (.lst [.bl false,.bl false,.bl false,.bl false,.bl false,.bl true,.bl false,.bl false,.bl false]) l5=some (.lst [.bl false,.bl false,.bl false,.bl false,.bl false,.bl true,.bl false,.bl false,.bl false]):=ad
 show eg 1 (.ref l5) _ (upd (upd H3 l4 (.lst [.bl false,.bl false,.bl false])) l5 (.lst [.bl false,.bl false,.bl false,.bl false,.bl false,.bl true,.bl false,.bl false,.bl false])) _
 generalize upd (upd H3 l4 (.lst [.bl false,.bl false,.bl false])) l5 (.lst [.bl false,.bl false,.bl false,.bl false,.bl false,.bl true,.bl false,.bl false,.bl false])=H5 at k5 r5
 refine⟨_,rfl,_,rfl,⟨ea,CB,.ty "ValueError",.type "ValueError",true,rfl,rfl,k5 _ _ he,T.ask,T.kV,(by show 1<=sizeLine;decide),fun l6 hl6=>?_⟩⟩
 have k6:=ae hl6 (.lst [.bl true])
 refine⟨l5,l6,_,_,rfl,rfl,k6 _ _ r5,ad,(by show 10<=sizeLine;decide),fun l7 hl7=>?_⟩
 exact q l7 _ (k5.trans (k6.trans (ae hl7 _))) ad
end
end K62
namespace K62
open PySem L2 OD
inductive Nx:Type
 |unit (i:Nat)
 |drop (i:Nat)
 |pure (z:Int)
 |within (i j:Nat)
 |blocked (i:Nat) (z:Int)
def Nx.d:Nx->PyData
 |.unit i=>.tuple [.str bb,.int (i:Int)]
 |.drop i=>.tuple [.str bq,.int (i:Int)]
 |.pure z=>.tuple [.str bz,.int z]
 |.within i j=>.tuple [.str aD,.int (i:Int),.int (j:Int)]
 |.blocked i z=>.tuple [.str aw,.int (i:Int),.int z]
def Nx.zs:Nx->List V
 |.unit i=>[.str bb,.int (i:Int)]
 |.drop i=>[.str bq,.int (i:Int)]
 |.pure z=>[.str bz,.int z]
 |.within i j=>[.str aD,.int (i:Int),.int (j:Int)]
 |.blocked i z=>[.str aw,.int (i:Int),.int z]
inductive jI (t:Str)(cs:List (List Int)):Nx->Prop
 |unit (i:Nat) (h:i < cs.length) (u:eK t (cs.getD i [])=true):jI t cs (.unit i)
 |drop (i:Nat) (h:i < cs.length):jI t cs (.drop i)
 |pure (z:Int) (c:List Int) (h:c∈cs) (u:z∈c):jI t cs (.pure z)
 |within (i j:Nat):jI t cs (.within i j)
 |blocked (i:Nat) (z:Int) (h:i < cs.length) (u:z∈cs.getD i []):jI t cs (.blocked i z)
theorem b0 {w:Str}{n:Nat}{d:PyData}(h:formB w n d=true):∃ r:List PyData,d=.tuple (.str w::r)/\r.length+1=n:=by
 cases d with
 |tuple ds=>
  unfold formB at h
  rw[Bool.and_eq_true] at h
  cases ds with
  |nil=>cases h.2
  |cons x r=>
   have h2:gT w x=true:=h.2
   cases x with
   |str y=>
    have:y=w:=of_decide_eq_true h2
    subst this
    exact⟨r,rfl,of_decide_eq_true h.1⟩
   |_=>cases h2
 |_=>cases h
theorem pw {t:Str}{cs ds:List (List Int)}{d:PyData}(h:ba t cs d=some ds):∃ s:Nx,d=s.d/\jI t cs s:=by
 unfold ba at h
 split at h
 ·rename_i hf
  obtain⟨r,rfl,hl⟩:=b0 hf
  match r,hl with
  |[x],_=>
   obtain⟨i,e,_⟩:=Option.map_eq_some_iff.mp h
   obtain⟨hi,ex⟩:=bp e
   have ex':x=.int (i:Int):=ex
   subst ex'
   exact⟨.drop i,rfl,.drop i hi⟩
 split at h
 ·rename_i hf
  obtain⟨r,rfl,hl⟩:=b0 hf
  match r,hl with
  |[x],_=>
   obtain⟨i,e,h2⟩:=Option.bind_eq_some_iff.mp h
   obtain⟨hi,ex⟩:=bp e
   have ex':x=.int (i:Int):=ex
   subst ex'
   split at h2
   ·rename_i u
    exact⟨.unit i,rfl,.unit i hi u⟩
   ·cases h2
 split at h
 ·rename_i hf
  obtain⟨r,rfl,hl⟩:=b0 hf
  match r,hl with
  |[x],_=>
   have h':fu t cs x=some ds:=h
   cases x with
   |int z=>
    have h2:(if ((cs.any fun c=>c.contains z)&&!(cs.any fun c=>c.contains (-z)))=true then some (bS (if cN t z=true then z else -z) cs) else none)=some ds:=h'
    split at h2
    ·rename_i q
     rw[Bool.and_eq_true] at q
     obtain⟨c,hc,hm⟩:=List.any_eq_true.mp q.1
     exact⟨.pure z,rfl,.pure z c hc (List.contains_iff_mem.mp hm)⟩
    ·cases h2
   |_=>cases h'
 split at h
 ·rename_i hf
  obtain⟨r,rfl,hl⟩:=b0 hf
  match r,hl with
  |[x,y],_=>
   obtain⟨i,e1,h⟩:=Option.bind_eq_some_iff.mp h
   obtain⟨j,e2,h⟩:=Option.bind_eq_some_iff.mp h
   obtain⟨hi,ex⟩:=bp e1
   obtain⟨hj,ey⟩:=bp e2
   have ex':x=.int (i:Int):=ex
   have ey':y=.int (j:Int):=ey
   subst ex' ey'
   exact⟨.within i j,rfl,.within i j⟩
 split at h
 ·rename_i hf
  obtain⟨r,rfl,hl⟩:=b0 hf
  match r,hl with
  |[x,y],_=>
   have h':dI t cs x y=some ds:=h
   cases y with
   |int z=>
    have h2:(bo cs.length x).bind (fun i=>if dg t cs i z=true then some (cG cs i) else none)=some ds:=h'
    obtain⟨i,e1,h3⟩:=Option.bind_eq_some_iff.mp h2
    obtain⟨hi,ex⟩:=bp e1
    have ex':x=.int (i:Int):=ex
    subst ex'
    split at h3
    ·rename_i q
     unfold dg at q
     rw[Bool.and_eq_true] at q
     exact⟨.blocked i z,rfl,.blocked i z hi (List.contains_iff_mem.mp q.1)⟩
    ·cases h3
   |_=>cases h'
 ·cases h
theorem px {H:Hp}{s:Nx}{v:V}(h:RD H s.d v):∃ b:Addr,v=.ref b/\H b=some (.tup s.zs):=by
 have two:∀ {w:Str} {i:Int} {v:V},RD H (.tuple [.str w,.int i]) v->∃ b:Addr,v=.ref b/\H b=some (.tup [.str w,.int i]):=fun {w i v} h=>by
  obtain⟨b,xs,e,hb,r⟩:=aU h
  obtain⟨x,xs,rfl,r1,r⟩:=aQ r
  obtain⟨y,xs,rfl,r2,r⟩:=aQ r
  obtain rfl:=bC r
  rw[de r1,aV r2] at hb
  exact⟨b,e,hb⟩
 have three:∀ {w:Str} {i j:Int} {v:V},RD H (.tuple [.str w,.int i,.int j]) v->∃ b:Addr,v=.ref b/\H b=some (.tup [.str w,.int i,.int j]):=fun {w i j v} h=>by
  obtain⟨b,xs,e,hb,r⟩:=aU h
  obtain⟨x,xs,rfl,r1,r⟩:=aQ r
  obtain⟨y,xs,rfl,r2,r⟩:=aQ r
  obtain⟨z,xs,rfl,r3,r⟩:=aQ r
  obtain rfl:=bC r
  rw[de r1,aV r2,aV r3] at hb
  exact⟨b,e,hb⟩
 cases s with
 |unit i=>exact two h
 |drop i=>exact two h
 |pure z=>exact two h
 |within i j=>exact three h
 |blocked i z=>exact three h
end K62
namespace K62
open PySem L2 OD
abbrev py:Stmt:=cX 41
structure uW (mg:Str->Option Value):Prop where
 abs:mg "abs"=none
 dict:mg "dict"=none
 tuple:mg "tuple"=none
 g_WISHER:cx mg "WISHER" (.str (Str.ofString "wisher"))
 g_SPOILER:cx mg "SPOILER" (.str (Str.ofString "spoiler"))
inductive rT (vs:List V)(H:Hp)(Q:VK):Prop
 |mk (p q:Addr)(t:Str)(xs:List V)(cs:List (List Int))(v:V)(s:Nx)(hw:Bool)(h0:vs=[.ref p,v,.str (bx hw)])(h1:SentAt H p q t xs cs)(hu:∀ c∈cs,Ups c)(h2:RD H s.d v)(h3:jI t cs s)
  (h4:∀ (a:Addr) (kvs:List (bG×V)) (H':Hp),Same H H'->H a=none->H' a=some (.dK kvs)->Q (.ref a) H'):rT vs H Q
def pz:Sp:=fun vs H Q _=>rT vs H Q
structure PrsAt (H:Hp)(ts:List Addr)(kvs:List (bG×V)):Prop where
 len:ts.length=kvs.length
 at_:∀ (j:Nat) (t:Addr) (k:bG) (v:V),ts[j]? =some t->kvs[j]? =some (k,v)->H t=some (.tup [kV k,v])
inductive uX (H1:Hp)(D lf:Addr)(c left:List Int)(i:Nat)(σ:St)(ys:List V)(H2:Hp):Prop
 |mk (v0:Option V)(ts:List Addr)(kvs:List (bG×V))(h0:σ=[v0,some (.ref lf)])(h1:H2 D=some (.lst ys))(h2:Same H1 H2)(h3:ys=ts.map V.ref)(h4:PrsAt H2 ts kvs)(h5:kvs.map (·.1)=((c.take i).filter fun l=>!left.contains l).map fun l=>(Sum.inl (ar l):bG)):uX H1 D lf c left i σ ys H2
theorem PrsAt.but {H:Hp}{D:Addr}{ts:List Addr}{kvs:List (bG×V)}{ys zs:List V}(h:PrsAt H ts kvs)(hD:H D=some (.lst ys)):PrsAt (upd H D (.lst zs)) ts kvs:=
 ⟨h.len,fun j t k v e1 e2=>by
  have:=h.at_ j t k v e1 e2
  rw[ay (fun z=>by rw[z,hD] at this;cases this)]
  exact this⟩
theorem PrsAt.mono {H H':Hp}{ts:List Addr}{kvs:List (bG×V)}(h:PrsAt H ts kvs)(k:Same H H'):PrsAt H' ts kvs:=⟨h.len,fun j t kk v e1 e2=>k _ _ (h.at_ j t kk v e1 e2)⟩
theorem PrsAt.snoc {H:Hp}{ts:List Addr}{kvs:List (bG×V)}{t:Addr}{k:bG}{v:V}(h:PrsAt H ts kvs)(ht:H t=some (.tup [kV k,v])):PrsAt H (ts++[t]) (kvs++[(k,v)]):=
 ⟨by rw[List.length_append,List.length_append,h.len];rfl,fun j t' k' v' e1 e2=>by
  by_cases hj:j < ts.length
  ·rw[List.getElem?_append_left hj] at e1
   rw[List.getElem?_append_left (by rw[← h.len];exact hj)] at e2
   exact h.at_ j t' k' v' e1 e2
  ·rw[List.getElem?_append_right (by omega)] at e1
   rw[List.getElem?_append_right (by have:=h.len;omega),← h.len] at e2
   have e0:j - ts.length=0:=by
    have:=(List.getElem?_eq_some_iff.mp e1).1
    simp at this
    omega
   rw[e0] at e1 e2
   cases e1;cases e2
   exact ht⟩
theorem mU {c:List Int}(u:Ups c)(f:Int->Bool):((c.filter f).map fun l=>(Sum.inl (ar l):bG)).Nodup:=by
 have h:(c.filter f).Pairwise fun a b=>ar a < ar b:=by
  have h1:c.Pairwise fun a b=>ar a < ar b:=List.pairwise_map.mp u
  exact h1.sublist List.filter_sublist
 refine List.pairwise_map.mpr (h.imp fun {a b} hab z=>?_)
 have:=Sum.inl.inj z
 omega
section
variable {P:Program}{w:World}{K:PySem.W.Frag}{mg:Str->Option Value}{base:Heap}
theorem pA:aF ["sentence","step","hand","clauses","clause","left","literal","lesser"] ["sentence","step","hand"] (ap py):=⟨rfl,rfl,rfl,by decide+kernel,rfl,by decide+kernel,by decide+kernel⟩
theorem qU {f g1 g2:Addr}{fd e1 e2:FuncData}(F:Fun K "own_values" "own_values" py f fd)(T:uW mg)(Gdropped:Fn P w K mg base 3 "dropped" g1 e1 ["sentence","hand","literals"] d9)(Gis_of:Fn P w K mg base 2 "is_of" g2 e2 ["sentence","literal","hand"] gk):FnOk P w K mg base cA 4 f fd ["sentence","step","hand"] pz:=by
 have sc:=pA
 refine F.ok pA (fun vs H Q E h=>?_) (fun cdv A outer s H vs Q E hr h=>?_)
 ·obtain⟨p,q,t,xs,cs,v,s,hw,rfl,_⟩:=h
  rfl
 obtain⟨p,q,t,xs,cs,v,s,hw,rfl,S,hups,hd,hok,q'⟩:=h
 have hu:=hr.units
 obtain⟨b,rfl,hb⟩:=px hd
 have ht:=S.ht
 refine⟨_,(ag (aH (i:=3) sc.nd rfl (Or.inl rfl) (ao ak (pv 0) af (fun _ _=>rfl)))
  (ag (aJ (PW.pt (b_ (aj (aM hu) (ao ak (pv 1) af (fun _ _=>rfl)) az (aq _)) (cg (aj (aM hu) (pv 2) (aI rfl T.g_SPOILER) (aq _))))) (ag (aH (i:=4) sc.nd rfl (Or.inl rfl) (ao ak (pv 3) (ao ak (pv 1) af (fun _ _=>rfl)) (fun _ _=>rfl)))
   (ag (aH (i:=5) sc.nd rfl (Or.inr rfl) (aC Gdropped hr (by omega) rfl (aa (pv 0) (aa (aI rfl T.g_SPOILER) (aa (pv 4) ac)))))
   (ah (al (bj (d7 rfl) rfl T.dict PyProof.Rows.boot_dict (aa (aN (NY:=["literal","left"]) (idx:=[none,some 5]) rfl ⟨by with_unfolding_all rfl,(by with_unfolding_all exact⟨rfl,trivial⟩),fun _=>by rfl,by rfl,by rfl,by rfl,by decide⟩ (ci (pv 4)) (fun _ _ _ _=>(aA (i:=0) (show List.Nodup (["literal","left"]:List Str) by decide+kernel) rfl (Or.inl rfl))) (fun _ _ _ _=>(aZ (aj (bO (K:=K) rfl) (pv 0) (pv 1) (by with_unfolding_all rfl)))) (fun _ _ _ _=>(bR (aa (ai aO rfl T.abs PyProof.Rows.boot_abs (aa (pv 0) ac)) (aa (bR (aa (pv 1) (aa (bg dn (pv 0) af (aq _)) ac))) ac))))) ac)))))) au)
  (ag (aJ (PW.pt (b_ (aj (aM hu) (ao ak (pv 1) af (fun _ _=>rfl)) az (aq _)) (cg (aj (aM hu) (pv 2) (aI rfl T.g_WISHER) (aq _))))) (ag (aH (i:=6) sc.nd rfl (Or.inl rfl) (ao ak (ao ak (pv 3) (ao ak (pv 1) af (fun _ _=>rfl)) (fun _ _=>rfl)) af (fun _ _=>rfl)))
   (ah (al (gi (ai aO rfl T.abs PyProof.Rows.boot_abs (aa (pv 6) ac)) (bR (aa (bR ac) (aa (bg dS (pv 6) af (aq _)) ac))))))) au)
  (ag (aJ (PW.pt (b_ (aj (aM hu) (ao ak (pv 1) af (fun _ _=>rfl)) az (aq _)) (cg (aL (aC Gis_of hr (by omega) rfl (aa (pv 0) (aa (ao ak (pv 1) af (fun _ _=>rfl)) (aa (pv 2) ac)))))))) (ah (al (gi (ai aO rfl T.abs PyProof.Rows.boot_abs (aa (ao ak (pv 1) af (fun _ _=>rfl)) ac)) (bR (aa (bR ac) (aa (bg (aM hu) (bg dS (ao ak (pv 1) af (fun _ _=>rfl)) af (aq _)) (bg (aM hu) (pv 2) (aI rfl T.g_WISHER) (aq _)) (aq _)) ac)))))) au)
  (ag (aJ (PW.pt (b_ (aj (aM hu) (ao ak (pv 1) af (fun _ _=>rfl)) az (aq _)) (cg (aj (aM hu) (pv 2) (aI rfl T.g_WISHER) (aq _))))) (ag (cM (i:=7) sc.nd rfl rfl (NY:=["literal","step"]) (idx:=[none,some 1]) rfl ⟨by with_unfolding_all rfl,(by with_unfolding_all exact⟨rfl,trivial⟩),fun _=>by rfl,by rfl,by rfl,by rfl,by decide⟩ (ci (ao ak (pv 3) (ao ak (pv 1) af (fun _ _=>rfl)) (fun _ _=>rfl))) (fun _ _ _ _=>(aA (i:=0) (show List.Nodup (["literal","step"]:List Str) by decide+kernel) rfl (Or.inl rfl))) (fun _ _ _ _=>(aZ (aj dn (ai aO rfl T.abs PyProof.Rows.boot_abs (aa (pv 0) ac)) (ai aO rfl T.abs PyProof.Rows.boot_abs (aa (ao (dM (K:=K) rfl) (pv 1) af (fun _ _=>rfl)) ac)) (aq _)))) (fun _ _ _ _=>(pv 0)) (by with_unfolding_all rfl))
   (ah (al (gi (ai aO rfl T.abs PyProof.Rows.boot_abs (aa (ao ak (pv 1) af (fun _ _=>rfl)) ac)) (bR (aa (bj bM rfl T.tuple PyProof.Rows.boot_tuple (aa (pv 7) ac)) (aa (bg dS (ao ak (pv 1) af (fun _ _=>rfl)) af (aq _)) ac))))))) au)
  (ah (al i9))))))),?_⟩
 refine⟨_,rfl,.inr (.inl ⟨p,_,1,.ref q,rfl,rfl,SqT.of S.hp,rfl,?_⟩)⟩
 have empty:∀ H1:Hp,Same H H1->∀ a:Addr,H1 a=none->Q (.ref a) (upd H1 a (.dK [])):=fun H1 k a na=>q' a [] _ (k.trans (ae na _)) (k.free na) ad
 have wd:∀ (x y:Str),x≠y->decide (V.str x=V.str y)=false:=fun x y h=>decide_eq_false fun z=>h (V.str.inj z)
 have fin:∀ {kvs:List (bG×V)} {H1:Hp} {a:Addr},Same H H1->H a=none->Q (.ref a) (upd H1 a (.dK kvs)):=fun {kvs H1 a} kk na=>q' a _ _ (kk.upd_new na _) na ad
 cases hok with
 |within i j=>
  refine⟨_,rfl,.inr (.inl ⟨b,_,0,.str aD,rfl,rfl,SqT.of hb,rfl,.inl ⟨rfl,_,rfl,?_⟩⟩)⟩
  rw[wd aD (Str.ofString "drop") (by decide+kernel)]
  refine ax (ax ?_)
  refine⟨_,rfl,.inr (.inl ⟨b,_,0,.str aD,rfl,rfl,SqT.of hb,rfl,.inl ⟨rfl,_,rfl,?_⟩⟩)⟩
  rw[wd aD (Str.ofString "unit") (by decide+kernel)]
  refine ax (ax ?_)
  refine⟨_,rfl,.inr (.inl ⟨b,_,0,.str aD,rfl,rfl,SqT.of hb,rfl,.inl ⟨rfl,_,rfl,?_⟩⟩)⟩
  rw[wd aD (Str.ofString "pure") (by decide+kernel)]
  refine ax (ax ?_)
  refine⟨_,rfl,.inr (.inl ⟨b,_,0,.str aD,rfl,rfl,SqT.of hb,rfl,.inl ⟨rfl,_,rfl,?_⟩⟩)⟩
  rw[wd aD (Str.ofString "blocked") (by decide+kernel)]
  exact ax (ax fun a na=>empty H (Same.refl _) a na)
 |drop i hi=>
  obtain⟨tc,hx,htc,hm⟩:=dY S.hcs hi
  have c60:=S.hc _ hm
  have lok:=S.hok _ hm
  have u:=hups _ hm
  generalize cs.getD i []=c at htc hm c60 lok u
  refine⟨_,rfl,.inr (.inl ⟨b,_,0,.str bq,rfl,rfl,SqT.of hb,rfl,.inl ⟨rfl,_,rfl,?_⟩⟩)⟩
  rw[decide_eq_true (show V.str bq=V.str (Str.ofString "drop") from rfl)]
  refine aK ⟨_,rfl,.inl ⟨rfl,_,rfl,?_⟩⟩
  cases hw with
  |true=>
   rw[wd (bx true) (Str.ofString "spoiler") (by decide+kernel)]
   refine ax ?_
   refine⟨_,rfl,.inr (.inl ⟨b,_,0,.str bq,rfl,rfl,SqT.of hb,rfl,.inl ⟨rfl,_,rfl,?_⟩⟩)⟩
   rw[wd bq (Str.ofString "unit") (by decide+kernel)]
   refine ax (ax ?_)
   refine⟨_,rfl,.inr (.inl ⟨b,_,0,.str bq,rfl,rfl,SqT.of hb,rfl,.inl ⟨rfl,_,rfl,?_⟩⟩)⟩
   rw[wd bq (Str.ofString "pure") (by decide+kernel)]
   refine ax (ax ?_)
   refine⟨_,rfl,.inr (.inl ⟨b,_,0,.str bq,rfl,rfl,SqT.of hb,rfl,.inl ⟨rfl,_,rfl,?_⟩⟩)⟩
   rw[wd bq (Str.ofString "blocked") (by decide+kernel)]
   exact ax (ax fun a na=>empty H (Same.refl _) a na)
  |false=>
   rw[decide_eq_true (show V.str (bx false)=V.str (Str.ofString "spoiler") from rfl)]
   refine aK ?_
   refine⟨_,rfl,_,rfl,.inr (.inl ⟨b,_,1,.int (i:Int),rfl,rfl,SqT.of hb,rfl,.inl ⟨q,xs,(i:Int),.ref tc,rfl,rfl,SqL.of S.hq,aS hx,?_⟩⟩)⟩
   refine⟨_,rfl,_,rfl,p,tc,t,_,false,c,rfl,S.hp,(by omega),htc,c60,lok,fun lf H1 k1 hlf=>?_⟩
   have htc1:=k1 _ _ htc
   refine⟨_,rfl,tc,rfl,⟨_,SqT.of htc1⟩,fun D nD=>?_⟩
   refine jd (K:=K) (a:=tc) (xs:=c.map V.int) (uX H1 D lf c (dF t false c)) ⟨none,[],[],rfl,ad,ae nD _,rfl,⟨rfl,fun j t k v e=>by simp at e⟩,rfl⟩ ?_ ?_ ?_
   ·rintro n σ ys H2 _ ⟨_,_,_,_,hd2,k2,_⟩
    exact⟨hd2,SqT.of (k2 _ _ htc1)⟩
   ·rintro n x σ ys H2 hx2 ⟨v0,ts,kvs,rfl,hd2,k2,rfl,hp,hk⟩
    obtain⟨z,rfl,hz⟩:=cU hx2
    have hl2:=k2 _ _ hlf
    have et:=List.take_add_one (l:=c) (i:=n)
    rw[hz] at et
    refine c_ ?_
    have ein:(if true=true then !cy (.int z) ((dF t false c).map V.int) else cy (.int z) ((dF t false c).map V.int))=!(dF t false c).contains z:=by
     rw[if_pos rfl,bi]
    refine⟨_,rfl,_,rfl,lf,_,rfl,.inr (SqT.of hl2),rfl,aW _,_,rfl,?_⟩
    rw[ein]
    cases hb2:(dF t false c).contains z with
    |true=>
     refine ax ⟨_,ts,kvs,rfl,hd2,k2,rfl,hp,?_⟩
     rw[et,List.filter_append,hk]
     show _=((_++List.filter _ [z]).map _)
     rw[List.filter_cons_of_neg (by rw[hb2];decide),List.filter_nil,List.append_nil]
    |false=>
     refine aK ⟨_,rfl,z,rfl,_,rfl,_,rfl,_,_,rfl,rfl,(by show 2<=sizeLine;decide),fun te nte=>⟨(by show 2<=sizeLine;decide),fun pt npt=>?_⟩⟩
     have k3:=ae nte (.tup [.ref lf,.bl (decide (z < 0))])
     generalize upd H2 te (.tup [.ref lf,.bl (decide (z < 0))])=H3 at k3 npt ⊢
     have k4:=ae npt (.tup [.int (if z < 0 then -z else z),.ref te])
     have s4:upd H3 pt (.tup [.int (if z < 0 then -z else z),.ref te]) pt=some (.tup [.int (if z < 0 then -z else z),.ref te]):=ad
     generalize upd H3 pt (.tup [.int (if z < 0 then -z else z),.ref te])=H4 at k4 s4 ⊢
     have k24:=k3.trans k4
     have hd4:=k24 _ _ hd2
     have npD:pt≠D:=fun e=>by rw[e,hd4] at s4;cases s4
     have tl:ts.length<=60:=by
      have e1:=congrArg List.length hk
      rw[List.length_map,List.length_map] at e1
      have e2:=List.length_filter_le (fun l=>!(dF t false c).contains l) (c.take n)
      rw[List.length_take] at e2
      have:=hp.len
      omega
     refine⟨hd4,by rw[List.length_map];exact aB (by omega),_,ts++[pt],kvs++[(.inl (ar z),.ref te)],rfl,ad,(k2.trans k24).upd_new nD _,by rw[List.map_append];rfl,?_,?_⟩
     ·refine ((hp.mono k24).but hd4).snoc ?_
      rw[ay npD]
      exact s4
     ·rw[List.map_append,hk,et,List.filter_append]
      show _=((_++List.filter _ [z]).map _)
      rw[List.filter_cons_of_pos (by rw[hb2];rfl),List.filter_nil,List.map_append]
      rfl
   ·rintro σ ys H2 ⟨v0,ts,kvs,rfl,hd2,k2,rfl,hp,hk⟩
    rw[List.take_of_length_le (by rw[List.length_map];exact Nat.le_refl _)] at hk
    have hlen:kvs.length<=60:=by
     have e1:=congrArg List.length hk
     rw[List.length_map,List.length_map] at e1
     have:=List.length_filter_le (fun l=>!(dF t false c).contains l) c
     omega
    refine⟨D,ts,kvs,rfl,hd2,hp.len,fun j t' kv e1 e2=>hp.at_ j t' kv.1 kv.2 e1 e2,by rw[hk];exact mU u _,by omega,fun a na=>?_⟩
    exact q' a kvs _ (k1.trans (k2.trans (ae na _))) ((k1.trans k2).free na) ad
 |unit i hi hun=>
  obtain⟨tc,hx,htc,hm⟩:=dY S.hcs hi
  obtain⟨z,ez⟩:=jC hun
  rw[ez] at htc
  refine⟨_,rfl,.inr (.inl ⟨b,_,0,.str bb,rfl,rfl,SqT.of hb,rfl,.inl ⟨rfl,_,rfl,?_⟩⟩)⟩
  rw[wd bb (Str.ofString "drop") (by decide+kernel)]
  refine ax (ax ?_)
  refine⟨_,rfl,.inr (.inl ⟨b,_,0,.str bb,rfl,rfl,SqT.of hb,rfl,.inl ⟨rfl,_,rfl,?_⟩⟩)⟩
  rw[decide_eq_true (show V.str bb=V.str (Str.ofString "unit") from rfl)]
  refine aK ⟨_,rfl,.inl ⟨rfl,_,rfl,?_⟩⟩
  cases hw with
  |true=>
   rw[decide_eq_true (show V.str (bx true)=V.str (Str.ofString "wisher") from rfl)]
   refine aK ?_
   refine⟨_,rfl,_,rfl,.inr (.inl ⟨b,_,1,.int (i:Int),rfl,rfl,SqT.of hb,rfl,.inl ⟨q,xs,(i:Int),.ref tc,rfl,rfl,SqL.of S.hq,aS hx,.inr (.inl ⟨tc,_,0,.int z,rfl,rfl,SqT.of htc,rfl,?_⟩)⟩⟩)⟩
   refine c_ (fun dp ndp=>⟨_,rfl,z,rfl,Nat.zero_le _,fun e ne=>⟨_,rfl,_,_,rfl,rfl,(by show 2<=sizeLine;decide),fun pr npr=>⟨?_,[(.inl (ar z),.ref pr)],rfl,(by show 1<=15;decide),?_⟩⟩⟩)
   ·exact ae npr _ _ _ (ae ne _ _ _ ad)
   ·exact fin ((ae ndp _).trans ((ae ne _).trans (ae npr _))) ndp
  |false=>
   rw[wd (bx false) (Str.ofString "wisher") (by decide+kernel)]
   refine ax ?_
   refine⟨_,rfl,.inr (.inl ⟨b,_,0,.str bb,rfl,rfl,SqT.of hb,rfl,.inl ⟨rfl,_,rfl,?_⟩⟩)⟩
   rw[wd bb (Str.ofString "pure") (by decide+kernel)]
   refine ax (ax ?_)
   refine⟨_,rfl,.inr (.inl ⟨b,_,0,.str bb,rfl,rfl,SqT.of hb,rfl,.inl ⟨rfl,_,rfl,?_⟩⟩)⟩
   rw[wd bb (Str.ofString "blocked") (by decide+kernel)]
   exact ax (ax fun a na=>empty H (Same.refl _) a na)
 |pure z c hc hz=>
  have lok:=S.hok _ hc z hz
  refine⟨_,rfl,.inr (.inl ⟨b,_,0,.str bz,rfl,rfl,SqT.of hb,rfl,.inl ⟨rfl,_,rfl,?_⟩⟩)⟩
  rw[wd bz (Str.ofString "drop") (by decide+kernel)]
  refine ax (ax ?_)
  refine⟨_,rfl,.inr (.inl ⟨b,_,0,.str bz,rfl,rfl,SqT.of hb,rfl,.inl ⟨rfl,_,rfl,?_⟩⟩)⟩
  rw[wd bz (Str.ofString "unit") (by decide+kernel)]
  refine ax (ax ?_)
  refine⟨_,rfl,.inr (.inl ⟨b,_,0,.str bz,rfl,rfl,SqT.of hb,rfl,.inl ⟨rfl,_,rfl,?_⟩⟩)⟩
  rw[decide_eq_true (show V.str bz=V.str (Str.ofString "pure") from rfl)]
  refine aK ⟨_,rfl,_,rfl,.inr (.inl ⟨b,_,1,.int z,rfl,rfl,SqT.of hb,rfl,_,rfl,p,t,_,z,hw,rfl,S.hp,(by omega),lok.1,lok.2,_,rfl,?_⟩)⟩
  cases cN t z == hw with
  |true=>
   refine aK (fun dp ndp=>?_)
   have k1:=ae ndp (.dK [])
   have s1:upd H dp (.dK []) dp=some (.dK []):=ad
   generalize upd H dp (.dK [])=H1 at k1 s1 ⊢
   refine⟨_,rfl,.inr (.inl ⟨b,_,1,.int z,rfl,rfl,SqT.of (k1 _ _ hb),rfl,z,rfl,Nat.zero_le _,fun e ne=>?_⟩)⟩
   have k2:=ae ne (.tup [])
   generalize upd H1 e (.tup [])=H2 at k2 ⊢
   refine⟨_,rfl,.inr (.inl ⟨b,_,1,.int z,rfl,rfl,SqT.of ((k1.trans k2) _ _ hb),rfl,_,_,rfl,rfl,_,rfl,.inl ⟨rfl,.inl ⟨rfl,(by show 2<=sizeLine;decide),fun pr npr=>⟨?_,[(.inl (ar z),.ref pr)],rfl,(by show 1<=15;decide),?_⟩⟩⟩⟩)⟩
   ·exact ae npr _ _ _ (k2 _ _ s1)
   ·exact fin (k1.trans (k2.trans (ae npr _))) ndp
  |false=>
   refine ax ?_
   refine⟨_,rfl,.inr (.inl ⟨b,_,0,.str bz,rfl,rfl,SqT.of hb,rfl,.inl ⟨rfl,_,rfl,?_⟩⟩)⟩
   rw[wd bz (Str.ofString "blocked") (by decide+kernel)]
   exact ax (ax fun a na=>empty H (Same.refl _) a na)
 |blocked i z hi hz=>
  obtain⟨tc,hx,htc,hm⟩:=dY S.hcs hi
  have c60:=S.hc _ hm
  refine⟨_,rfl,.inr (.inl ⟨b,_,0,.str aw,rfl,rfl,SqT.of hb,rfl,.inl ⟨rfl,_,rfl,?_⟩⟩)⟩
  rw[wd aw (Str.ofString "drop") (by decide+kernel)]
  refine ax (ax ?_)
  refine⟨_,rfl,.inr (.inl ⟨b,_,0,.str aw,rfl,rfl,SqT.of hb,rfl,.inl ⟨rfl,_,rfl,?_⟩⟩)⟩
  rw[wd aw (Str.ofString "unit") (by decide+kernel)]
  refine ax (ax ?_)
  refine⟨_,rfl,.inr (.inl ⟨b,_,0,.str aw,rfl,rfl,SqT.of hb,rfl,.inl ⟨rfl,_,rfl,?_⟩⟩)⟩
  rw[wd aw (Str.ofString "pure") (by decide+kernel)]
  refine ax (ax ?_)
  refine⟨_,rfl,.inr (.inl ⟨b,_,0,.str aw,rfl,rfl,SqT.of hb,rfl,.inl ⟨rfl,_,rfl,?_⟩⟩)⟩
  rw[decide_eq_true (show V.str aw=V.str (Str.ofString "blocked") from rfl)]
  refine aK ⟨_,rfl,.inl ⟨rfl,_,rfl,?_⟩⟩
  cases hw with
  |false=>
   rw[wd (bx false) (Str.ofString "wisher") (by decide+kernel)]
   exact ax fun a na=>empty H (Same.refl _) a na
  |true=>
   rw[decide_eq_true (show V.str (bx true)=V.str (Str.ofString "wisher") from rfl)]
   refine aK ?_
   refine⟨_,rfl,_,rfl,.inr (.inl ⟨b,_,1,.int (i:Int),rfl,rfl,SqT.of hb,rfl,.inl ⟨q,xs,(i:Int),.ref tc,rfl,rfl,SqL.of S.hq,aS hx,tc,rfl,⟨_,SqT.of htc⟩,fun D nD=>?_⟩⟩)⟩
   refine bP [some (.ref b)] (fun x=>match x with
    |.int l=>decide (ar l < ar z)
    |_=>false) id rfl htc nD (by rw[List.length_map];omega) (fun x hx2 H' R k r=>?_) (fun x hx2 _ H' R k r=>⟨_,rfl,r⟩) ?_
   ·obtain⟨l,hl,rfl⟩:=List.mem_map.mp hx2
    exact⟨_,rfl,l,rfl,_,rfl,.inr (.inl ⟨b,_,2,.int z,rfl,rfl,SqT.of (k _ _ hb),rfl,z,rfl,_,_,rfl,rfl,_,rfl,r⟩)⟩
   ·generalize List.map id _=us
    have kD:=ae nD (.lst us)
    have sD:upd H D (.lst us) D=some (.lst us):=ad
    generalize upd H D (.lst us)=H0 at kD sD ⊢
    refine fun dp ndp=>?_
    have k1:=ae ndp (.dK [])
    have s1:upd H0 dp (.dK []) dp=some (.dK []):=ad
    generalize upd H0 dp (.dK [])=H1 at k1 s1 ⊢
    have hb1:=k1 _ _ (kD _ _ hb)
    refine⟨_,rfl,.inr (.inl ⟨b,_,2,.int z,rfl,rfl,SqT.of hb1,rfl,z,rfl,_,rfl,D,us,rfl,.inl ⟨SqL.of (k1 _ _ sD),fun e ne=>?_⟩⟩)⟩
    have k2:=ae ne (.tup us)
    generalize upd H1 e (.tup us)=H2 at k2 ⊢
    refine⟨_,rfl,.inr (.inl ⟨b,_,2,.int z,rfl,rfl,SqT.of (k2 _ _ hb1),rfl,_,_,rfl,rfl,(by show 2<=sizeLine;decide),fun pr npr=>⟨?_,[(.inl (ar z),.ref pr)],rfl,(by show 1<=15;decide),?_⟩⟩)⟩
    ·exact ae npr _ _ _ (k2 _ _ s1)
    ·exact fin (kD.trans (k1.trans (k2.trans (ae npr _)))) (kD.free ndp)
end
end K62
namespace K62
open PySem L2 OD
abbrev pB:Stmt:=kY (cX 42) 0
abbrev pC:Stmt:=kY (cX 27) 0
abbrev kK:Stmt:=cX 43
structure tL (K:PySem.W.Frag)(mg:Str->Option Value)(CP CL:Addr):Prop where
 dict:mg "dict"=none
 isinstance:mg "isinstance"=none
 tuple:mg "tuple"=none
 clP:Cls K CP
 clL:Cls K CL
 ne:NoAttr K CP "entries"
 nv:NoAttr K CL "variables"
 ni:NoAttr K CL "innermost"
 nl:NoAttr K CL "layers"
 g_LedBack:cx mg "LedBack" (.ref CL)
 ha:PySem.W.findIn K (.ref CP) "__class__"=some (some (.builtin "object.__class__"))
 hn:PySem.W.specialIn K (.builtin "object.__class__") "__get__"=some (some (.builtin "getset_descriptor.__get__"))
 htk:PySem.W.takesIn K (.builtin "object.__class__")=some true
 hm:PySem.W.mroIn K CP (.type "object")=some true
 kit:PySem.W.kitOne K (.ref CP) (.ref CL)=some false
def BtX (x:Addr)(H H':Hp):Prop:=∀ b o,b≠x->H b=some o->H' b=some o
inductive rV (CP:Addr)(vs:List V)(H:Hp)(Q:VK):Prop
 |mk (x dx l:Addr)(h0:vs=[.ref x,.ref l])(h1:H x=some (.ins CP dx []))(h2:H l=some (.lst []))(q:∀ fs H',H' x=some (.ins CP dx fs)->BtX x H H'->Q .non H'):rV CP vs H Q
def pD (CP:Addr):Sp:=fun vs H Q _=>rV CP vs H Q
inductive rW (CP CL:Addr)(vs:List V)(H:Hp)(Q:VK):Prop
 |mk (x dx p q pl dp:Addr)(fs:List (Str×V))(t:Str)(xs:List V)(cs:List (List Int))(v:V)(s:Nx)(hw:Bool)(h0:vs=[.ref x,.ref p,v,.str (bx hw),.ref pl])(hx:H x=some (.ins CL dx []))(h1:SentAt H p q t xs cs)(hu:∀ c∈cs,Ups c)(h2:RD H s.d v)(h3:jI t cs s)(h4:H pl=some (.ins CP dp fs))
  (q:∀ H',BtX x H H'->Q .non H'):rW CP CL vs H Q
def pE (CP CL:Addr):Sp:=fun vs H Q _=>rW CP CL vs H Q
inductive uY (H1:Hp)(D:Addr)(ks:List Int)(i:Nat)(σ:St)(ys:List V)(H2:Hp):Prop
 |mk (v0:Option V)(ts:List Addr)(h0:σ=[v0])(h1:H2 D=some (.lst ys))(h2:Same H1 H2)(h3:ys=ts.map V.ref)(h4:PrsAt H2 ts ((ks.take i).map fun k=>((Sum.inl k:bG),V.bl true))):uY H1 D ks i σ ys H2
theorem kM (t:Str)(hw:Bool):(bJ t hw).Nodup:=by
 unfold bJ
 refine List.Pairwise.map _ (fun a b h z=>h ?_) (List.nodup_range.sublist List.filter_sublist)
 omega
theorem pF (t:Str)(hw:Bool):(bJ t hw).length<=t.length:=by
 unfold bJ
 rw[List.length_map]
 have:=List.length_filter_le (fun i=>cK t i == hw) (List.range t.length)
 rwa [List.length_range] at this
theorem BtX.of {x:Addr}{H H':Hp}(k:Same H H'):BtX x H H':=fun b o _ e=>k b o e
theorem BtX.put {x:Addr}{H H':Hp}{o:HO}(k:BtX x H H'):BtX x H (upd H' x o):=fun b u hb e=>by rw[ay hb];exact k b u hb e
theorem BtX.trans {x:Addr}{H H' H'':Hp}(k:BtX x H H')(j:BtX x H' H''):BtX x H H'':=fun b u hb e=>j b u hb (k b u hb e)
theorem BtX.cls {x C dx:Addr}{fs:List (Str×V)}{H H':Hp}(hx:H x=some (.ins C dx fs))(k:BtX x H H'):∀ {cs:List (List Int)} {xs:List V},CLs H cs xs->CLs H' cs xs
 |_,_,.nil=>.nil
 |_,_,.cons ⟨t,e,h⟩ r=>.cons ⟨t,e,k _ _ (fun z=>by rw[z,hx] at h;cases h) h⟩ (BtX.cls hx k r)
theorem BtX.sent {x C dx p q:Addr}{fs:List (Str×V)}{H H':Hp}{t:Str}{xs:List V}{cs:List (List Int)}(hx:H x=some (.ins C dx fs))(k:BtX x H H')(S:SentAt H p q t xs cs):SentAt H' p q t xs cs:=
 ⟨k _ _ (fun z=>by have:=S.hp;rw[z,hx] at this;cases this) S.hp,k _ _ (fun z=>by have:=S.hq;rw[z,hx] at this;cases this) S.hq,k.cls hx S.hcs,S.ht,S.hn,S.hok,S.hc⟩
theorem uZ {H:Hp}{s:Nx}{b:Addr}(h:H b=some (.tup s.zs)):RD H s.d (.ref b):=by
 cases s with
 |unit i=>exact c6 h (bd (dw _) (bd (bY _) ck))
 |drop i=>exact c6 h (bd (dw _) (bd (bY _) ck))
 |pure i=>exact c6 h (bd (dw _) (bd (bY _) ck))
 |within i j=>exact c6 h (bd (dw _) (bd (bY _) (bd (bY _) ck)))
 |blocked i z=>exact c6 h (bd (dw _) (bd (bY _) (bd (bY _) ck)))
section
variable {P:Program}{w:World}{K:PySem.W.Frag}{mg:Str->Option Value}{base:Heap}{CP CL CB:Addr}
theorem pG:aF ["self","plan"] ["self","plan"] (ap pC):=⟨rfl,rfl,rfl,by decide+kernel,rfl,by decide+kernel,by decide+kernel⟩
theorem qV {f:Addr}{fd:FuncData}(F:Fun K "__init__" "Planned.__init__" pC f fd)(T:tL K mg CP CL):FnOk P w K mg base cA 1 f fd ["self","plan"] (pD CP):=by
 have sc:=pG
 refine F.ok pG (fun vs H Q E h=>?_) (fun cdv A outer s H vs Q E hr h=>?_)
 ·obtain⟨x,dx,l,rfl,_⟩:=h
  rfl
 obtain⟨x,dx,l,rfl,hx,hl,q⟩:=h
 refine⟨_,(ah (fQ (pv 0) (bj (d7 rfl) rfl T.dict PyProof.Rows.boot_dict (aa (aN (NY:=["entry"]) (idx:=[none]) rfl ⟨by with_unfolding_all rfl,(by with_unfolding_all exact trivial),fun _=>by rfl,by rfl,by rfl,by rfl,by decide⟩ (bc (pv 1)) (fun _ _ _ _=>(aA (i:=0) (show List.Nodup (["entry"]:List Str) by decide+kernel) rfl (Or.inl rfl))) (fun _ _ _ _=>cE) (fun _ _ _ _=>(bR (aa (ao (dM (K:=K) rfl) (pv 0) af (fun _ _=>rfl)) (aa (bR (aa (bj (cn (K:=K) rfl) rfl T.tuple PyProof.Rows.boot_tuple (aa (ao (dM (K:=K) rfl) (pv 0) af (fun _ _=>rfl)) ac)) (aa (ao (dM (K:=K) rfl) (pv 0) af (fun _ _=>rfl)) ac))) ac))))) ac)) rfl)),?_⟩
 refine⟨_,rfl,l,rfl,⟨_,SqL.of hl⟩,fun D nD=>?_⟩
 have nl:l≠D:=am hl nD
 refine cr (K:=K) (a:=l) (xs:=[]) (fun i σ ys H2=>ys=[]/\H2=upd H D (.lst ys)) ⟨rfl,rfl⟩ ?_ ?_ ?_
 ·rintro i σ ys H2 _ ⟨_,rfl⟩
  exact⟨ad,SqL.of (by rw[ay nl];exact hl)⟩
 ·rintro i x σ ys H2 hx
  simp at hx
 rintro σ ys H2 ⟨rfl,rfl⟩
 have kD:=ae nD (.lst [])
 have sD:upd H D (.lst []) D=some (.lst []):=ad
 generalize upd H D (.lst [])=H1 at kD sD ⊢
 refine⟨D,[],[],rfl,sD,rfl,(fun i t kv e=>by simp at e),List.nodup_nil,Nat.zero_le _,fun d nd=>?_⟩
 have kd:=ae nd (.dK [])
 have sx:=kd _ _ (kD _ _ hx)
 refine⟨_,rfl,x,CP,dx,_,rfl,sx,T.clP,T.ne,(by show 0 < 1000;decide),?_⟩
 exact q _ _ ad ((BtX.of (kD.trans kd)).put)
theorem pH:aF ["self","sentence","step","hand","player"] ["self","sentence","step","hand","player"] (ap pB):=⟨rfl,rfl,rfl,by decide+kernel,rfl,by decide+kernel,by decide+kernel⟩
theorem qW {f g1 g2:Addr}{fd e1 e2:FuncData}(F:Fun K "__init__" "LedBack.__init__" pB f fd)(T:tL K mg CP CL)(Gvariables_of:Fn P w K mg base 2 "variables_of" g1 e1 ["sentence","hand"] ku)(Gown_values:Fn P w K mg base 4 "own_values" g2 e2 ["sentence","step","hand"] pz):FnOk P w K mg base cA 5 f fd ["self","sentence","step","hand","player"] (pE CP CL):=by
 have sc:=pH
 refine F.ok pH (fun vs H Q E h=>?_) (fun cdv A outer s H vs Q E hr h=>?_)
 ·obtain⟨x,dx,p,q,pl,dp,fs,t,xs,cs,v,s,hw,rfl,_⟩:=h
  rfl
 obtain⟨x,dx,p,qa,pl,dp,fs,t,xs,cs,v,s,hw,rfl,hx,S,hups,hd,hok,hpl,q⟩:=h
 have ht:=S.ht
 refine⟨_,(ag (fQ (pv 0) (bj (d7 rfl) rfl T.dict PyProof.Rows.boot_dict (aa (aN (NY:=["variable"]) (idx:=[none]) rfl ⟨by with_unfolding_all rfl,(by with_unfolding_all exact trivial),fun _=>by rfl,by rfl,by rfl,by rfl,by decide⟩ (bc (aC Gvariables_of hr (by omega) rfl (aa (pv 1) (aa (pv 3) ac)))) (fun _ _ _ _=>(aA (i:=0) (show List.Nodup (["variable"]:List Str) by decide+kernel) rfl (Or.inl rfl))) (fun _ _ _ _=>cE) (fun _ _ _ _=>(bR (aa (pv 0) (aa cq ac))))) ac)) rfl)
  (ag (fQ (pv 0) (pv 4) rfl)
  (ag (fQ (pv 0) (aR ac) rfl)
  (ag (aJ (aL (ai iw rfl T.isinstance PyProof.Rows.boot_isinstance (aa (pv 4) (aa (aI rfl T.g_LedBack) ac)))) (ag (fQ (pv 0) (ie (pv 4) rfl) rfl)
   (ah (cY (fS PySem.F.plainAttrs_list PySem.F.slot_list_extend PySem.F.type_list_extend mi (ie (pv 0) rfl) (aa (ie (pv 4) rfl) ac))))) au)
  (ah (cY (fS PySem.F.plainAttrs_list PySem.F.slot_list_append PySem.F.type_list_append cJ (ie (pv 0) rfl) (aa (aC Gown_values hr (by omega) rfl (aa (pv 1) (aa (pv 2) (aa (pv 3) ac)))) ac)))))))),?_⟩
 refine⟨_,rfl,_,rfl,p,t,_,hw,rfl,S.hp,(by omega),fun l H1 k1 hl=>?_⟩
 refine⟨l,rfl,⟨_,SqL.of hl⟩,fun D nD=>?_⟩
 have hvl:=pF t hw
 refine cr (K:=K) (a:=l) (xs:=(bJ t hw).map V.int) (uY H1 D (bJ t hw)) ⟨none,[],rfl,ad,ae nD _,rfl,⟨rfl,fun j t k v e=>by simp at e⟩⟩ ?_ ?_ ?_
 ·rintro i σ ys H2 _ ⟨_,_,_,h1,h2,_⟩
  exact⟨h1,SqL.of (h2 _ _ hl)⟩
 ·rintro i y σ ys H2 hy ⟨v0,ts,rfl,h1,h2,rfl,h4⟩
  obtain⟨z,rfl,hz⟩:=cU hy
  have hil:=(List.getElem?_eq_some_iff.mp hz).1
  have et:=List.take_add_one (l:=bJ t hw) (i:=i)
  rw[hz] at et
  refine fY ⟨_,rfl,(by show 2<=sizeLine;decide),fun pt npt=>?_⟩
  have k3:=ae npt (.tup [.int z,.bl true])
  have s3:upd H2 pt (.tup [.int z,.bl true]) pt=some (.tup [.int z,.bl true]):=ad
  generalize upd H2 pt (.tup [.int z,.bl true])=H3 at k3 s3 ⊢
  have d3:=k3 _ _ h1
  have tl:=h4.len
  rw[List.length_map,List.length_take] at tl
  have npD:pt≠D:=fun e=>by rw[e,d3] at s3;cases s3
  refine⟨d3,by rw[List.length_map];exact aB (by omega),_,ts++[pt],rfl,ad,(h2.trans k3).upd_new nD _,by rw[List.map_append];rfl,?_⟩
  rw[et,List.map_append]
  refine ((h4.mono k3).but d3).snoc ?_
  rw[ay npD]
  exact s3
 rintro σ ys H2 ⟨_,ts,_,h1,h2,rfl,h4⟩
 rw[List.take_of_length_le (by rw[List.length_map];exact Nat.le_refl _)] at h4
 refine⟨D,ts,_,rfl,h1,h4.len,(fun i t kv e1 e2=>h4.at_ i t kv.1 kv.2 e1 e2),?_,(by rw[List.length_map];omega),fun d nd=>?_⟩
 ·rw[List.map_map]
  exact List.Pairwise.map _ (fun a b h z=>h (Sum.inl.inj z)) (kM t hw)
 have kd:=ae nd (.dK ((bJ t hw).map fun k=>((Sum.inl k:bG),V.bl true)))
 have k02:=k1.trans (h2.trans kd)
 have sx:=k02 _ _ hx
 generalize upd H2 d _=H3 at k02 sx ⊢
 clear k1 h2 kd h1 h4 nd
 refine⟨_,rfl,x,CL,dx,_,rfl,sx,T.clL,T.nv,(by show 0 < 1000;decide),?_⟩
 have b1:BtX x H (upd H3 x (.ins CL dx [("variables",.ref d)])):=(BtX.of k02).put
 have s1:upd H3 x (.ins CL dx [("variables",.ref d)]) x=some (.ins CL dx [("variables",.ref d)]):=ad
 show gx _ _ _ _ (upd H3 x (.ins CL dx [("variables",.ref d)]))
 generalize upd H3 x (.ins CL dx [("variables",.ref d)])=H4 at b1 s1 ⊢
 refine⟨_,rfl,_,rfl,x,CL,dx,_,rfl,s1,T.clL,T.ni,(by show 1 < 1000;decide),?_⟩
 have b2:BtX x H (upd H4 x (.ins CL dx [("variables",.ref d),("innermost",.ref pl)])):=b1.put
 have s2:upd H4 x (.ins CL dx [("variables",.ref d),("innermost",.ref pl)]) x=some (.ins CL dx [("variables",.ref d),("innermost",.ref pl)]):=ad
 show gx _ _ _ _ (upd H4 x (.ins CL dx [("variables",.ref d),("innermost",.ref pl)]))
 generalize upd H4 x (.ins CL dx [("variables",.ref d),("innermost",.ref pl)])=H5 at b2 s2 ⊢
 refine⟨Nat.zero_le _,fun la nla=>?_⟩
 have k6:=ae nla (.lst [])
 have s6:upd H5 la (.lst []) la=some (.lst []):=ad
 have sx6:=k6 _ _ s2
 have b6:=b2.trans (BtX.of k6)
 generalize upd H5 la (.lst [])=H6 at k6 s6 sx6 b6 ⊢
 refine⟨_,rfl,x,CL,dx,_,rfl,sx6,T.clL,T.nl,(by show 2 < 1000;decide),?_⟩
 have nlx:la≠x:=fun e=>by rw[e,sx6] at s6;cases s6
 have b7:BtX x H (upd H6 x (.ins CL dx [("variables",.ref d),("innermost",.ref pl),("layers",.ref la)])):=b6.put
 have s7:upd H6 x (.ins CL dx [("variables",.ref d),("innermost",.ref pl),("layers",.ref la)]) x=some (.ins CL dx [("variables",.ref d),("innermost",.ref pl),("layers",.ref la)]):=ad
 have l7:upd H6 x (.ins CL dx [("variables",.ref d),("innermost",.ref pl),("layers",.ref la)]) la=some (.lst []):=by rw[ay nlx];exact s6
 show gx _ _ _ _ (upd H6 x (.ins CL dx [("variables",.ref d),("innermost",.ref pl),("layers",.ref la)]))
 generalize upd H6 x (.ins CL dx [("variables",.ref d),("innermost",.ref pl),("layers",.ref la)])=H7 at b7 s7 l7 ⊢
 have npx:pl≠x:=fun e=>by
  rw[e,hx] at hpl
  have e2:CL=CP:=by cases hpl;rfl
  have:=T.kit
  rw[← e2,jo] at this
  cases this
 have p7:=b7 _ _ npx hpl
 refine⟨_,rfl,.ref pl,.ref CP,CL,false,rfl,.ins p7 T.clP T.ha T.hn T.htk T.hm,T.kit,false,rfl,ax ?_⟩
 obtain⟨b,rfl,hb⟩:=px hd
 have hb7:=b7 _ _ (fun z=>by rw[z,hx] at hb;cases hb) hb
 refine⟨_,rfl,x,CL,dx,_,_,rfl,s7,T.clL,T.nl,rfl,.inl ⟨rfl,_,SqL.of l7⟩,_,rfl,_,rfl,_,rfl,p,qa,t,xs,cs,_,s,hw,rfl,b7.sent hx S,hups,uZ hb7,hok,fun a kvs H8 k8 na ha=>?_⟩
 refine⟨la,_,_,rfl,rfl,k8 _ _ l7,aB (by show 0<=1000;decide),?_⟩
 exact q _ fun c o hc e=>by
  by_cases z:c=la
  ·have:=b2 _ _ hc e
   rw[z,nla] at this
   cases this
  ·rw[ay z]
   exact k8 _ _ (b7 _ _ hc e)
inductive pI (CP CB:Addr)(vs:List V)(H:Hp)(Q:VK)(E:XK):Prop
 |mk (p q pl dp:Addr)(fs:List (Str×V))(t:Str)(xs:List V)(cs:List (List Int))(v:V)(d:PyData)(hw:Bool)(h0:vs=[.ref p,v,.str (bx hw),.ref pl])(h1:SentAt H p q t xs cs)(hu:∀ c∈cs,Ups c)(h2:RD H d v)(h3:tY d)(h4:H pl=some (.ins CP dp fs))
  (q1:∀ ds,ba t cs d=some ds->∀ r H',Same H H'->Q (.ref r) H') (q2:ba t cs d=none->∀ H',Same H H'->E (.ref CB) none H'):pI CP CB vs H Q E
def lP (CP CB:Addr):Sp:=fun vs H Q E=>pI CP CB vs H Q E
theorem lQ:aF ["sentence","step","hand","player"] ["sentence","step","hand","player"] (ap kK):=⟨rfl,rfl,rfl,by decide+kernel,rfl,by decide+kernel,by decide+kernel⟩
theorem pJ {f g1 g2:Addr}{fd e1 e2:FuncData}(F:Fun K "player_back" "player_back" kK f fd)(Gsmaller_by:tX P w K mg base 6 "smaller_by" g1 e1 ["sentence","step"] (iF CB))(GLedBack:uR P w K mg base 5 "LedBack" CL g2 e2 ["self","sentence","step","hand","player"] (pE CP CL)):FnOk P w K mg base (gv P w) 7 f fd ["sentence","step","hand","player"] (lP CP CB):=by
 have sc:=lQ
 refine F.okX lQ (fun vs H Q E h=>?_) (fun cdv A outer s H vs Q E hr h=>?_)
 ·obtain⟨p,q,pl,dp,fs,t,xs,cs,v,d,hw,rfl,_⟩:=h
  rfl
 obtain⟨p,qa,pl,dp,fs,t,xs,cs,v,d,hw,rfl,S,hups,hd,hsh,hpl,q1,q2⟩:=h
 refine⟨_,(ag (cY (tf Gsmaller_by hr (by omega) rfl (aa (pv 0) (aa (pv 1) ac))))
  (ah (al (oj GLedBack hr (by omega) rfl (aa (pv 0) (aa (pv 1) (aa (pv 2) (aa (pv 3) ac)))))))),?_⟩
 refine⟨_,rfl,_,rfl,p,qa,t,xs,cs,v,d,rfl,S,hd,hsh,fun ds eds r l ys H1 k1 _ _ _ _=>?_,fun e H1 k1=>q2 e H1 k1⟩
 obtain⟨s,rfl,hok⟩:=pw eds
 refine⟨_,rfl,_,rfl,_,rfl,_,rfl,fun x dx nx ndx hne=>?_⟩
 have k2:Same H1 (upd (upd H1 dx (.own x)) x (.ins CL dx [])):=fun b o e=>by
  rw[ay (am e nx),ay (am e ndx)]
  exact e
 have k02:=k1.trans k2
 refine⟨x,dx,p,qa,pl,dp,fs,t,xs,cs,v,s,hw,rfl,ad,⟨k02 _ _ S.hp,k02 _ _ S.hq,S.hcs.mono k02,S.ht,S.hn,S.hok,S.hc⟩,hups,fC k02 _ _ hd,hok,k02 _ _ hpl,fun H3 k3=>⟨rfl,q1 ds eds x H3 fun b o e=>k3 b o (am e (k1.free nx)) (k02 _ _ e)⟩⟩
end
end K62
namespace K62
open PySem L2 OD
abbrev kO:Stmt:=cX 59
def u0:Option (List (List Int))->List Bool
 |some _=>[]
 |none=>kindsB
structure u1 (K:PySem.W.Frag)(mg:Str->Option Value)(CB CD:Addr):Prop where
 len:mg "len"=none
 m_DuelError:mg "DuelError"=some (.ref CD)
 x_DuelError:PySem.W.excIn K CD [.type "ValueError",.type "Exception",.type "BaseException",.type "object"] "ValueError.__new__"=true
 be_DuelError:PySem.W.mroIn K CD (.type "BaseException")=some true
 lt_DuelError:PySem.W.mroIn K CB (.ref CD)=some true
inductive lR (vs:List V)(H:Hp)(Q:VK):Prop
 |mk (h0:vs=[.non])(q:∀ (l:Addr) (H':Hp),Same H H'->H' l=some (.lst [])->Q (.ref l) H'):lR vs H Q
def gq:Sp:=fun vs H Q _=>lR vs H Q
inductive pK (vs:List V)(H:Hp)(Q:VK):Prop
 |mk (p q b:Addr)(t:Str)(xs zs:List V)(cs:List (List Int))(d:PyData)(bk:Bool)(h0:vs=[.ref p,.ref b,.bl bk])(h1:SentAt H p q t xs cs)(hu:∀ c∈cs,Ups c)(h2:RD H d (.ref b))(h3:tY d)(h4:H b=some (.tup zs))(h5:zs.length<=900)
  (q1:∀ l H',Same H H'->H' l=some (.lst ((u0 (ba t cs d)).map V.bl))->Q (.ref l) H'):pK vs H Q
def iM:Sp:=fun vs H Q _=>pK vs H Q
section
variable {P:Program}{w:World}{K:PySem.W.Frag}{mg:Str->Option Value}{base:Heap}{CP CL CB CD C1 C2 C3 C4 C5 C7 C8 C9:Addr}
theorem mV {f:Addr}{fd:FuncData}(F:Fun K "_law_kinds" "_law_kinds" iK f fd)(T:vN K mg CB C1 C2 C3 C4 C5 C7 C8 C9):FnOk P w K mg base cA 1 f fd ["_law_kept"] gq:=by
 have sc:=fL
 refine F.ok fL (fun vs H Q E h=>?_) (fun cdv A outer s H vs Q E hr h=>?_)
 ·obtain⟨rfl,_⟩:=h
  rfl
 obtain⟨rfl,q⟩:=h
 have hu:=hr.units
 refine⟨_,(ag (aJ (aj jP (pv 0) a_ (aq _)) (ah (al (aR ac))) au)
  (ag (aH (i:=1) sc.nd rfl (Or.inl rfl) (aR (aa (ai aG rfl T.isinstance PyProof.Rows.boot_isinstance (aa (pv 0) (aa (aI rfl T.g_NoVariable) ac))) (aa (ai aG rfl T.isinstance PyProof.Rows.boot_isinstance (aa (pv 0) (aa (aI rfl T.g_NoFilling) ac))) (aa (ai aG rfl T.isinstance PyProof.Rows.boot_isinstance (aa (pv 0) (aa (aI rfl T.g_BadLine) ac))) ac)))))
  (ag (aH (i:=1) sc.nd rfl (Or.inl rfl) (av bv (pv 1) (aR (aa (ai aG rfl T.isinstance PyProof.Rows.boot_isinstance (aa (pv 0) (aa (aI rfl T.g_NotWhole) ac))) (aa (ai aG rfl T.isinstance PyProof.Rows.boot_isinstance (aa (pv 0) (aa (aI rfl T.g_NoHand) ac))) (aa (ai aG rfl T.isinstance PyProof.Rows.boot_isinstance (aa (pv 0) (aa (aI rfl T.g_BadStep) ac))) ac))))))
  (ag (aH (i:=1) sc.nd rfl (Or.inl rfl) (av bv (pv 1) (aR (aa (ai aG rfl T.isinstance PyProof.Rows.boot_isinstance (aa (pv 0) (aa (aI rfl T.g_NoForm) ac))) (aa (ai aG rfl T.isinstance PyProof.Rows.boot_isinstance (aa (pv 0) (aa (aI rfl T.g_TooMany) ac))) (aa (ai aG rfl T.isinstance PyProof.Rows.boot_isinstance (aa (pv 0) (aa (aI rfl T.g_NoText) ac))) ac))))))
  (ah (al (av bv (pv 1) (aR (aa (ai aG rfl T.isinstance PyProof.Rows.boot_isinstance (aa (pv 0) (aa (cD (v:=.ty "ValueError") rfl T.ValueError PyProof.Rows.Boot.«ValueError» rfl) ac))) ac))))))))),?_⟩
 refine⟨_,rfl,rfl,_,rfl,aK ⟨Nat.zero_le _,fun l nl=>?_⟩⟩
 exact q l _ (ae nl _) ad
theorem lS:aF ["_law_sentence_here","_law_step","_law_back","_law_kept","e"] ["_law_sentence_here","_law_step","_law_back"] (ap kO):=⟨rfl,rfl,rfl,by decide+kernel,rfl,by decide+kernel,by decide+kernel⟩
theorem pL {f g1 g2 g3 g4 g5:Addr}{fd e1 e2 e3 e4 e5:FuncData}(F:Fun K "_law_asked" "_law_asked" kO f fd)(T:u1 K mg CB CD)(GPlanned:uR P w K mg base 1 "Planned" CP g1 e1 ["self","plan"] (pD CP))(Gplayer_back:tX P w K mg base 7 "player_back" g2 e2 ["sentence","step","hand","player"] (lP CP CB))(Gsmaller_by:tX P w K mg base 6 "smaller_by" g3 e3 ["sentence","step"] (iF CB))
  (G1:Fn P w K mg base 1 "_law_kinds" g4 e4 ["_law_kept"] (iL CB)) (G0:Fn P w K mg base 1 "_law_kinds" g5 e5 ["_law_kept"] gq):FnOk P w K mg base cA 8 f fd ["_law_sentence_here","_law_step","_law_back"] iM:=by
 have sc:=lS
 refine F.ok lS (fun vs H Q E h=>?_) (fun cdv A outer s H vs Q E hr h=>?_)
 ·obtain⟨p,q,b,t,xs,zs,cs,d,bk,rfl,_⟩:=h
  rfl
 obtain⟨p,qa,b,t,xs,zs,cs,d,bk,rfl,S,hups,hd,hsh,hb,hz9,q⟩:=h
 have hu:=hr.units
 have hz2:(((zs.length:Nat):Int) % 2=0)\/(((zs.length:Nat):Int) % 2=1):=by omega
 have hand:∃ hw:Bool,ig [V.str (Str.ofString "spoiler"),V.str (Str.ofString "wisher")] (((zs.length:Nat):Int) % 2)=some (.str (bx hw)):=by
  rcases hz2 with e|e
  ·rw[e];exact⟨false,rfl⟩
  ·rw[e];exact⟨true,rfl⟩
 obtain⟨hw,hat⟩:=hand
 cases e:ba t cs d with
 |none=>
  have G_law_kinds:=G1
  rw[e] at q
  refine⟨_,(ag (aH (i:=3) sc.nd rfl (Or.inl rfl) a_)
  (ag (ll (i:=4) sc.nd rfl rfl rfl rfl rfl T.x_DuelError T.be_DuelError T.lt_DuelError T.m_DuelError rfl (om (fun _ _ z=>z) (aL (pv 2)) (eF (iq Gplayer_back (fun _ _ z=>z) hr (by omega) rfl (aa (pv 0) (aa (pv 1) (aa (ao ak (aR (aa az (aa az ac))) (av bD (ai aE rfl T.len PySem.boot_len (aa (pv 1) ac)) af) (fun _ _=>rfl)) (aa (oj GPlanned hr (by omega) rfl (aa (aR ac) ac)) ac)))))) (eF (iq Gsmaller_by (fun _ _ z=>z) hr (by omega) rfl (aa (pv 0) (aa (pv 1) ac))))) (fun _ _=>(ah (aH (i:=3) sc.nd rfl (Or.inl rfl) (pv 4)))))
  (ah (al (aC G_law_kinds hr (by omega) rfl (aa (pv 3) ac)))))),?_⟩
  have fin:∀ H1,Same H H1->∀ ea,H1 ea=none->∀ R:VK,(∀ l H',Same H H'->H' l=some (.lst (kindsB.map V.bl))->R (.ref l) H')->iL CB [.ref ea] (upd H1 ea (jm ea CB)) R E0:=fun H1 k ea nea R r=>
   ⟨ea,rfl,ad,fun l H' k' hl=>r l H' (k.trans ((ae nea _).trans k')) hl⟩
  cases bk with
  |false=>
   refine⟨_,rfl,_,rfl,ax ?_⟩
   refine⟨_,rfl,_,rfl,p,qa,t,xs,cs,_,d,rfl,S,hd,hsh,fun ds eds=>(by rw[e] at eds;cases eds),fun _ H1 k1=>?_⟩
   refine⟨rfl,fun ea nea=>⟨_,rfl,?_⟩⟩
   exact⟨_,rfl,fin H1 k1 ea nea _ q⟩
  |true=>
   refine⟨_,rfl,_,rfl,aK ?_⟩
   refine⟨_,rfl,_,rfl,(by show 2<=sizeLine;decide),fun a1 n1=>?_⟩
   have k1:=ae n1 (.lst [.str (Str.ofString "spoiler"),.str (Str.ofString "wisher")])
   have s1:upd H a1 (.lst [.str (Str.ofString "spoiler"),.str (Str.ofString "wisher")]) a1=some (.lst [.str (Str.ofString "spoiler"),.str (Str.ofString "wisher")]):=ad
   generalize upd H a1 (.lst [.str (Str.ofString "spoiler"),.str (Str.ofString "wisher")])=H1 at k1 s1 ⊢
   refine⟨_,rfl,.ref b,_,rfl,.inr ⟨_,SqT.of (k1 _ _ hb),rfl⟩,_,_,rfl,rfl,(by show (0:Int) < 2;decide),.inl ⟨a1,_,_,_,rfl,rfl,SqL.of s1,hat,?_⟩⟩
   refine⟨Nat.zero_le _,fun a2 n2=>?_⟩
   have k2:=ae n2 (.lst [])
   have s2:upd H1 a2 (.lst []) a2=some (.lst []):=ad
   generalize upd H1 a2 (.lst [])=H2 at k2 s2 ⊢
   refine fun x dx nx ndx hne=>?_
   have k3:Same H2 (upd (upd H2 dx (.own x)) x (.ins CP dx [])):=fun b o e=>by
    rw[ay (am e nx),ay (am e ndx)]
    exact e
   refine⟨x,dx,a2,rfl,ad,k3 _ _ s2,fun fs H4 hx4 b4=>⟨rfl,?_⟩⟩
   have k24:Same H2 H4:=fun b o e=>b4 b o (am e nx) (k3 _ _ e)
   have k4:=k1.trans (k2.trans k24)
   have S4:SentAt H4 p qa t xs cs:=⟨k4 _ _ S.hp,k4 _ _ S.hq,S.hcs.mono k4,S.ht,S.hn,S.hok,S.hc⟩
   refine⟨p,qa,x,dx,fs,t,xs,cs,_,d,hw,rfl,S4,hups,fC k4 _ _ hd,hsh,hx4,fun ds eds=>(by rw[e] at eds;cases eds),fun _ H5 k5=>?_⟩
   refine⟨rfl,fun ea nea=>⟨_,rfl,?_⟩⟩
   exact⟨_,rfl,fin H5 (k4.trans k5) ea nea _ q⟩
 |some ds=>
  have G_law_kinds:=G0
  rw[e] at q
  refine⟨_,(ag (aH (i:=3) sc.nd rfl (Or.inl rfl) a_)
  (ag (ll (i:=4) sc.nd rfl rfl rfl rfl rfl T.x_DuelError T.be_DuelError T.lt_DuelError T.m_DuelError rfl (om (fun _ _ z=>z) (aL (pv 2)) (eF (iq Gplayer_back (fun _ _ z=>z) hr (by omega) rfl (aa (pv 0) (aa (pv 1) (aa (ao ak (aR (aa az (aa az ac))) (av bD (ai aE rfl T.len PySem.boot_len (aa (pv 1) ac)) af) (fun _ _=>rfl)) (aa (oj GPlanned hr (by omega) rfl (aa (aR ac) ac)) ac)))))) (eF (iq Gsmaller_by (fun _ _ z=>z) hr (by omega) rfl (aa (pv 0) (aa (pv 1) ac))))) (fun _ _=>(ah (aH (i:=3) sc.nd rfl (Or.inl rfl) (pv 4)))))
  (ah (al (aC G_law_kinds hr (by omega) rfl (aa (pv 3) ac)))))),?_⟩
  have fin:∀ H1,Same H H1->∀ R:VK,(∀ l H',Same H H'->H' l=some (.lst ([].map V.bl))->R (.ref l) H')->gq [.non] H1 R E0:=fun H1 k R r=>
   ⟨rfl,fun l H' k' hl=>r l H' (k.trans k') hl⟩
  cases bk with
  |false=>
   refine⟨_,rfl,_,rfl,ax ?_⟩
   refine⟨_,rfl,_,rfl,p,qa,t,xs,cs,_,d,rfl,S,hd,hsh,fun ds' _ r l ys H1 k1 _ _ _ _=>?_,fun eno=>(by rw[e] at eno;cases eno)⟩
   exact⟨_,rfl,fin H1 k1 _ q⟩
  |true=>
   refine⟨_,rfl,_,rfl,aK ?_⟩
   refine⟨_,rfl,_,rfl,(by show 2<=sizeLine;decide),fun a1 n1=>?_⟩
   have k1:=ae n1 (.lst [.str (Str.ofString "spoiler"),.str (Str.ofString "wisher")])
   have s1:upd H a1 (.lst [.str (Str.ofString "spoiler"),.str (Str.ofString "wisher")]) a1=some (.lst [.str (Str.ofString "spoiler"),.str (Str.ofString "wisher")]):=ad
   generalize upd H a1 (.lst [.str (Str.ofString "spoiler"),.str (Str.ofString "wisher")])=H1 at k1 s1 ⊢
   refine⟨_,rfl,.ref b,_,rfl,.inr ⟨_,SqT.of (k1 _ _ hb),rfl⟩,_,_,rfl,rfl,(by show (0:Int) < 2;decide),.inl ⟨a1,_,_,_,rfl,rfl,SqL.of s1,hat,?_⟩⟩
   refine⟨Nat.zero_le _,fun a2 n2=>?_⟩
   have k2:=ae n2 (.lst [])
   have s2:upd H1 a2 (.lst []) a2=some (.lst []):=ad
   generalize upd H1 a2 (.lst [])=H2 at k2 s2 ⊢
   refine fun x dx nx ndx hne=>?_
   have k3:Same H2 (upd (upd H2 dx (.own x)) x (.ins CP dx [])):=fun b o e=>by
    rw[ay (am e nx),ay (am e ndx)]
    exact e
   refine⟨x,dx,a2,rfl,ad,k3 _ _ s2,fun fs H4 hx4 b4=>⟨rfl,?_⟩⟩
   have k24:Same H2 H4:=fun b o e=>b4 b o (am e nx) (k3 _ _ e)
   have k4:=k1.trans (k2.trans k24)
   have S4:SentAt H4 p qa t xs cs:=⟨k4 _ _ S.hp,k4 _ _ S.hq,S.hcs.mono k4,S.ht,S.hn,S.hok,S.hc⟩
   refine⟨p,qa,x,dx,fs,t,xs,cs,_,d,hw,rfl,S4,hups,fC k4 _ _ hd,hsh,hx4,fun ds' _ r H5 k5=>?_,fun eno=>(by rw[e] at eno;cases eno)⟩
   exact⟨_,rfl,fin H5 (k4.trans k5) _ q⟩
end
end K62
namespace K62
open PySem L2 OD
theorem jJ {x y:V}{A B:Prop}(h:decide (x=y)=false)(b:B):if decide (x=y)=true then A else B:=by
 rw[h]
 exact ax b
theorem tZ {x y:V}{A B:Prop}(h:decide (x=y)=true)(a:A):if decide (x=y)=true then A else B:=by
 rw[h]
 exact aK a
theorem fh {G:Prop}{H:Hp}{cs:List (List Int)}{xs:List V}{i:Nat}(h:CLs H cs xs)(hi:i < cs.length)(k:∀ tc,xs[i]? =some (.ref tc)->m8 H tc (cs.getD i [])->cs.getD i []∈cs->G):G:=by
 obtain⟨tc,a,b,c⟩:=dY h hi
 exact k tc a b c
inductive fi (cs:List (List Int)):PyData->List V->Prop
 |drop (i:Nat) (h:i < cs.length):fi cs (.tuple [.str bq,.int (i:Int)]) [.str bq,.int (i:Int)]
 |unit (i:Nat) (h:i < cs.length):fi cs (.tuple [.str bb,.int (i:Int)]) [.str bb,.int (i:Int)]
 |pure (z:Int):fi cs (.tuple [.str bz,.int z]) [.str bz,.int z]
 |within (i j:Nat) (h:i < cs.length) (g:j < cs.length):fi cs (.tuple [.str aD,.int (i:Int),.int (j:Int)]) [.str aD,.int (i:Int),.int (j:Int)]
 |blocked (i:Nat) (z:Int) (h:i < cs.length):fi cs (.tuple [.str aw,.int (i:Int),.int z]) [.str aw,.int (i:Int),.int z]
theorem fj {H:Hp}{w:Str}{z:Int}{v:V}(h:RD H (.tuple [.str w,.int z]) v):∃ b,v=.ref b/\H b=some (.tup [.str w,.int z]):=by
 obtain⟨b,zs,rfl,hb,hz⟩:=aU h
 obtain⟨d0,d1,x0,x1,ed,rfl,r0,r1⟩:=eJ hz rfl
 cases ed
 obtain rfl:=de r0
 obtain rfl:=aV r1
 exact⟨b,rfl,hb⟩
theorem fv {H:Hp}{w:Str}{z y:Int}{v:V}(h:RD H (.tuple [.str w,.int z,.int y]) v):∃ b,v=.ref b/\H b=some (.tup [.str w,.int z,.int y]):=by
 obtain⟨b,zs,rfl,hb,hz⟩:=aU h
 obtain⟨d0,d1,d2,x0,x1,x2,ed,rfl,r0,r1,r2⟩:=d8 hz rfl
 cases ed
 obtain rfl:=de r0
 obtain rfl:=aV r1
 obtain rfl:=aV r2
 exact⟨b,rfl,hb⟩
theorem qX {H:Hp}{cs:List (List Int)}{d:PyData}{v:V}(h:StepIn cs d)(g:RD H d v):∃ b ys,v=.ref b/\H b=some (.tup ys)/\fi cs d ys:=by
 cases h with
 |drop i hi=>obtain⟨b,e,hb⟩:=fj g;exact⟨b,_,e,hb,.drop i hi⟩
 |unit i hi=>obtain⟨b,e,hb⟩:=fj g;exact⟨b,_,e,hb,.unit i hi⟩
 |pure z=>obtain⟨b,e,hb⟩:=fj g;exact⟨b,_,e,hb,.pure z⟩
 |within i j hi hj=>obtain⟨b,e,hb⟩:=fv g;exact⟨b,_,e,hb,.within i j hi hj⟩
 |blocked i z hi=>obtain⟨b,e,hb⟩:=fv g;exact⟨b,_,e,hb,.blocked i z hi⟩
inductive rX (vs:List V)(H:Hp)(Q:VK):Prop
 |mk (p q:Addr)(t:Str)(xs:List V)(cs:List (List Int))(v:V)(d:PyData)(h0:vs=[.ref p,v])(hp:H p=some (.tup [.str t,.ref q]))(h1:ClsAt H q t xs cs)(h2:∀ c∈cs,Ups c)(h3:RD H d v)(h4:StepIn cs d)(h5:∀ v' H',Same H H'->RC H H' (ba t cs d) v'->Q v' H'):rX vs H Q
def pM:Sp:=fun vs H Q _=>rX vs H Q
theorem ClsAt.mono {H H':Hp}{q:Addr}{t:Str}{xs:List V}{cs:List (List Int)}(h:ClsAt H q t xs cs)(k:Same H H'):ClsAt H' q t xs cs:=⟨k _ _ h.hq,h.hcs.mono k,h.ht,h.hn,h.hok,h.hc⟩
theorem RC.back {H H1 H':Hp}{o:Option (List (List Int))}{v:V}(k:Same H H1)(h:RC H1 H' o v):RC H H' o v:=by
 cases o with
 |none=>exact h
 |some cs=>
  obtain⟨l,xs,e,n,a,b⟩:=h
  exact⟨l,xs,e,k.free n,a,b⟩
section
variable {P:Program}{w:World}{K:PySem.W.Frag}{mg:Str->Option Value}{base:Heap}
theorem iN:aF ["_law_sentence_here","_law_step","_law_turns","_law_clauses","_law_clause"] ["_law_sentence_here","_law_step"] (ap jH):=⟨rfl,rfl,rfl,by decide+kernel,rfl,by decide+kernel,by decide+kernel⟩
theorem qY {f g1 g2 g3 g4 g5 g6:Addr}{fd e1 e2 e3 e4 e5 e6:FuncData}(F:Fun K "_law_behind" "_law_behind" jH f fd)(T:kF mg)(G_law_ahead:Fn P w K mg base 2 "_law_ahead" g1 e1 ["_law_sets","_law_thing"] fH)(G_law_blocked:Fn P w K mg base 2 "_law_blocked" g2 e2 ["_law_turns","_law_clauses","_law_k","_law_literal"] gn)(G_law_dropped:Fn P w K mg base 2 "_law_dropped" g3 e3 ["_law_turns","_law_hand","_law_literals"] fG)(G_law_own:Fn P w K mg base 1 "_law_own" g4 e4 ["_law_turns","_law_hand","_law_literal"] eN)(G_law_pure:Fn P w K mg base 2 "_law_pure" g5 e5 ["_law_turns","_law_clauses","_law_literal"] iI)(G_law_stand:Fn P w K mg base 1 "_law_stand" g6 e6 ["_law_clauses","_law_literal"] fI):FnOk P w K mg base cA 3 f fd ["_law_sentence_here","_law_step"] pM:=by
 have sc:=iN
 refine F.ok iN (fun vs H Q E h=>?_) (fun cdv A outer s H vs Q E hr h=>?_)
 ·obtain⟨p,q,t,xs,cs,v,d,rfl,_⟩:=h
  rfl
 obtain⟨p,q,t,xs,cs,v,d,rfl,hp,S,hup,hd,hst,q'⟩:=h
 obtain⟨b,ys,rfl,hb,hz⟩:=qX hst hd
 clear hd hst
 have hu:=hr.units
 have hlen:=S.hcs.length
 have hn:=S.hn
 have ht:=S.ht
 refine⟨_,(ag (ng (pv 0) (nc rfl (eh (aA (i:=2) sc.nd rfl (Or.inl rfl)) (eh (aA (i:=3) sc.nd rfl (Or.inl rfl)) kQ))))
  (ag (aJ (PW.pt (bK (bh (aL (ai bU rfl T.isinstance PyProof.Rows.boot_isinstance (aa (pv 1) (aa (cD (v:=.ty "tuple") rfl T.tuple PyProof.Rows.boot_tuple rfl) ac))))) (bK (aj dn (ai aE rfl T.len PySem.boot_len (aa (pv 1) ac)) af (aq _)) (bT (aj (cR hu) (ai aE rfl T.len PySem.boot_len (aa (pv 1) ac)) (av bu af (bj gG rfl T.int PyProof.Rows.boot_int (aa (bg cI (ao ak (pv 1) af (fun _ _=>rfl)) (aR (aa az (aa az ac))) (by with_unfolding_all rfl)) ac))) (aq _)))))) (ah (al a_)) au)
  (ag (aJ (aj (aM hu) (ao ak (pv 1) af (fun _ _=>rfl)) az (aq _)) (ah (al (aC G_law_pure hr (by omega) rfl (aa (pv 2) (aa (pv 3) (aa (ao ak (pv 1) af (fun _ _=>rfl)) ac)))))) au)
  (ag (aJ (PW.pt (bK (aj bB (ao ak (pv 1) af (fun _ _=>rfl)) (aR (aa az (aa az (aa az (aa az ac))))) (by with_unfolding_all rfl)) (bT (bh (aL (aC G_law_ahead hr (by omega) rfl (aa (pv 3) (aa (ao ak (pv 1) af (fun _ _=>rfl)) ac)))))))) (ah (al a_)) au)
  (ag (aH (i:=4) sc.nd rfl (Or.inr rfl) (ao ak (pv 3) (ao ak (pv 1) af (fun _ _=>rfl)) (fun _ _=>rfl)))
  (ag (aJ (aj (aM hu) (ao ak (pv 1) af (fun _ _=>rfl)) az (aq _)) (ah (al (av bv (av bv (aX bn (pv 3) bw (bf (ao ak (pv 1) af (fun _ _=>rfl)))) (aR (aa (aC G_law_dropped hr (by omega) rfl (aa (pv 2) (aa az (aa (pv 4) ac)))) ac))) (aX bn (pv 3) (bf (av bu (ao ak (pv 1) af (fun _ _=>rfl)) af)) bw)))) au)
  (ag (aJ (PW.pt (b_ (aj (aM hu) (ao ak (pv 1) af (fun _ _=>rfl)) az (aq _)) (b_ (aj (aM hu) (ai aE rfl T.len PySem.boot_len (aa (pv 4) ac)) af (aq _)) (cg (aL (aC G_law_own hr (by omega) rfl (aa (pv 2) (aa az (aa (ao ak (pv 4) af (fun _ _=>rfl)) ac))))))))) (ah (al (aC G_law_stand hr (by omega) rfl (aa (pv 3) (aa (ao ak (pv 4) af (fun _ _=>rfl)) ac))))) au)
  (ag (aJ (aj (aM hu) (ao ak (pv 1) af (fun _ _=>rfl)) az (aq _)) (ah (al (aC G_law_blocked hr (by omega) rfl (aa (pv 2) (aa (pv 3) (aa (ao ak (pv 1) af (fun _ _=>rfl)) (aa (ao ak (pv 1) af (fun _ _=>rfl)) ac))))))) au)
  (ag (aJ (PW.pt (b_ (aj (aM hu) (ao ak (pv 1) af (fun _ _=>rfl)) az (aq _)) (b_ (aL (aC G_law_ahead hr (by omega) rfl (aa (pv 3) (aa (ao ak (pv 1) af (fun _ _=>rfl)) ac)))) (cg (aj (cR hu) (ao ak (pv 1) af (fun _ _=>rfl)) (ao ak (pv 1) af (fun _ _=>rfl)) (aq _)))))) (ah (aJ (aj (aM hu) (ai aE rfl T.len PySem.boot_len (aa (aN (NY:=["_law_one","_law_clause"]) (idx:=[none,some 4]) rfl ⟨by with_unfolding_all rfl,(by with_unfolding_all exact⟨rfl,trivial⟩),fun _=>by rfl,by rfl,by rfl,by rfl,by decide⟩ (ci (ao ak (pv 3) (ao ak (pv 1) af (fun _ _=>rfl)) (fun _ _=>rfl))) (fun _ _ _ _=>(aA (i:=0) (show List.Nodup (["_law_one","_law_clause"]:List Str) by decide+kernel) rfl (Or.inl rfl))) (fun _ _ _ _=>(aZ (aj (bO (K:=K) rfl) (pv 0) (pv 1) (by with_unfolding_all rfl)))) (fun _ _ _ _=>(pv 0))) ac)) af (aq _)) (ah (al (av bv (aX bn (pv 3) bw (bf (ao ak (pv 1) af (fun _ _=>rfl)))) (aX bn (pv 3) (bf (av bu (ao ak (pv 1) af (fun _ _=>rfl)) af)) bw)))) au)) au)
  (ah (al a_))))))))))),?_⟩
 refine⟨_,rfl,p,_,rfl,SqT.of hp,rfl,_,_,rfl,_,_,rfl,rfl,?_⟩
 cases hz with
 |pure z=>
  rw[kJ] at q'
  refine⟨_,rfl,.ref b,_,"tuple",true,rfl,.tup hb,aY tV,true,rfl,ax ?_⟩
  refine⟨_,rfl,.ref b,_,rfl,.inr ⟨_,SqT.of hb,rfl⟩,_,_,rfl,rfl,_,rfl,cp (fun g=>absurd (of_decide_eq_true g) (show ¬ ((2:Int) < 2) by decide)) (fun _=>?_)⟩
  refine⟨_,rfl,.ref b,_,rfl,.inr ⟨_,SqT.of hb,rfl⟩,_,rfl,.inr (.inl ⟨b,_,0,.str bz,rfl,rfl,SqT.of hb,rfl,(by show 2<=sizeLine;decide),fun L1 q1=>?_⟩)⟩
  have k1:=ae q1 (.lst [.str (Str.ofString "within"),.str (Str.ofString "blocked")])
  refine⟨L1,_,rfl,.inl (SqL.of ad),rfl,rfl,.inr ⟨_,rfl,_,_,rfl,rfl,.inl ⟨rfl,_,rfl,?_⟩⟩⟩
  refine tU (by rw[show (if false=true then !cy (.str bz) [.str (Str.ofString "within"),.str (Str.ofString "blocked")] else cy (.str bz) [.str (Str.ofString "within"),.str (Str.ofString "blocked")])=false by decide+kernel];rfl) ?_
  refine⟨_,rfl,.inr (.inl ⟨b,_,0,.str bz,rfl,rfl,SqT.of (k1 _ _ hb),rfl,.inl ⟨rfl,_,rfl,tZ (by decide+kernel) ?_⟩⟩)⟩
  exact⟨_,rfl,_,rfl,_,rfl,.inr (.inl ⟨b,_,1,.int z,rfl,rfl,SqT.of (k1 _ _ hb),rfl,q,t,z,xs,cs,rfl,S.mono k1,fun v' H' k r=>q' v' H' (k1.trans k) (r.back k1)⟩)⟩
 |drop i hi=>
  rw[kH] at q'
  have q2':∀ v' H',Same H H'->RC H H' (some (cs.take i++[dF t false (cs.getD i [])]++cs.drop (i+1))) v'->Q v' H':=fun v' H' k r=>q' v' H' k (by
   unfold g9
   rw[bQ hi]
   exact r)
  refine⟨_,rfl,.ref b,_,"tuple",true,rfl,.tup hb,aY tV,true,rfl,ax ?_⟩
  refine⟨_,rfl,.ref b,_,rfl,.inr ⟨_,SqT.of hb,rfl⟩,_,_,rfl,rfl,_,rfl,cp (fun g=>absurd (of_decide_eq_true g) (show ¬ ((2:Int) < 2) by decide)) (fun _=>?_)⟩
  refine⟨_,rfl,.ref b,_,rfl,.inr ⟨_,SqT.of hb,rfl⟩,_,rfl,.inr (.inl ⟨b,_,0,.str bq,rfl,rfl,SqT.of hb,rfl,(by show 2<=sizeLine;decide),fun L1 q1=>?_⟩)⟩
  have k1:=ae q1 (.lst [.str (Str.ofString "within"),.str (Str.ofString "blocked")])
  refine⟨L1,_,rfl,.inl (SqL.of ad),rfl,rfl,.inr ⟨_,rfl,_,_,rfl,rfl,.inl ⟨rfl,_,rfl,?_⟩⟩⟩
  refine tU (by rw[show (if false=true then !cy (.str bq) [.str (Str.ofString "within"),.str (Str.ofString "blocked")] else cy (.str bq) [.str (Str.ofString "within"),.str (Str.ofString "blocked")])=false by decide+kernel];rfl) ?_
  refine⟨_,rfl,.inr (.inl ⟨b,_,0,.str bq,rfl,rfl,SqT.of (k1 _ _ hb),rfl,.inl ⟨rfl,_,rfl,jJ (by decide+kernel) ?_⟩⟩)⟩
  refine⟨_,rfl,.inr (.inl ⟨b,_,0,.str bq,rfl,rfl,SqT.of (k1 _ _ hb),rfl,(by show 4<=sizeLine;decide),fun L2 q2=>?_⟩)⟩
  have k2:=k1.trans (ae q2 (.lst [.str (Str.ofString "drop"),.str (Str.ofString "unit"),.str (Str.ofString "within"),.str (Str.ofString "blocked")]))
  refine⟨L2,_,rfl,.inl (SqL.of ad),rfl,rfl,_,rfl,?_⟩
  rw[show (if true=true then !cy (.str bq) [.str (Str.ofString "drop"),.str (Str.ofString "unit"),.str (Str.ofString "within"),.str (Str.ofString "blocked")] else cy (.str bq) [.str (Str.ofString "drop"),.str (Str.ofString "unit"),.str (Str.ofString "within"),.str (Str.ofString "blocked")])=false by decide+kernel]
  refine ax ⟨_,rfl,_,rfl,.inr (.inl ⟨b,_,1,.int (i:Int),rfl,rfl,SqT.of (k2 _ _ hb),rfl,q,.int (i:Int),.int (i:Int),xs,rfl,k2 _ _ S.hq,(by omega),bY _,_,rfl,?_⟩)⟩
  rw[← hlen,bQ hi]
  refine ax ?_
  refine fh S.hcs hi fun tc hx htc hm=>?_
  refine⟨_,rfl,_,rfl,.inr (.inl ⟨b,_,1,.int (i:Int),rfl,rfl,SqT.of (k2 _ _ hb),rfl,.inl ⟨q,xs,(i:Int),.ref tc,rfl,rfl,SqL.of (k2 _ _ S.hq),aS hx,?_⟩⟩)⟩
  have hq2:=k2 _ _ S.hq
  have hb2:=k2 _ _ hb
  have htc2:=k2 _ _ htc
  generalize upd (upd H L1 _) L2 _=H3 at k2 hq2 hb2 htc2 ⊢
  refine⟨_,rfl,.inr (.inl ⟨b,_,0,.str bq,rfl,rfl,SqT.of hb2,rfl,.inl ⟨rfl,_,rfl,tZ (by decide+kernel) ?_⟩⟩)⟩
  refine⟨_,rfl,_,rfl,.inr (.inl ⟨b,_,1,.int (i:Int),rfl,rfl,SqT.of hb2,rfl,_,rfl,q,xs,rfl,SqL.of hq2,fun l1 q1'=>?_⟩)⟩
  rw[fc]
  have j1:=ae q1' (.lst (xs.take i))
  have s1:upd H3 l1 (.lst (xs.take i)) l1=some (.lst (xs.take i)):=ad
  generalize upd H3 l1 (.lst (xs.take i))=H4 at j1 s1
  refine⟨_,rfl,_,rfl,tc,t,false,_,rfl,ht,j1 _ _ htc2,⟨hup _ hm,S.hok _ hm⟩,fun l2 H5 j2 s2=>⟨(by show 1<=sizeLine;decide),fun l3 q3=>?_⟩⟩
  have j3:=ae q3 (.lst [.ref l2])
  refine⟨l1,l3,_,_,rfl,rfl,(j2.trans j3) _ _ s1,ad,Nat.le_of_lt (aB (by rw[List.length_take];show _+1<=1000;omega)),fun l4 q4=>?_⟩
  have j4:=ae q4 (.lst (xs.take i++[.ref l2]))
  have j14:=j1.trans (j2.trans (j3.trans j4))
  refine⟨_,rfl,_,rfl,.inr (.inl ⟨b,_,1,.int (i:Int),rfl,rfl,SqT.of (j14 _ _ hb2),rfl,_,_,rfl,rfl,_,rfl,q,xs,rfl,SqL.of (j14 _ _ hq2),fun l5 q5=>?_⟩)⟩
  have ec:cf xs (some ((i:Int)+1)) none=xs.drop (i+1):=cV xs (i+1)
  rw[ec]
  have j5:=ae q5 (.lst (xs.drop (i+1)))
  refine⟨l4,l5,_,_,rfl,rfl,j5 _ _ ad,ad,Nat.le_of_lt (aB (by rw[List.length_append,List.length_take,List.length_drop];show _+1+_<=1000;omega)),fun l6 q6=>?_⟩
  have j6:=ae q6 (.lst (xs.take i++[.ref l2]++xs.drop (i+1)))
  have kk:=k2.trans (j14.trans (j5.trans j6))
  refine q2' _ _ kk ⟨l6,_,rfl,(k2.trans (j14.trans j5)).free q6,ad,?_⟩
  exact bI (bI (bW i (S.hcs.mono kk)) (Paired.cons ⟨l2,rfl,(j3.trans (j4.trans (j5.trans j6))) _ _ s2⟩ .nil)) (bX (i+1) (S.hcs.mono kk))
 |unit i hi=>
  rw[kI] at q'
  have q2':∀ v' H',Same H H'->RC H H' (if eK t (cs.getD i [])=true then some (bS ((cs.getD i []).getD 0 0) cs) else none) v'->Q v' H':=fun v' H' k r=>q' v' H' k (by
   unfold g_
   rw[bQ hi]
   exact r)
  refine⟨_,rfl,.ref b,_,"tuple",true,rfl,.tup hb,aY tV,true,rfl,ax ?_⟩
  refine⟨_,rfl,.ref b,_,rfl,.inr ⟨_,SqT.of hb,rfl⟩,_,_,rfl,rfl,_,rfl,cp (fun g=>absurd (of_decide_eq_true g) (show ¬ ((2:Int) < 2) by decide)) (fun _=>?_)⟩
  refine⟨_,rfl,.ref b,_,rfl,.inr ⟨_,SqT.of hb,rfl⟩,_,rfl,.inr (.inl ⟨b,_,0,.str bb,rfl,rfl,SqT.of hb,rfl,(by show 2<=sizeLine;decide),fun L1 q1=>?_⟩)⟩
  have k1:=ae q1 (.lst [.str (Str.ofString "within"),.str (Str.ofString "blocked")])
  refine⟨L1,_,rfl,.inl (SqL.of ad),rfl,rfl,.inr ⟨_,rfl,_,_,rfl,rfl,.inl ⟨rfl,_,rfl,?_⟩⟩⟩
  refine tU (by rw[show (if false=true then !cy (.str bb) [.str (Str.ofString "within"),.str (Str.ofString "blocked")] else cy (.str bb) [.str (Str.ofString "within"),.str (Str.ofString "blocked")])=false by decide+kernel];rfl) ?_
  refine⟨_,rfl,.inr (.inl ⟨b,_,0,.str bb,rfl,rfl,SqT.of (k1 _ _ hb),rfl,.inl ⟨rfl,_,rfl,jJ (by decide+kernel) ?_⟩⟩)⟩
  refine⟨_,rfl,.inr (.inl ⟨b,_,0,.str bb,rfl,rfl,SqT.of (k1 _ _ hb),rfl,(by show 4<=sizeLine;decide),fun L2 q2=>?_⟩)⟩
  have k2:=k1.trans (ae q2 (.lst [.str (Str.ofString "drop"),.str (Str.ofString "unit"),.str (Str.ofString "within"),.str (Str.ofString "blocked")]))
  refine⟨L2,_,rfl,.inl (SqL.of ad),rfl,rfl,_,rfl,?_⟩
  rw[show (if true=true then !cy (.str bb) [.str (Str.ofString "drop"),.str (Str.ofString "unit"),.str (Str.ofString "within"),.str (Str.ofString "blocked")] else cy (.str bb) [.str (Str.ofString "drop"),.str (Str.ofString "unit"),.str (Str.ofString "within"),.str (Str.ofString "blocked")])=false by decide+kernel]
  refine ax ⟨_,rfl,_,rfl,.inr (.inl ⟨b,_,1,.int (i:Int),rfl,rfl,SqT.of (k2 _ _ hb),rfl,q,.int (i:Int),.int (i:Int),xs,rfl,k2 _ _ S.hq,(by omega),bY _,_,rfl,?_⟩)⟩
  rw[← hlen,bQ hi]
  refine ax ?_
  refine fh S.hcs hi fun tc hx htc hm=>?_
  refine⟨_,rfl,_,rfl,.inr (.inl ⟨b,_,1,.int (i:Int),rfl,rfl,SqT.of (k2 _ _ hb),rfl,.inl ⟨q,xs,(i:Int),.ref tc,rfl,rfl,SqL.of (k2 _ _ S.hq),aS hx,?_⟩⟩)⟩
  have hq2:=k2 _ _ S.hq
  have hb2:=k2 _ _ hb
  have htc2:=k2 _ _ htc
  generalize upd (upd H L1 _) L2 _=H3 at k2 hq2 hb2 htc2 ⊢
  refine⟨_,rfl,.inr (.inl ⟨b,_,0,.str bb,rfl,rfl,SqT.of hb2,rfl,.inl ⟨rfl,_,rfl,jJ (by decide+kernel) ?_⟩⟩)⟩
  refine⟨_,rfl,.inr (.inl ⟨b,_,0,.str bb,rfl,rfl,SqT.of hb2,rfl,.inl ⟨rfl,_,rfl,tZ (by decide+kernel) ?_⟩⟩)⟩
  refine⟨_,rfl,.ref tc,_,rfl,.inr ⟨_,SqT.of htc2,rfl⟩,.inl ⟨rfl,_,rfl,?_⟩⟩
  have hok:=S.hok _ hm
  generalize cs.getD i []=c at htc2 hok q2'
  match c,htc2,hok,q2' with
  |[],htc2,hok,q2'=>exact cp (fun y=>absurd (V.int.inj (of_decide_eq_true y)) (by decide)) (fun _=>ax ⟨_,rfl,.inr (.inl ⟨b,_,0,.str bb,rfl,rfl,SqT.of hb2,rfl,.inl ⟨rfl,_,rfl,jJ (by decide+kernel) ⟨_,rfl,.inr (.inl ⟨b,_,0,.str bb,rfl,rfl,SqT.of hb2,rfl,.inl ⟨rfl,_,rfl,jJ (by decide+kernel) (ax (q2' _ _ k2 rfl))⟩⟩)⟩⟩⟩)⟩)
  |[z],htc2,hok,q2'=>
   refine cp (fun _=>?_) (fun y=>absurd (decide_eq_true rfl) y)
   have hz:=hok z List.mem_cons_self
   refine⟨_,rfl,_,rfl,.inr (.inl ⟨tc,_,0,.int z,rfl,rfl,SqT.of htc2,rfl,t,true,z,rfl,hz.1,hz.2,(by omega),_,rfl,?_⟩)⟩
   have eo:(cK t (ar z - 1).toNat == true)=eK t [z]:=by
    show _=cN t z
    unfold cN
    cases cK t (ar z - 1).toNat<;>rfl
   rw[eo]
   cases g:eK t [z] with
   |true=>
    rw[g,if_pos rfl] at q2'
    exact aK ⟨_,rfl,_,rfl,.inr (.inl ⟨tc,_,0,.int z,rfl,rfl,SqT.of htc2,rfl,q,z,xs,cs,rfl,hq2,S.hcs.mono k2,hn,S.hc,fun l ys H' k n a b=>q2' _ _ (k2.trans k) ⟨l,ys,rfl,k2.free n,a,b⟩⟩)⟩
   |false=>
    rw[g,if_neg Bool.false_ne_true] at q2'
    exact ax ⟨_,rfl,.inr (.inl ⟨b,_,0,.str bb,rfl,rfl,SqT.of hb2,rfl,.inl ⟨rfl,_,rfl,jJ (by decide+kernel) ⟨_,rfl,.inr (.inl ⟨b,_,0,.str bb,rfl,rfl,SqT.of hb2,rfl,.inl ⟨rfl,_,rfl,jJ (by decide+kernel) (ax (q2' _ _ k2 rfl))⟩⟩)⟩⟩⟩)⟩
  |x::y::r,htc2,hok,q2'=>exact cp (fun z=>absurd (V.int.inj (of_decide_eq_true z)) (by simp;omega)) (fun _=>ax ⟨_,rfl,.inr (.inl ⟨b,_,0,.str bb,rfl,rfl,SqT.of hb2,rfl,.inl ⟨rfl,_,rfl,jJ (by decide+kernel) ⟨_,rfl,.inr (.inl ⟨b,_,0,.str bb,rfl,rfl,SqT.of hb2,rfl,.inl ⟨rfl,_,rfl,jJ (by decide+kernel) (ax (q2' _ _ k2 rfl))⟩⟩)⟩⟩⟩)⟩)
 |within i j hi hj=>
  rw[iJ] at q'
  have q2':∀ v' H',Same H H'->RC H H' (if (!decide (i=j)&&((cs.getD j []).all fun z=>(cs.getD i []).contains z))=true then some (cG cs i) else none) v'->Q v' H':=fun v' H' k r=>q' v' H' k (by
   unfold hG
   rw[bQ hi,bQ hj]
   exact r)
  refine⟨_,rfl,.ref b,_,"tuple",true,rfl,.tup hb,aY tV,true,rfl,ax ?_⟩
  refine⟨_,rfl,.ref b,_,rfl,.inr ⟨_,SqT.of hb,rfl⟩,_,_,rfl,rfl,_,rfl,cp (fun g=>absurd (of_decide_eq_true g) (show ¬ ((3:Int) < 2) by decide)) (fun _=>?_)⟩
  refine⟨_,rfl,.ref b,_,rfl,.inr ⟨_,SqT.of hb,rfl⟩,_,rfl,.inr (.inl ⟨b,_,0,.str aD,rfl,rfl,SqT.of hb,rfl,(by show 2<=sizeLine;decide),fun L1 q1=>?_⟩)⟩
  have k1:=ae q1 (.lst [.str (Str.ofString "within"),.str (Str.ofString "blocked")])
  refine⟨L1,_,rfl,.inl (SqL.of ad),rfl,rfl,.inr ⟨_,rfl,_,_,rfl,rfl,.inl ⟨rfl,_,rfl,?_⟩⟩⟩
  refine tU (by rw[show (if false=true then !cy (.str aD) [.str (Str.ofString "within"),.str (Str.ofString "blocked")] else cy (.str aD) [.str (Str.ofString "within"),.str (Str.ofString "blocked")])=true by decide+kernel];rfl) ?_
  refine⟨_,rfl,.inr (.inl ⟨b,_,0,.str aD,rfl,rfl,SqT.of (k1 _ _ hb),rfl,.inl ⟨rfl,_,rfl,jJ (by decide+kernel) ?_⟩⟩)⟩
  refine⟨_,rfl,.inr (.inl ⟨b,_,0,.str aD,rfl,rfl,SqT.of (k1 _ _ hb),rfl,(by show 4<=sizeLine;decide),fun L2 q2=>?_⟩)⟩
  have k2:=k1.trans (ae q2 (.lst [.str (Str.ofString "drop"),.str (Str.ofString "unit"),.str (Str.ofString "within"),.str (Str.ofString "blocked")]))
  refine⟨L2,_,rfl,.inl (SqL.of ad),rfl,rfl,_,rfl,?_⟩
  rw[show (if true=true then !cy (.str aD) [.str (Str.ofString "drop"),.str (Str.ofString "unit"),.str (Str.ofString "within"),.str (Str.ofString "blocked")] else cy (.str aD) [.str (Str.ofString "drop"),.str (Str.ofString "unit"),.str (Str.ofString "within"),.str (Str.ofString "blocked")])=false by decide+kernel]
  refine ax ⟨_,rfl,_,rfl,.inr (.inl ⟨b,_,1,.int (i:Int),rfl,rfl,SqT.of (k2 _ _ hb),rfl,q,.int (i:Int),.int (i:Int),xs,rfl,k2 _ _ S.hq,(by omega),bY _,_,rfl,?_⟩)⟩
  rw[← hlen,bQ hi]
  refine ax ?_
  refine fh S.hcs hi fun tc hx htc hm=>?_
  refine⟨_,rfl,_,rfl,.inr (.inl ⟨b,_,1,.int (i:Int),rfl,rfl,SqT.of (k2 _ _ hb),rfl,.inl ⟨q,xs,(i:Int),.ref tc,rfl,rfl,SqL.of (k2 _ _ S.hq),aS hx,?_⟩⟩)⟩
  have hq2:=k2 _ _ S.hq
  have hb2:=k2 _ _ hb
  have htc2:=k2 _ _ htc
  generalize upd (upd H L1 _) L2 _=H3 at k2 hq2 hb2 htc2 ⊢
  refine⟨_,rfl,.inr (.inl ⟨b,_,0,.str aD,rfl,rfl,SqT.of hb2,rfl,.inl ⟨rfl,_,rfl,jJ (by decide+kernel) ?_⟩⟩)⟩
  refine⟨_,rfl,.inr (.inl ⟨b,_,0,.str aD,rfl,rfl,SqT.of hb2,rfl,.inl ⟨rfl,_,rfl,jJ (by decide+kernel) (ax ?_)⟩⟩)⟩
  refine⟨_,rfl,.inr (.inl ⟨b,_,0,.str aD,rfl,rfl,SqT.of hb2,rfl,.inl ⟨rfl,_,rfl,jJ (by decide+kernel) ?_⟩⟩)⟩
  refine⟨_,rfl,.inr (.inl ⟨b,_,0,.str aD,rfl,rfl,SqT.of hb2,rfl,.inl ⟨rfl,_,rfl,tZ (by decide+kernel) ?_⟩⟩)⟩
  refine⟨_,rfl,_,rfl,.inr (.inl ⟨b,_,2,.int (j:Int),rfl,rfl,SqT.of hb2,rfl,q,.int (j:Int),.int (j:Int),xs,rfl,hq2,(by omega),bY _,_,rfl,?_⟩)⟩
  rw[← hlen,bQ hj]
  refine aK ?_
  refine⟨_,rfl,.inr (.inl ⟨b,_,1,.int (i:Int),rfl,rfl,SqT.of hb2,rfl,_,rfl,.inr (.inl ⟨b,_,2,.int (j:Int),rfl,rfl,SqT.of hb2,rfl,.inl ⟨rfl,_,rfl,?_⟩⟩)⟩)⟩
  by_cases eij:i=j
  ·subst eij
   rw[decide_eq_true rfl] at q2'
   exact tU rfl (q2' _ _ k2 rfl)
  rw[decide_eq_false eij] at q2'
  rw[decide_eq_false (fun z=>eij (by have:=V.int.inj z;omega))]
  refine aK ?_
  refine fh S.hcs hj fun td hy htd hm2=>?_
  have htd2:=k2 _ _ htd
  have hcl:=S.hc _ hm2
  refine⟨_,rfl,_,rfl,.inr (.inl ⟨b,_,2,.int (j:Int),rfl,rfl,SqT.of hb2,rfl,.inl ⟨q,xs,(j:Int),.ref td,rfl,rfl,SqL.of hq2,aS hy,td,rfl,⟨_,SqT.of htd2⟩,fun D hD=>?_⟩⟩)⟩
  refine bP [some (.ref tc)] (mv fun o=>!(cs.getD i []).contains o) (fun x=>x) rfl htd2 hD (by rw[List.length_map];omega) ?_ ?_ ?_
  ·intro x hx H' R k r
   obtain⟨y,_,rfl⟩:=cm hx
   refine⟨_,rfl,_,rfl,tc,_,rfl,.inr (SqT.of (k _ _ htc2)),rfl,aW _,_,rfl,?_⟩
   show R (!cy (.int y) ((cs.getD i []).map V.int)) H'
   rw[bi]
   exact r
  ·intro x hx _ H' R k r
   exact⟨_,rfl,r⟩
  rw[bV (cs.getD j []) (fun o=>!(cs.getD i []).contains o) _ fun i=>rfl]
  have k3:=k2.trans (ae hD (.lst (((cs.getD j []).filter fun o=>!(cs.getD i []).contains o).map V.int)))
  have hq3:=k3 _ _ S.hq
  have hb3:=k3 _ _ hb
  have el:((cs.getD j []).all fun z=>(cs.getD i []).contains z)=decide (((cs.getD j []).filter fun o=>!(cs.getD i []).contains o).length=0):=by
   rw[gm,Bool.eq_iff_iff,List.all_eq_true,Bool.not_eq_true',List.any_eq_false]
   exact⟨fun h x hx=>by rw[h x hx];decide,fun h x hx=>by
    have:=h x hx
    cases g:(cs.getD i []).contains x with
    |true=>rfl
    |false=>rw[g] at this;exact absurd rfl this⟩
  refine⟨.ref D,_,rfl,.inl ⟨_,SqL.of ad,rfl⟩,.inl ⟨rfl,_,rfl,?_⟩⟩
  rw[List.length_map]
  generalize upd H3 D _=H4 at k3 hq3 hb3 ⊢
  by_cases g:((cs.getD j []).filter fun o=>!(cs.getD i []).contains o).length=0
  ·rw[el,decide_eq_true g] at q2'
   rw[g]
   refine tZ (by decide+kernel) ?_
   refine⟨_,rfl,_,rfl,.inr (.inl ⟨b,_,1,.int (i:Int),rfl,rfl,SqT.of hb3,rfl,_,rfl,q,xs,rfl,SqL.of hq3,fun l1 q1'=>?_⟩)⟩
   rw[fc]
   have j1:=ae q1' (.lst (xs.take i))
   refine⟨_,rfl,_,rfl,.inr (.inl ⟨b,_,1,.int (i:Int),rfl,rfl,SqT.of (j1 _ _ hb3),rfl,_,_,rfl,rfl,_,rfl,q,xs,rfl,SqL.of (j1 _ _ hq3),fun l5 q5=>?_⟩)⟩
   have ec:cf xs (some ((i:Int)+1)) none=xs.drop (i+1):=cV xs (i+1)
   rw[ec]
   have j5:=ae q5 (.lst (xs.drop (i+1)))
   refine⟨l1,l5,_,_,rfl,rfl,j5 _ _ ad,ad,Nat.le_of_lt (aB (by rw[List.length_take,List.length_drop];omega)),fun l6 q6=>?_⟩
   have kk:=k3.trans (j1.trans (j5.trans (ae q6 (.lst (xs.take i++xs.drop (i+1))))))
   exact q2' _ _ kk ⟨l6,_,rfl,(k3.trans (j1.trans j5)).free q6,ad,bI (bW i (S.hcs.mono kk)) (bX (i+1) (S.hcs.mono kk))⟩
  ·rw[el,decide_eq_false g] at q2'
   refine jJ (decide_eq_false fun z=>g (by have:=V.int.inj z;omega)) ?_
   exact q2' _ _ k3 rfl
 |blocked i z hi=>
  rw[gB] at q'
  have q2':∀ v' H',Same H H'->RC H H' (if dg t cs i z=true then some (cG cs i) else none) v'->Q v' H':=fun v' H' k r=>q' v' H' k (by
   show RC H H' ((bo cs.length (.int (i:Int))).bind _) v'
   rw[bQ hi]
   exact r)
  refine⟨_,rfl,.ref b,_,"tuple",true,rfl,.tup hb,aY tV,true,rfl,ax ?_⟩
  refine⟨_,rfl,.ref b,_,rfl,.inr ⟨_,SqT.of hb,rfl⟩,_,_,rfl,rfl,_,rfl,cp (fun g=>absurd (of_decide_eq_true g) (show ¬ ((3:Int) < 2) by decide)) (fun _=>?_)⟩
  refine⟨_,rfl,.ref b,_,rfl,.inr ⟨_,SqT.of hb,rfl⟩,_,rfl,.inr (.inl ⟨b,_,0,.str aw,rfl,rfl,SqT.of hb,rfl,(by show 2<=sizeLine;decide),fun L1 q1=>?_⟩)⟩
  have k1:=ae q1 (.lst [.str (Str.ofString "within"),.str (Str.ofString "blocked")])
  refine⟨L1,_,rfl,.inl (SqL.of ad),rfl,rfl,.inr ⟨_,rfl,_,_,rfl,rfl,.inl ⟨rfl,_,rfl,?_⟩⟩⟩
  refine tU (by rw[show (if false=true then !cy (.str aw) [.str (Str.ofString "within"),.str (Str.ofString "blocked")] else cy (.str aw) [.str (Str.ofString "within"),.str (Str.ofString "blocked")])=true by decide+kernel];rfl) ?_
  refine⟨_,rfl,.inr (.inl ⟨b,_,0,.str aw,rfl,rfl,SqT.of (k1 _ _ hb),rfl,.inl ⟨rfl,_,rfl,jJ (by decide+kernel) ?_⟩⟩)⟩
  refine⟨_,rfl,.inr (.inl ⟨b,_,0,.str aw,rfl,rfl,SqT.of (k1 _ _ hb),rfl,(by show 4<=sizeLine;decide),fun L2 q2=>?_⟩)⟩
  have k2:=k1.trans (ae q2 (.lst [.str (Str.ofString "drop"),.str (Str.ofString "unit"),.str (Str.ofString "within"),.str (Str.ofString "blocked")]))
  refine⟨L2,_,rfl,.inl (SqL.of ad),rfl,rfl,_,rfl,?_⟩
  rw[show (if true=true then !cy (.str aw) [.str (Str.ofString "drop"),.str (Str.ofString "unit"),.str (Str.ofString "within"),.str (Str.ofString "blocked")] else cy (.str aw) [.str (Str.ofString "drop"),.str (Str.ofString "unit"),.str (Str.ofString "within"),.str (Str.ofString "blocked")])=false by decide+kernel]
  refine ax ⟨_,rfl,_,rfl,.inr (.inl ⟨b,_,1,.int (i:Int),rfl,rfl,SqT.of (k2 _ _ hb),rfl,q,.int (i:Int),.int (i:Int),xs,rfl,k2 _ _ S.hq,(by omega),bY _,_,rfl,?_⟩)⟩
  rw[← hlen,bQ hi]
  refine ax ?_
  refine fh S.hcs hi fun tc hx htc hm=>?_
  refine⟨_,rfl,_,rfl,.inr (.inl ⟨b,_,1,.int (i:Int),rfl,rfl,SqT.of (k2 _ _ hb),rfl,.inl ⟨q,xs,(i:Int),.ref tc,rfl,rfl,SqL.of (k2 _ _ S.hq),aS hx,?_⟩⟩)⟩
  have hq2:=k2 _ _ S.hq
  have hb2:=k2 _ _ hb
  have htc2:=k2 _ _ htc
  generalize upd (upd H L1 _) L2 _=H3 at k2 hq2 hb2 htc2 ⊢
  refine⟨_,rfl,.inr (.inl ⟨b,_,0,.str aw,rfl,rfl,SqT.of hb2,rfl,.inl ⟨rfl,_,rfl,jJ (by decide+kernel) ?_⟩⟩)⟩
  refine⟨_,rfl,.inr (.inl ⟨b,_,0,.str aw,rfl,rfl,SqT.of hb2,rfl,.inl ⟨rfl,_,rfl,jJ (by decide+kernel) (ax ?_)⟩⟩)⟩
  refine⟨_,rfl,.inr (.inl ⟨b,_,0,.str aw,rfl,rfl,SqT.of hb2,rfl,.inl ⟨rfl,_,rfl,tZ (by decide+kernel) ?_⟩⟩)⟩
  exact⟨_,rfl,_,rfl,_,rfl,.inr (.inl ⟨b,_,1,.int (i:Int),rfl,rfl,SqT.of hb2,rfl,_,rfl,.inr (.inl ⟨b,_,2,.int z,rfl,rfl,SqT.of hb2,rfl,q,t,i,z,xs,cs,rfl,S.mono k2,hi,hup,fun v' H' k r=>q2' v' H' (k2.trans k) (r.back k2)⟩)⟩)⟩
end
end K62
namespace K62
open PySem L2 OD
def dV:V->PyData
 |.int z=>.int z
 |.bl b=>.bool b
 |.str s=>.str s
 |_=>.none
theorem hZ {H:Hp}{z:V}(h:cj z=true):RD H (dV z) z:=by
 cases z with
 |non=>exact qu
 |bl b=>exact k_ b
 |int i=>exact bY i
 |str s=>exact dw s
 |_=>cases h
theorem pN {H:Hp}:∀ {zs:List V},zs.all cj=true->d_ H (zs.map dV) zs
 |[],_=>ck
 |z::zs,h=>by
  rw[List.all_cons,Bool.and_eq_true] at h
  exact bd (hZ h.1) (pN h.2)
theorem cW {z:V}{s:Str}(h:cj z=true):sC z (.str s)=true:=by
 cases z with
 |non=>rfl
 |bl b=>rfl
 |int i=>rfl
 |str s=>rfl
 |_=>cases h
theorem dO {a:Str}{x:V}:jU (.str a) x=decide (x=.str a):=by
 cases x with
 |str b=>
  show (a == b)=_
  by_cases h:a=b
  ·subst h;simp
  ·rw[decide_eq_false fun z=>h (V.str.inj z).symm]
   exact beq_eq_false_iff_ne.mpr h
 |_=>rw[decide_eq_false (fun z=>by cases z)];rfl
theorem gr {y:V}(h:∀ k,y≠.int k):∀ z,dV y≠.int z:=fun z e=>by
 cases y with
 |int k=>exact h k rfl
 |non=>cases e
 |bl b=>cases e
 |str s=>cases e
 |_=>cases e
theorem dh {n:Nat}{y:V}{i:Nat}(h:bo n (dV y)=some i):i < n/\y=.int (i:Int):=by
 obtain⟨h1,h2⟩:=bp h
 refine⟨h1,?_⟩
 cases y with
 |int k=>exact congrArg V.int (PyData.int.inj h2)
 |non=>cases h2
 |bl b=>cases h2
 |str s=>cases h2
 |_=>cases h2
theorem pO {t:Str}{cs ds:List (List Int)}{d:PyData}(h:ba t cs d=some ds):StepIn cs d:=by
 unfold ba at h
 split at h
 ·rename_i hf
  obtain⟨r,rfl,hl⟩:=b0 hf
  match r,hl with
  |[x],_=>
   obtain⟨i,e,_⟩:=Option.map_eq_some_iff.mp h
   obtain⟨hi,ex⟩:=bp e
   have ex':x=.int (i:Int):=ex
   subst ex'
   exact .drop i hi
 split at h
 ·rename_i hf
  obtain⟨r,rfl,hl⟩:=b0 hf
  match r,hl with
  |[x],_=>
   obtain⟨i,e,h2⟩:=Option.bind_eq_some_iff.mp h
   obtain⟨hi,ex⟩:=bp e
   have ex':x=.int (i:Int):=ex
   subst ex'
   exact .unit i hi
 split at h
 ·rename_i hf
  obtain⟨r,rfl,hl⟩:=b0 hf
  match r,hl with
  |[x],_=>
   have h':fu t cs x=some ds:=h
   cases x with
   |int z=>exact .pure z
   |_=>cases h'
 split at h
 ·rename_i hf
  obtain⟨r,rfl,hl⟩:=b0 hf
  match r,hl with
  |[x,y],_=>
   obtain⟨i,e1,h⟩:=Option.bind_eq_some_iff.mp h
   obtain⟨j,e2,h⟩:=Option.bind_eq_some_iff.mp h
   obtain⟨hi,ex⟩:=bp e1
   obtain⟨hj,ey⟩:=bp e2
   have ex':x=.int (i:Int):=ex
   have ey':y=.int (j:Int):=ey
   subst ex' ey'
   exact .within i j hi hj
 split at h
 ·rename_i hf
  obtain⟨r,rfl,hl⟩:=b0 hf
  match r,hl with
  |[x,y],_=>
   have h':dI t cs x y=some ds:=h
   cases y with
   |int z=>
    have h2:(bo cs.length x).bind (fun i=>if dg t cs i z=true then some (cG cs i) else none)=some ds:=h'
    obtain⟨i,e1,h3⟩:=Option.bind_eq_some_iff.mp h2
    obtain⟨hi,ex⟩:=bp e1
    have ex':x=.int (i:Int):=ex
    subst ex'
    exact .blocked i z hi
   |_=>cases h'
 ·cases h
theorem iO {x:V}{r:List V}:ig (x::r) (0:Int)=some x:=aS (show (x::r)[0]? =some x from rfl)
theorem pP {x y:V}{r:List V}:ig (x::y::r) (1:Int)=some y:=aS (show (x::y::r)[1]? =some y from rfl)
inductive lT (vs:List V)(H:Hp)(Q:VK):Prop
 |mk (q:Addr)(t:Str)(y:V)(h0:vs=[.str t,.ref q,y])(h1:cj y=true)(h2:∀ k,y≠.int k)(q':Q .non H):lT vs H Q
def gu:Sp:=fun vs H Q _=>lT vs H Q
inductive jK (vs:List V)(H:Hp)(Q:VK):Prop
 |mk (q:Addr)(t:Str)(i y:V)(h0:vs=[.str t,.ref q,i,y])(h1:cj y=true)(h2:∀ k,y≠.int k)(q':Q .non H):jK vs H Q
def fk:Sp:=fun vs H Q _=>jK vs H Q
inductive pQ (vs:List V)(H:Hp)(Q:VK):Prop
 |mk (p q b:Addr)(t:Str)(xs zs:List V)(cs:List (List Int))(h0:vs=[.ref p,.ref b])(hp:H p=some (.tup [.str t,.ref q]))(h1:ClsAt H q t xs cs)(hb:H b=some (.tup zs))(hl:zs.length<=900)(hf:zs.all cj=true)(hn:¬ StepIn cs (.tuple (zs.map dV)))(q':∀ H',Same H H'->Q .non H'):pQ vs H Q
def lU:Sp:=fun vs H Q _=>pQ vs H Q
def u2:List V:=[.str (Str.ofString "within"),.str (Str.ofString "blocked")]
def qZ:List V:=[.str (Str.ofString "drop"),.str (Str.ofString "unit"),.str (Str.ofString "within"),.str (Str.ofString "blocked")]
theorem tM (x:V):cy x u2=(decide (x=.str aD) || decide (x=.str aw)):=by
 show (jU _ x || (jU _ x || false))=_
 rw[dO,dO,Bool.or_false]
 rfl
theorem pR (x:V):cy x qZ=(decide (x=.str bq) || (decide (x=.str bb) || (decide (x=.str aD) || decide (x=.str aw)))):=by
 show (jU _ x || (jU _ x || (jU _ x || (jU _ x || false))))=_
 rw[dO,dO,dO,dO,Bool.or_false]
 rfl
section
variable {P:Program}{w:World}{K:PySem.W.Frag}{mg:Str->Option Value}{base:Heap}
theorem mW {f g1 g2:Addr}{fd e1 e2:FuncData}(F:Fun K "_law_pure" "_law_pure" iH f fd)(T:kF mg)(G_law_number:Fn P w K mg base 1 "_law_number" g1 e1 ["_law_thing"] cS)(G_law_own:Fn P w K mg base 1 "_law_own" g2 e2 ["_law_turns","_law_hand","_law_literal"] eN):FnOk P w K mg base cA 2 f fd ["_law_turns","_law_clauses","_law_literal"] gu:=by
 have sc:=fJ
 refine F.ok fJ (fun vs H Q E h=>?_) (fun cdv A outer s H vs Q E hr h=>?_)
 ·obtain⟨q,t,y,rfl,_⟩:=h
  rfl
 obtain⟨q,t,y,rfl,hf,hn,q'⟩:=h
 have hu:=hr.units
 refine⟨_,(ag (aJ (PW.pt (bK (bh (aL (aC G_law_number hr (by omega) rfl (aa (pv 2) ac)))) (bK (aj dn (ai aO rfl T.abs PyProof.Rows.boot_abs (aa (pv 2) ac)) af (aq _)) (bT (aj dS (ai aO rfl T.abs PyProof.Rows.boot_abs (aa (pv 2) ac)) (ai aE rfl T.len PySem.boot_len (aa (pv 0) ac)) (aq _)))))) (ah (al a_)) au)
  (ag (cM (i:=3) sc.nd rfl rfl (NY:=["_law_clause","_law_literal"]) (idx:=[none,some 2]) rfl ⟨by with_unfolding_all rfl,(by with_unfolding_all exact⟨rfl,trivial⟩),fun _=>by rfl,by rfl,by rfl,by rfl,by decide⟩ (bc (pv 1)) (fun _ _ _ _=>(aA (i:=0) (show List.Nodup (["_law_clause","_law_literal"]:List Str) by decide+kernel) rfl (Or.inl rfl))) (fun _ _ _ _=>(aZ (aj (bE (K:=K) rfl) (pv 1) (pv 0) (by with_unfolding_all rfl)))) (fun _ _ _ _=>(pv 0)) (by with_unfolding_all rfl))
  (ag (aJ (PW.pt (bK (aj (aM hu) (ai aE rfl T.len PySem.boot_len (aa (pv 3) ac)) af (aq _)) (bT (aj dS (ai aE rfl T.len PySem.boot_len (aa (aN (NY:=["_law_clause","_law_literal"]) (idx:=[none,some 2]) rfl ⟨by with_unfolding_all rfl,(by with_unfolding_all exact⟨rfl,trivial⟩),fun _=>by rfl,by rfl,by rfl,by rfl,by decide⟩ (bc (pv 1)) (fun _ _ _ _=>(aA (i:=0) (show List.Nodup (["_law_clause","_law_literal"]:List Str) by decide+kernel) rfl (Or.inl rfl))) (fun _ _ _ _=>(aZ (aj (bE (K:=K) rfl) (av cB af (pv 1)) (pv 0) (by with_unfolding_all rfl)))) (fun _ _ _ _=>(pv 0))) ac)) af (aq _))))) (ah (al a_)) au)
  (ag (aJ (aL (aC G_law_own hr (by omega) rfl (aa (pv 0) (aa az (aa (pv 2) ac))))) (ah (al (aN (NY:=["_law_clause","_law_literal"]) (idx:=[none,some 2]) rfl ⟨by with_unfolding_all rfl,(by with_unfolding_all exact⟨rfl,trivial⟩),fun _=>by rfl,by rfl,by rfl,by rfl,by decide⟩ (bc (pv 1)) (fun _ _ _ _=>(aA (i:=0) (show List.Nodup (["_law_clause","_law_literal"]:List Str) by decide+kernel) rfl (Or.inl rfl))) (fun _ _ _ _=>(aZ (aj (bO (K:=K) rfl) (pv 1) (pv 0) (by with_unfolding_all rfl)))) (fun _ _ _ _=>(pv 0))))) au)
  (ah (al (aN (NY:=["_law_clause","_law_literal"]) (idx:=[none,some 2]) rfl ⟨by with_unfolding_all rfl,(by with_unfolding_all exact⟨rfl,trivial⟩),fun _=>by rfl,by rfl,by rfl,by rfl,by decide⟩ (bc (pv 1)) (fun _ _ _ _=>(aA (i:=0) (show List.Nodup (["_law_clause","_law_literal"]:List Str) by decide+kernel) rfl (Or.inl rfl))) (fun _ _ _ _=>cE) (fun _ _ _ _=>(bj (cn (K:=K) rfl) rfl T.tuple PyProof.Rows.boot_tuple (aa (aN (NY:=["_law_one","_law_literal"]) (idx:=[none,some 1]) rfl ⟨by with_unfolding_all rfl,(by with_unfolding_all exact⟨rfl,trivial⟩),fun _=>by rfl,by rfl,by rfl,by rfl,by decide⟩ (io (K:=K) rfl (pv 0)) (fun _ _ _ _=>(aA (i:=0) (show List.Nodup (["_law_one","_law_literal"]:List Str) by decide+kernel) rfl (Or.inl rfl))) (fun _ _ _ _=>(aZ (aj (cR hu) (pv 0) (pv 1) (aq _)))) (fun _ _ _ _=>(pv 0))) ac)))))))))),?_⟩
 refine⟨_,rfl,y,dV y,rfl,hZ hf,_,rfl,?_⟩
 rw[dN (gr hn)]
 exact aK q'
theorem kP {f g1 g2:Addr}{fd e1 e2:FuncData}(F:Fun K "_law_blocked" "_law_blocked" fK f fd)(T:kF mg)(G_law_number:Fn P w K mg base 1 "_law_number" g1 e1 ["_law_thing"] cS)(G_law_own:Fn P w K mg base 1 "_law_own" g2 e2 ["_law_turns","_law_hand","_law_literal"] eN):FnOk P w K mg base cA 2 f fd ["_law_turns","_law_clauses","_law_k","_law_literal"] fk:=by
 have sc:=eP
 refine F.ok eP (fun vs H Q E h=>?_) (fun cdv A outer s H vs Q E hr h=>?_)
 ·obtain⟨q,t,i,y,rfl,_⟩:=h
  rfl
 obtain⟨q,t,i,y,rfl,hf,hn,q'⟩:=h
 have hu:=hr.units
 refine⟨_,(ag (aJ (PW.pt (bK (bh (aL (aC G_law_number hr (by omega) rfl (aa (pv 3) ac)))) (bK (aj bB (pv 3) (ao ak (pv 1) (pv 2) (fun _ _=>rfl)) (by with_unfolding_all rfl)) (bT (bh (aL (aC G_law_own hr (by omega) rfl (aa (pv 0) (aa az (aa (pv 3) ac)))))))))) (ah (al a_)) au)
  (ag (cP PassesOwn.never rfl (bc (pv 1)) (aA (i:=4) sc.nd rfl (Or.inr rfl))
   (ah (aJ (aj cI (av cB af (pv 3)) (pv 4) (by with_unfolding_all rfl)) (ah (aJ (aj (aM hu) (ai aE rfl T.len PySem.boot_len (aa (aN (NY:=["_law_one","_law_other","_law_literal"]) (idx:=[none,some 4,some 3]) rfl ⟨by with_unfolding_all rfl,(by with_unfolding_all exact⟨rfl,rfl,trivial⟩),fun _=>by rfl,by rfl,by rfl,by rfl,by decide⟩ (ci (ao ak (pv 1) (pv 2) (fun _ _=>rfl))) (fun _ _ _ _=>(aA (i:=0) (show List.Nodup (["_law_one","_law_other","_law_literal"]:List Str) by decide+kernel) rfl (Or.inl rfl))) (fun _ _ _ _=>(aZ (PW.pt (b_ (aj dn (ai aO rfl T.abs PyProof.Rows.boot_abs (aa (pv 0) ac)) (ai aO rfl T.abs PyProof.Rows.boot_abs (aa (pv 2) ac)) (aq _)) (cg (aj (bE (K:=K) rfl) (av cB af (pv 0)) (pv 1) (by with_unfolding_all rfl))))))) (fun _ _ _ _=>(pv 0))) ac)) af (aq _)) (ah (al a_)) au)) au)))
  (ah (al (av bv (aX bn (pv 1) bw (bf (pv 2))) (aX bn (pv 1) (bf (av bu (pv 2) af)) bw)))))),?_⟩
 refine⟨_,rfl,y,dV y,rfl,hZ hf,_,rfl,?_⟩
 rw[dN (gr hn)]
 exact aK q'
theorem pS {f g1 g2 g3 g4 g5 g6:Addr}{fd e1 e2 e3 e4 e5 e6:FuncData}(F:Fun K "_law_behind" "_law_behind" jH f fd)(T:kF mg)(G_law_ahead:Fn P w K mg base 2 "_law_ahead" g1 e1 ["_law_sets","_law_thing"] fH)(G_law_blocked:Fn P w K mg base 2 "_law_blocked" g2 e2 ["_law_turns","_law_clauses","_law_k","_law_literal"] fk)(G_law_dropped:Fn P w K mg base 2 "_law_dropped" g3 e3 ["_law_turns","_law_hand","_law_literals"] fG)(G_law_own:Fn P w K mg base 1 "_law_own" g4 e4 ["_law_turns","_law_hand","_law_literal"] eN)(G_law_pure:Fn P w K mg base 2 "_law_pure" g5 e5 ["_law_turns","_law_clauses","_law_literal"] gu)(G_law_stand:Fn P w K mg base 1 "_law_stand" g6 e6 ["_law_clauses","_law_literal"] fI):FnOk P w K mg base cA 3 f fd ["_law_sentence_here","_law_step"] lU:=by
 have sc:=iN
 refine F.ok iN (fun vs H Q E h=>?_) (fun cdv A outer s H vs Q E hr h=>?_)
 ·obtain⟨p,q,b,t,xs,zs,cs,rfl,_⟩:=h
  rfl
 obtain⟨p,q,b,t,xs,zs,cs,rfl,hp,S,hb,hl9,hf,hno,q'⟩:=h
 have hu:=hr.units
 have hlen:=S.hcs.length
 have hn:=S.hn
 have ht:=S.ht
 refine⟨_,(ag (ng (pv 0) (nc rfl (eh (aA (i:=2) sc.nd rfl (Or.inl rfl)) (eh (aA (i:=3) sc.nd rfl (Or.inl rfl)) kQ))))
  (ag (aJ (PW.pt (bK (bh (aL (ai bU rfl T.isinstance PyProof.Rows.boot_isinstance (aa (pv 1) (aa (cD (v:=.ty "tuple") rfl T.tuple PyProof.Rows.boot_tuple rfl) ac))))) (bK (aj dn (ai aE rfl T.len PySem.boot_len (aa (pv 1) ac)) af (aq _)) (bT (aj (cR hu) (ai aE rfl T.len PySem.boot_len (aa (pv 1) ac)) (av bu af (bj gG rfl T.int PyProof.Rows.boot_int (aa (bg cI (ao ak (pv 1) af (fun _ _=>rfl)) (aR (aa az (aa az ac))) (by with_unfolding_all rfl)) ac))) (aq _)))))) (ah (al a_)) au)
  (ag (aJ (aj (aM hu) (ao ak (pv 1) af (fun _ _=>rfl)) az (aq _)) (ah (al (aC G_law_pure hr (by omega) rfl (aa (pv 2) (aa (pv 3) (aa (ao ak (pv 1) af (fun _ _=>rfl)) ac)))))) au)
  (ag (aJ (PW.pt (bK (aj bB (ao ak (pv 1) af (fun _ _=>rfl)) (aR (aa az (aa az (aa az (aa az ac))))) (by with_unfolding_all rfl)) (bT (bh (aL (aC G_law_ahead hr (by omega) rfl (aa (pv 3) (aa (ao ak (pv 1) af (fun _ _=>rfl)) ac)))))))) (ah (al a_)) au)
  (ag (aH (i:=4) sc.nd rfl (Or.inr rfl) (ao ak (pv 3) (ao ak (pv 1) af (fun _ _=>rfl)) (fun _ _=>rfl)))
  (ag (aJ (aj (aM hu) (ao ak (pv 1) af (fun _ _=>rfl)) az (aq _)) (ah (al (av bv (av bv (aX bn (pv 3) bw (bf (ao ak (pv 1) af (fun _ _=>rfl)))) (aR (aa (aC G_law_dropped hr (by omega) rfl (aa (pv 2) (aa az (aa (pv 4) ac)))) ac))) (aX bn (pv 3) (bf (av bu (ao ak (pv 1) af (fun _ _=>rfl)) af)) bw)))) au)
  (ag (aJ (PW.pt (b_ (aj (aM hu) (ao ak (pv 1) af (fun _ _=>rfl)) az (aq _)) (b_ (aj (aM hu) (ai aE rfl T.len PySem.boot_len (aa (pv 4) ac)) af (aq _)) (cg (aL (aC G_law_own hr (by omega) rfl (aa (pv 2) (aa az (aa (ao ak (pv 4) af (fun _ _=>rfl)) ac))))))))) (ah (al (aC G_law_stand hr (by omega) rfl (aa (pv 3) (aa (ao ak (pv 4) af (fun _ _=>rfl)) ac))))) au)
  (ag (aJ (aj (aM hu) (ao ak (pv 1) af (fun _ _=>rfl)) az (aq _)) (ah (al (aC G_law_blocked hr (by omega) rfl (aa (pv 2) (aa (pv 3) (aa (ao ak (pv 1) af (fun _ _=>rfl)) (aa (ao ak (pv 1) af (fun _ _=>rfl)) ac))))))) au)
  (ag (aJ (PW.pt (b_ (aj (aM hu) (ao ak (pv 1) af (fun _ _=>rfl)) az (aq _)) (b_ (aL (aC G_law_ahead hr (by omega) rfl (aa (pv 3) (aa (ao ak (pv 1) af (fun _ _=>rfl)) ac)))) (cg (aj (cR hu) (ao ak (pv 1) af (fun _ _=>rfl)) (ao ak (pv 1) af (fun _ _=>rfl)) (aq _)))))) (ah (aJ (aj (aM hu) (ai aE rfl T.len PySem.boot_len (aa (aN (NY:=["_law_one","_law_clause"]) (idx:=[none,some 4]) rfl ⟨by with_unfolding_all rfl,(by with_unfolding_all exact⟨rfl,trivial⟩),fun _=>by rfl,by rfl,by rfl,by rfl,by decide⟩ (ci (ao ak (pv 3) (ao ak (pv 1) af (fun _ _=>rfl)) (fun _ _=>rfl))) (fun _ _ _ _=>(aA (i:=0) (show List.Nodup (["_law_one","_law_clause"]:List Str) by decide+kernel) rfl (Or.inl rfl))) (fun _ _ _ _=>(aZ (aj (bO (K:=K) rfl) (pv 0) (pv 1) (by with_unfolding_all rfl)))) (fun _ _ _ _=>(pv 0))) ac)) af (aq _)) (ah (al (av bv (aX bn (pv 3) bw (bf (ao ak (pv 1) af (fun _ _=>rfl)))) (aX bn (pv 3) (bf (av bu (ao ak (pv 1) af (fun _ _=>rfl)) af)) bw)))) au)) au)
  (ah (al a_))))))))))),?_⟩
 refine⟨_,rfl,p,_,rfl,SqT.of hp,rfl,_,_,rfl,_,_,rfl,rfl,?_⟩
 refine⟨_,rfl,.ref b,_,"tuple",true,rfl,.tup hb,aY tV,true,rfl,ax ?_⟩
 match zs,hb,hl9,hf,hno with
 |[],hb,_,_,_=>
  exact⟨_,rfl,.ref b,_,rfl,.inr ⟨_,SqT.of hb,rfl⟩,_,_,rfl,rfl,_,rfl,aK (aK (q' _ (Same.refl _)))⟩
 |[x],hb,_,_,_=>
  exact⟨_,rfl,.ref b,_,rfl,.inr ⟨_,SqT.of hb,rfl⟩,_,_,rfl,rfl,_,rfl,aK (aK (q' _ (Same.refl _)))⟩
 |x::y::r,hb,hl9,hf,hno=>
  rw[List.all_cons,List.all_cons,Bool.and_eq_true,Bool.and_eq_true] at hf
  obtain⟨fx,fy,fr⟩:=hf
  refine⟨_,rfl,.ref b,_,rfl,.inr ⟨_,SqT.of hb,rfl⟩,_,_,rfl,rfl,_,rfl,cp (fun g=>absurd (of_decide_eq_true g) (by show ¬ (((r.length+1+1:Nat):Int) < 2);omega)) (fun _=>?_)⟩
  refine⟨_,rfl,.ref b,_,rfl,.inr ⟨_,SqT.of hb,rfl⟩,_,rfl,.inr (.inl ⟨b,_,0,x,rfl,rfl,SqT.of hb,iO,(by show 2<=sizeLine;decide),fun L1 q1=>?_⟩)⟩
  have k1:=ae q1 (.lst u2)
  refine⟨L1,u2,rfl,.inl (SqL.of ad),fx,rfl,.inr ⟨_,rfl,_,_,rfl,rfl,.inl ⟨rfl,_,rfl,?_⟩⟩⟩
  have e1:(if false=true then !cy x u2 else cy x u2)=(decide (x=.str aD) || decide (x=.str aw)):=by rw[if_neg Bool.false_ne_true,tM]
  rw[e1]
  have hb1:=k1 _ _ hb
  show if (!decide (V.int ((r.length+1+1:Nat):Int)=V.int (2+(if (decide (x=.str aD) || decide (x=.str aw))=true then 1 else 0))))=true then _ else _
  by_cases h2:x=.str aD\/x=.str aw
  ·have e2:(decide (x=.str aD) || decide (x=.str aw))=true:=by
    rw[Bool.or_eq_true]
    exact h2.imp (fun z=>decide_eq_true z) fun z=>decide_eq_true z
   rw[e2]
   refine cp (fun _=>q' _ k1) fun g=>?_
   have g':((r.length+1+1:Nat):Int)=2+(if true=true then 1 else 0):=by
    have:decide (V.int ((r.length+1+1:Nat):Int)=V.int (2+(if true=true then 1 else 0)))=true:=by simpa using g
    exact V.int.inj (of_decide_eq_true this)
   rw[if_pos rfl] at g'
   obtain⟨z,rfl⟩:∃ z,r=[z]:=by
    match r,g' with
    |[z],_=>exact⟨z,rfl⟩
    |[],g=>exact absurd g (by decide)
    |_::_::_,g=>exact absurd g (by simp only [List.length_cons];omega)
   have fz:cj z=true:=by
    rw[List.all_cons,Bool.and_eq_true] at fr
    exact fr.1
   have np:decide (x=.str (Str.ofString "pure"))=false:=decide_eq_false fun e=>by
    rcases h2 with h|h
    ·rw[h] at e;exact absurd (V.str.inj e) (by decide+kernel)
    ·rw[h] at e;exact absurd (V.str.inj e) (by decide+kernel)
   have nd:decide (x=.str (Str.ofString "drop"))=false:=decide_eq_false fun e=>by
    rcases h2 with h|h
    ·rw[h] at e;exact absurd (V.str.inj e) (by decide+kernel)
    ·rw[h] at e;exact absurd (V.str.inj e) (by decide+kernel)
   have nu:decide (x=.str (Str.ofString "unit"))=false:=decide_eq_false fun e=>by
    rcases h2 with h|h
    ·rw[h] at e;exact absurd (V.str.inj e) (by decide+kernel)
    ·rw[h] at e;exact absurd (V.str.inj e) (by decide+kernel)
   have i4:cy x qZ=true:=by
    rw[pR]
    rcases h2 with h|h
    ·rw[decide_eq_true h,Bool.true_or,Bool.or_true,Bool.or_true]
    ·rw[decide_eq_true h,Bool.or_true,Bool.or_true,Bool.or_true]
   refine⟨_,rfl,.inr (.inl ⟨b,_,0,x,rfl,rfl,SqT.of hb1,iO,.inl ⟨cW fx,_,rfl,?_⟩⟩)⟩
   rw[np]
   refine ax ⟨_,rfl,.inr (.inl ⟨b,_,0,x,rfl,rfl,SqT.of hb1,iO,(by show 4<=sizeLine;decide),fun L2 n2=>?_⟩)⟩
   have k2:=k1.trans (ae n2 (.lst qZ))
   have hb2:=k2 _ _ hb
   have hq2:=k2 _ _ S.hq
   refine⟨L2,qZ,rfl,.inl (SqL.of ad),fx,rfl,_,rfl,?_⟩
   show if (!cy x qZ)=true then _ else _
   rw[i4]
   refine ax ⟨_,rfl,_,rfl,.inr (.inl ⟨b,_,1,y,rfl,rfl,SqT.of hb2,pP,q,y,dV y,xs,rfl,hq2,(by omega),hZ fy,_,rfl,?_⟩)⟩
   cases ep:bo xs.length (dV y) with
   |none=>exact aK (q' _ k2)
   |some i=>
    obtain⟨hi,rfl⟩:=dh ep
    rw[← hlen] at hi
    refine ax ?_
    refine fh S.hcs hi fun tc hx htc hm=>?_
    refine⟨_,rfl,_,rfl,.inr (.inl ⟨b,_,1,.int (i:Int),rfl,rfl,SqT.of hb2,pP,.inl ⟨q,xs,(i:Int),.ref tc,rfl,rfl,SqL.of hq2,aS hx,?_⟩⟩)⟩
    refine⟨_,rfl,.inr (.inl ⟨b,_,0,x,rfl,rfl,SqT.of hb2,iO,.inl ⟨cW fx,_,rfl,?_⟩⟩)⟩
    rw[nd]
    refine ax ⟨_,rfl,.inr (.inl ⟨b,_,0,x,rfl,rfl,SqT.of hb2,iO,.inl ⟨cW fx,_,rfl,?_⟩⟩)⟩
    rw[nu]
    refine ax (ax ⟨_,rfl,.inr (.inl ⟨b,_,0,x,rfl,rfl,SqT.of hb2,iO,.inl ⟨cW fx,_,rfl,?_⟩⟩)⟩)
    have at2:ig [x,V.int (i:Int),z] (2:Int)=some z:=aS (show [x,V.int (i:Int),z][2]? =some z from rfl)
    by_cases hbk:x=.str aw
    ·subst hbk
     rw[show decide (V.str aw=V.str (Str.ofString "blocked"))=true from decide_eq_true rfl]
     have hzn:∀ k,z≠.int k:=fun k e=>by
      subst e
      exact hno (.blocked i k hi)
     exact aK ⟨_,rfl,_,rfl,_,rfl,.inr (.inl ⟨b,_,1,.int (i:Int),rfl,rfl,SqT.of hb2,pP,_,rfl,.inr (.inl ⟨b,_,2,z,rfl,rfl,SqT.of hb2,at2,q,t,_,z,rfl,fz,hzn,q' _ k2⟩)⟩)⟩
    ·have hw:x=.str aD:=h2.resolve_right hbk
     subst hw
     rw[show decide (V.str aD=V.str (Str.ofString "blocked"))=false from decide_eq_false hbk]
     refine ax ⟨_,rfl,.inr (.inl ⟨b,_,0,_,rfl,rfl,SqT.of hb2,iO,.inl ⟨cW fx,_,rfl,?_⟩⟩)⟩
     rw[show decide (V.str aD=V.str (Str.ofString "within"))=true from decide_eq_true rfl]
     refine aK ⟨_,rfl,_,rfl,.inr (.inl ⟨b,_,2,z,rfl,rfl,SqT.of hb2,at2,q,z,dV z,xs,rfl,hq2,(by omega),hZ fz,_,rfl,?_⟩)⟩
     cases ez:bo xs.length (dV z) with
     |none=>exact ax (ax (q' _ k2))
     |some j=>
      obtain⟨hj,rfl⟩:=dh ez
      rw[← hlen] at hj
      exact absurd (StepIn.within i j hi hj) hno
  ·have e2:(decide (x=.str aD) || decide (x=.str aw))=false:=by
    rw[Bool.or_eq_false_iff]
    exact⟨decide_eq_false fun z=>h2 (.inl z),decide_eq_false fun z=>h2 (.inr z)⟩
   rw[e2]
   refine cp (fun _=>q' _ k1) fun g=>?_
   have g':((r.length+1+1:Nat):Int)=2+(if false=true then 1 else 0):=by
    have:decide (V.int ((r.length+1+1:Nat):Int)=V.int (2+(if false=true then 1 else 0)))=true:=by simpa using g
    exact V.int.inj (of_decide_eq_true this)
   rw[if_neg Bool.false_ne_true] at g'
   obtain rfl:r=[]:=List.length_eq_zero_iff.mp (by omega)
   refine⟨_,rfl,.inr (.inl ⟨b,_,0,x,rfl,rfl,SqT.of hb1,iO,.inl ⟨cW fx,_,rfl,?_⟩⟩)⟩
   by_cases hp1:x=.str bz
   ·subst hp1
    rw[show decide (V.str bz=V.str (Str.ofString "pure"))=true from decide_eq_true rfl]
    have hyn:∀ k,y≠.int k:=fun k e=>by
     subst e
     exact hno (.pure k)
    exact aK ⟨_,rfl,_,rfl,_,rfl,.inr (.inl ⟨b,_,1,y,rfl,rfl,SqT.of hb1,pP,q,t,y,rfl,fy,hyn,q' _ k1⟩)⟩
   rw[show decide (x=V.str (Str.ofString "pure"))=false from decide_eq_false hp1]
   refine ax ⟨_,rfl,.inr (.inl ⟨b,_,0,x,rfl,rfl,SqT.of hb1,iO,(by show 4<=sizeLine;decide),fun L2 n2=>?_⟩)⟩
   have k2:=k1.trans (ae n2 (.lst qZ))
   have hb2:=k2 _ _ hb
   have hq2:=k2 _ _ S.hq
   refine⟨L2,qZ,rfl,.inl (SqL.of ad),fx,rfl,_,rfl,?_⟩
   show if (!cy x qZ)=true then _ else _
   cases i4:cy x qZ with
   |false=>exact aK (aK (q' _ k2))
   |true=>
    refine ax ⟨_,rfl,_,rfl,.inr (.inl ⟨b,_,1,y,rfl,rfl,SqT.of hb2,pP,q,y,dV y,xs,rfl,hq2,(by omega),hZ fy,_,rfl,?_⟩)⟩
    cases ep:bo xs.length (dV y) with
    |none=>exact aK (q' _ k2)
    |some i=>
     obtain⟨hi,rfl⟩:=dh ep
     rw[← hlen] at hi
     rw[pR,decide_eq_false (fun z=>h2 (.inl z)),decide_eq_false (fun z=>h2 (.inr z)),Bool.or_false,Bool.or_false,Bool.or_eq_true] at i4
     rcases i4 with z|z
     ·have:=of_decide_eq_true z
      subst this
      exact absurd (StepIn.drop i hi) hno
     ·have:=of_decide_eq_true z
      subst this
      exact absurd (StepIn.unit i hi) hno
end
end K62
namespace K62
open PySem L2 OD
abbrev tN:Stmt:=cX 60
structure lV (z:V):Prop where
 f:cj z=true
 s:SeqAt.shaped (dV z)=true
theorem cH (z:Int):lV (.int z):=⟨rfl,rfl⟩
def lW (zs:List V):Prop:=zs.length<=4/\∀ z∈zs,lV z
theorem jL {zs:List V}(h:lW zs):zs.all cj=true:=List.all_eq_true.mpr fun z hz=>(h.2 z hz).f
theorem tO {zs:List V}(h:lW zs):tY (.tuple (zs.map dV)):=fun ds e=>by
 cases e
 cases zs with
 |nil=>rfl
 |cons z r=>exact (h.2 z List.mem_cons_self).s
theorem u3 {x:V}(a:lV x):lW [x]:=⟨by show 1<=4;decide,fun z hz=>by rw[List.mem_singleton.mp hz];exact a⟩
theorem mY {x y:V}(a:lV x)(b:lV y):lW [x,y]:=⟨by show 2<=4;decide,fun z hz=>by
 rcases List.mem_cons.mp hz with rfl|hz
 ·exact a
 ·exact (u3 b).2 z hz⟩
theorem q_ {x y u:V}(a:lV x)(b:lV y)(c:lV u):lW [x,y,u]:=⟨by show 3<=4;decide,fun z hz=>by
 rcases List.mem_cons.mp hz with rfl|hz
 ·exact a
 ·exact (mY b c).2 z hz⟩
theorem vO {x y u v:V}(a:lV x)(b:lV y)(c:lV u)(d:lV v):lW [x,y,u,v]:=⟨by show 4<=4;decide,fun z hz=>by
 rcases List.mem_cons.mp hz with rfl|hz
 ·exact a
 ·exact (q_ b c d).2 z hz⟩
theorem iP {xs:List V}{k:Int}(h0:0<=k)(h1:k < xs.length):∃ v,v∈xs/\ig xs k=some v:=by
 obtain⟨n,rfl⟩:=Int.eq_ofNat_of_zero_le h0
 have hn:n < xs.length:=by omega
 exact⟨xs[n],List.getElem_mem hn,aS (List.getElem?_eq_getElem hn)⟩
abbrev dJ:List V:=[.str (Str.ofString "drop"),.str (Str.ofString "unit"),.str (Str.ofString "pure"),.str (Str.ofString "within"),.str (Str.ofString "blocked"),.str (Str.ofString "Drop"),.str (Str.ofString ""),.int 0]
theorem pT:∀ z∈dJ,lV z:=by
 intro z hz
 unfold dJ at hz
 simp only [List.mem_cons,List.not_mem_nil,or_false] at hz
 rcases hz with rfl|rfl|rfl|rfl|rfl|rfl|rfl|rfl<;>exact⟨rfl,by decide+kernel⟩
inductive rY (K:PySem.W.Frag)(vs:List V)(H:Hp)(Q:VK):Prop
 |mk (a p q:Addr)(ns:List Int)(t:Str)(xs:List V)(c:Int)(h0:vs=[.ref a,.ref p,.int c])(hS:SqL K H a (ns.map V.int))(hp:H p=some (.tup [.str t,.ref q]))(hq:H q=some (.lst xs))(ht:t.length<=900)(hx:xs.length<=900)
  (q':∀ b zs H',Same H H'->H' b=some (.tup zs)->lW zs->Q (.ref b) H'):rY K vs H Q
def pU (K:PySem.W.Frag):Sp:=fun vs H Q _=>rY K vs H Q
section
variable {P:Program}{w:World}{K:PySem.W.Frag}{mg:Str->Option Value}{base:Heap}
theorem rZ:aF ["_law_script","_law_sentence_here","_law_cell","_law_far","_law_many","_law_numbers","_law_word","_law_one","_law_two"] ["_law_script","_law_sentence_here","_law_cell"] (ap tN):=⟨rfl,rfl,rfl,by decide+kernel,rfl,by decide+kernel,by decide+kernel⟩
theorem tP {f g1:Addr}{fd e1:FuncData}(F:Fun K "_law_odd" "_law_odd" tN f fd)(T:kF mg)(G_law_cell_at:Fn P w K mg base 1 "_law_cell_at" g1 e1 ["_law_script","_law_k"] (iz K)):FnOk P w K mg base cA 2 f fd ["_law_script","_law_sentence_here","_law_cell"] (pU K):=by
 have sc:=rZ
 refine F.ok rZ (fun vs H Q E h=>?_) (fun cdv A outer s H vs Q E hr h=>?_)
 ·obtain⟨a,p,q,ns,t,xs,c,rfl,_⟩:=h
  rfl
 obtain⟨a,p,qa,ns,t,xs,c,rfl,hS,hp,hq,ht,hx,q⟩:=h
 refine df (aH (i:=3) sc.nd rfl (Or.inl rfl) (av bD (aC G_law_cell_at hr (by omega) rfl (aa (pv 0) (aa af ac))) (av sy af af))) ?_
 refine df (aH (i:=4) sc.nd rfl (Or.inl rfl) (ai aE rfl T.len PySem.boot_len (aa (ao ak (pv 1) af (fun _ _=>rfl)) ac))) ?_
 refine df (aH (i:=5) sc.nd rfl (Or.inl rfl) (PEi.out (PEi.lst (PAi.cons (PEi.mk (av cB (av bD (av b8 (pv 2) af) (av bu (pv 4) af)) af)) (PAi.cons (PEi.mk (av cB (av bD (av b8 (pv 2) af) af) af)) (PAi.cons (PEi.mk (av cB (fm dm af) (pv 3))) (PAi.cons (PEi.mk (av bu (pv 4) (pv 3))) (PAi.cons (PEi.mk (av bu (av bu (ai aE rfl T.len PySem.boot_len (aa (ao ak (pv 1) af (fun _ _=>rfl)) ac)) af) (pv 3))) PAi.nil (fun _ _ z=>nomatch z)) (fun _ _ z=>nomatch z)) (fun _ _ z=>nomatch z)) (fun _ _ z=>nomatch z)) (fun _ _ z=>nomatch z))))) ?_
 refine df (aH (i:=5) sc.nd rfl (Or.inl rfl) (av bv (pv 5) (PEi.out (PEi.lst (PAi.cons (PEi.mk cq) (PAi.cons (PEi.mk cq) (PAi.cons (PEi.mk az) (PAi.cons (PEi.mk a_) PAi.nil (fun _ _ z=>nomatch z)) (fun _ _ z=>nomatch z)) (fun _ _ z=>nomatch z)) (fun _ _ z=>nomatch z)))))) ?_
 refine df (aH (i:=6) sc.nd rfl (Or.inl rfl) (ao ak (PEi.out (PEi.lst (PAi.cons (PEi.mk az) (PAi.cons (PEi.mk az) (PAi.cons (PEi.mk az) (PAi.cons (PEi.mk az) (PAi.cons (PEi.mk az) (PAi.cons (PEi.mk az) (PAi.cons (PEi.mk az) (PAi.cons (PEi.mk af) PAi.nil (fun _ _ z=>nomatch z)) (fun _ _ z=>nomatch z)) (fun _ _ z=>nomatch z)) (fun _ _ z=>nomatch z)) (fun _ _ z=>nomatch z)) (fun _ _ z=>nomatch z)) (fun _ _ z=>nomatch z)) (fun _ _ z=>nomatch z)))) (av bD (pv 2) af) (fun _ _=>rfl))) ?_
 refine df (aH (i:=7) sc.nd rfl (Or.inl rfl) (ao ak (pv 5) (av bD (av b8 (pv 2) af) af) (fun _ _=>rfl))) ?_
 refine df (aH (i:=8) sc.nd rfl (Or.inl rfl) (ao ak (pv 5) (av bD (av b8 (pv 2) af) af) (fun _ _=>rfl))) ?_
 refine⟨_,(ah (al (ao ak (PEi.out (PEi.lst (PAi.cons (PEi.tup (PAi.cons (PEi.mk (pv 6)) (PAi.cons (PEi.mk (pv 7)) PAi.nil (fun _ _ z=>nomatch z)) (fun _ _ z=>nomatch z))) (PAi.cons (PEi.tup (PAi.cons (PEi.mk (pv 6)) (PAi.cons (PEi.mk (pv 7)) (PAi.cons (PEi.mk (pv 8)) PAi.nil (fun _ _ z=>nomatch z)) (fun _ _ z=>nomatch z)) (fun _ _ z=>nomatch z))) (PAi.cons (PEi.tup (PAi.cons (PEi.mk (pv 6)) PAi.nil (fun _ _ z=>nomatch z))) (PAi.cons (PEi.tup (PAi.cons (PEi.mk (pv 6)) (PAi.cons (PEi.mk (pv 7)) (PAi.cons (PEi.mk (pv 8)) (PAi.cons (PEi.mk af) PAi.nil (fun _ _ z=>nomatch z)) (fun _ _ z=>nomatch z)) (fun _ _ z=>nomatch z)) (fun _ _ z=>nomatch z))) (PAi.cons (PEi.tup PAi.nil) (PAi.cons (PEi.tup (PAi.cons (PEi.mk (pv 7)) (PAi.cons (PEi.mk (pv 6)) PAi.nil (fun _ _ z=>nomatch z)) (fun _ _ z=>nomatch z))) PAi.nil (fun _ _ z=>nomatch z)) (fun _ _ z=>nomatch z)) (fun _ _ z=>nomatch z)) (fun _ _ z=>nomatch z)) (fun _ _ z=>nomatch z)) (fun _ _ z=>nomatch z)))) (av bD (av b8 (pv 2) af) af) (fun _ _=>rfl)))),?_⟩
 refine⟨_,rfl,a,ns,59,rfl,hS,(by decide),_,_,rfl,rfl,⟨by decide,by decide,by decide⟩,_,_,rfl,rfl,(by decide),?_⟩
 generalize cC ns 59 % (10:Int) ^ (58:Int).toNat=m
 refine⟨_,rfl,.inr (.inl ⟨p,_,1,.ref qa,rfl,rfl,SqT.of hp,rfl,.ref qa,_,rfl,.inl ⟨_,SqL.of hq,rfl⟩,?_⟩)⟩
 refine⟨_,rfl,_,_,rfl,rfl,⟨by decide,by decide⟩,_,rfl,_,_,rfl,rfl,_,_,rfl,rfl,(by show (0:Int) < ((xs.length:Nat):Int)+2;omega),_,_,rfl,rfl,?_⟩
 refine⟨_,rfl,_,_,rfl,rfl,⟨by decide,by decide⟩,_,_,rfl,rfl,(by show (0:Int) < 17;decide),_,_,rfl,rfl,?_⟩
 refine⟨_,rfl,_,rfl,_,_,rfl,rfl,?_⟩
 refine⟨_,rfl,_,rfl,_,_,rfl,rfl,?_⟩
 refine⟨_,rfl,.inr (.inl ⟨p,_,0,.str t,rfl,rfl,SqT.of hp,rfl,.str t,_,rfl,⟨Nat.le_of_lt (aB (by omega)),rfl⟩,_,_,rfl,rfl,_,rfl,_,_,rfl,rfl,?_⟩)⟩
 refine⟨(by show 5<=sizeLine;decide),fun l1 n1=>?_⟩
 generalize c / 3 % (((xs.length:Nat):Int)+2) - 1=z1
 generalize c / 7 % 17 - 8=z2
 generalize -1 - m=z3
 generalize ((xs.length:Nat):Int)+m=z4
 generalize ((t.length:Nat):Int)+1+m=z5
 have k1:=ae n1 (.lst [.int z1,.int z2,.int z3,.int z4,.int z5])
 have s1:upd H l1 (.lst [.int z1,.int z2,.int z3,.int z4,.int z5]) l1=some (.lst [.int z1,.int z2,.int z3,.int z4,.int z5]):=ad
 show gx _ _ _ _ (upd H l1 (.lst [.int z1,.int z2,.int z3,.int z4,.int z5]))
 generalize upd H l1 (.lst [.int z1,.int z2,.int z3,.int z4,.int z5])=H1 at k1 s1 ⊢
 refine⟨_,rfl,(by show 4<=sizeLine;decide),fun l2 n2=>?_⟩
 have k2:=ae n2 (.lst [.bl true,.bl false,.str (Str.ofString "a"),.non])
 have s2:upd H1 l2 (.lst [.bl true,.bl false,.str (Str.ofString "a"),.non]) l2=some (.lst [.bl true,.bl false,.str (Str.ofString "a"),.non]):=ad
 generalize upd H1 l2 (.lst [.bl true,.bl false,.str (Str.ofString "a"),.non])=H2 at k2 s2 ⊢
 refine⟨l1,l2,_,_,rfl,rfl,k2 _ _ s1,s2,(by show 9<=sizeLine;decide),fun l3 n3=>?_⟩
 have ok9:∀ z∈([.int z1,.int z2,.int z3,.int z4,.int z5]++[.bl true,.bl false,.str (Str.ofString "a"),.non]:List V),lV z:=fun z hz=>by
  rcases List.mem_append.mp hz with hz|hz
  ·simp only [List.mem_cons,List.not_mem_nil,or_false] at hz
   rcases hz with rfl|rfl|rfl|rfl|rfl<;>exact cH _
  ·simp only [List.mem_cons,List.not_mem_nil,or_false] at hz
   rcases hz with rfl|rfl|rfl|rfl
   ·exact⟨rfl,rfl⟩
   ·exact⟨rfl,rfl⟩
   ·exact⟨rfl,by decide+kernel⟩
   ·exact⟨rfl,rfl⟩
 have ln9:([.int z1,.int z2,.int z3,.int z4,.int z5]++[.bl true,.bl false,.str (Str.ofString "a"),.non]:List V).length=9:=rfl
 generalize ([.int z1,.int z2,.int z3,.int z4,.int z5]++[.bl true,.bl false,.str (Str.ofString "a"),.non]:List V)=n9 at ok9 ln9 ⊢
 have k3:=ae n3 (.lst n9)
 have s3:upd H2 l3 (.lst n9) l3=some (.lst n9):=ad
 show gx _ _ _ _ (upd H2 l3 (.lst n9))
 generalize upd H2 l3 (.lst n9)=H3 at k3 s3 ⊢
 refine⟨(by show 8<=sizeLine;decide),fun l4 n4=>?_⟩
 have k4:=ae n4 (.lst dJ)
 have s4:upd H3 l4 (.lst dJ) l4=some (.lst dJ):=ad
 generalize upd H3 l4 (.lst dJ)=H4 at k4 s4 ⊢
 obtain⟨wd,wm,wa⟩:=iP (xs:=dJ) (k:=c % 8) (by omega) (by show c % 8 < 8;omega)
 obtain⟨v1,vm1,va1⟩:=iP (xs:=n9) (k:=c / 8 % 9) (by omega) (by rw[ln9];show c / 8 % 9 < 9;omega)
 obtain⟨v2,vm2,va2⟩:=iP (xs:=n9) (k:=c / 72 % 9) (by omega) (by rw[ln9];show c / 72 % 9 < 9;omega)
 have ow:=pT wd wm
 have o1:=ok9 v1 vm1
 have o2:=ok9 v2 vm2
 have s34:=k4 _ _ s3
 refine⟨_,rfl,_,_,rfl,rfl,(by show (0:Int) < 8;decide),.inl ⟨l4,dJ,_,wd,rfl,rfl,SqL.of s4,wa,?_⟩⟩
 refine⟨_,rfl,_,rfl,_,_,rfl,rfl,⟨by decide,by decide⟩,_,_,rfl,rfl,(by show (0:Int) < 9;decide),.inl ⟨l3,n9,_,v1,rfl,rfl,SqL.of s34,va1,?_⟩⟩
 refine⟨_,rfl,_,rfl,_,_,rfl,rfl,⟨by decide,by decide⟩,_,_,rfl,rfl,(by show (0:Int) < 9;decide),.inl ⟨l3,n9,_,v2,rfl,rfl,SqL.of s34,va2,?_⟩⟩
 have k04:=k1.trans (k2.trans (k3.trans k4))
 clear k1 k2 k3 k4 s1 s2 s3 s4 s34 n1 n2 n3 n4 wm vm1 vm2 wa va1 va2 ok9 ln9
 refine⟨_,rfl,_,rfl,(by show 2<=sizeLine;decide),fun b1 m1=>?_⟩
 have j1:=ae m1 (.tup [wd,v1])
 have r1:upd H4 b1 (.tup [wd,v1]) b1=some (.tup [wd,v1]):=ad
 generalize upd H4 b1 (.tup [wd,v1])=G1 at j1 r1 ⊢
 refine⟨_,rfl,_,rfl,_,rfl,(by show 3<=sizeLine;decide),fun b2 m2=>?_⟩
 have j2:=ae m2 (.tup [wd,v1,v2])
 have r2:upd G1 b2 (.tup [wd,v1,v2]) b2=some (.tup [wd,v1,v2]):=ad
 generalize upd G1 b2 (.tup [wd,v1,v2])=G2 at j2 r2 ⊢
 refine⟨_,rfl,(by show 1<=sizeLine;decide),fun b3 m3=>?_⟩
 have j3:=ae m3 (.tup [wd])
 have r3:upd G2 b3 (.tup [wd]) b3=some (.tup [wd]):=ad
 generalize upd G2 b3 (.tup [wd])=G3 at j3 r3 ⊢
 refine⟨_,rfl,_,rfl,_,rfl,(by show 4<=sizeLine;decide),fun b4 m4=>?_⟩
 have j4:=ae m4 (.tup [wd,v1,v2,.int 0])
 have r4:upd G3 b4 (.tup [wd,v1,v2,.int 0]) b4=some (.tup [wd,v1,v2,.int 0]):=ad
 generalize upd G3 b4 (.tup [wd,v1,v2,.int 0])=G4 at j4 r4 ⊢
 refine⟨Nat.zero_le _,fun b5 m5=>?_⟩
 have j5:=ae m5 (.tup [])
 have r5:upd G4 b5 (.tup []) b5=some (.tup []):=ad
 generalize upd G4 b5 (.tup [])=G5 at j5 r5 ⊢
 refine⟨_,rfl,_,rfl,(by show 2<=sizeLine;decide),fun b6 m6=>?_⟩
 have j6:=ae m6 (.tup [v1,wd])
 have r6:upd G5 b6 (.tup [v1,wd]) b6=some (.tup [v1,wd]):=ad
 generalize upd G5 b6 (.tup [v1,wd])=G6 at j6 r6 ⊢
 refine⟨(by show 6<=sizeLine;decide),fun b7 m7=>?_⟩
 have j7:=ae m7 (.lst [.ref b1,.ref b2,.ref b3,.ref b4,.ref b5,.ref b6])
 have r7:upd G6 b7 (.lst [.ref b1,.ref b2,.ref b3,.ref b4,.ref b5,.ref b6]) b7=some (.lst [.ref b1,.ref b2,.ref b3,.ref b4,.ref b5,.ref b6]):=ad
 generalize upd G6 b7 (.lst [.ref b1,.ref b2,.ref b3,.ref b4,.ref b5,.ref b6])=G7 at j7 r7 ⊢
 have j67:=j6.trans j7
 have j57:=j5.trans j67
 have j47:=j4.trans j57
 have j37:=j3.trans j47
 have j27:=j2.trans j37
 have kk:=k04.trans (j1.trans j27)
 obtain⟨v,vm,va⟩:=iP (xs:=[.ref b1,.ref b2,.ref b3,.ref b4,.ref b5,.ref b6]) (k:=c / 650 % 6) (by omega) (by show c / 650 % 6 < 6;omega)
 refine⟨_,rfl,_,_,rfl,rfl,⟨by decide,by decide⟩,_,_,rfl,rfl,(by show (0:Int) < 6;decide),.inl ⟨b7,_,_,v,rfl,rfl,SqL.of r7,va,?_⟩⟩
 simp only [List.mem_cons,List.not_mem_nil,or_false] at vm
 rcases vm with rfl|rfl|rfl|rfl|rfl|rfl
 ·exact q _ _ _ kk (j27 _ _ r1) (mY ow o1)
 ·exact q _ _ _ kk (j37 _ _ r2) (q_ ow o1 o2)
 ·exact q _ _ _ kk (j47 _ _ r3) (u3 ow)
 ·exact q _ _ _ kk (j57 _ _ r4) (vO ow o1 o2 (cH _))
 ·exact q _ _ _ kk (j67 _ _ r5) ⟨Nat.zero_le _,fun _ h=>nomatch h⟩
 ·exact q _ _ _ kk (j7 _ _ r6) (mY o1 ow)
end
end K62
namespace K62
open PySem L2 OD
abbrev mZ:Stmt:=cX 61
def lX (K:PySem.W.Frag):Sp:=fun vs H Q _=>∃ (a:Addr) (ns:List Int),vs=[.ref a]/\SqL K H a (ns.map V.int)/\ns.length<=63/\∀ H',Q (.bl true) H'
theorem SentAt.mono {H H':Hp}{p q:Addr}{t:Str}{xs:List V}{cs:List (List Int)}(h:SentAt H p q t xs cs)(k:Same H H'):SentAt H' p q t xs cs:=⟨k _ _ h.hp,k _ _ h.hq,h.hcs.mono k,h.ht,h.hn,h.hok,h.hc⟩
def iQ:Sp:=fun vs H Q E=>pM vs H Q E\/lU vs H Q E
def Asks (H:Hp)(ys:List V):Prop:=∀ y∈ys,∃ b zs,y=.ref b/\H b=some (.tup zs)/\lW zs
theorem Asks.mono {H H':Hp}{ys:List V}(h:Asks H ys)(k:Same H H'):Asks H' ys:=fun y hy=>let ⟨b,zs,a,c,d⟩:=h y hy;⟨b,zs,a,k _ _ c,d⟩
theorem Asks.put {H:Hp}{ys us:List V}{D:Addr}(h:Asks H ys)(hD:H D=some (.lst us))(vs:List V):Asks (upd H D (.lst vs)) ys:=fun y hy=>by
 obtain⟨b,zs,a,c,d⟩:=h y hy
 exact⟨b,zs,a,by rw[ay (fun z=>by rw[z,hD] at c;cases c)];exact c,d⟩
theorem Asks.snoc {H:Hp}{ys zs:List V}{b:Addr}(h:Asks H ys)(hb:H b=some (.tup zs))(ok:lW zs):Asks H (ys++[.ref b]):=fun y hy=>by
 rcases List.mem_append.mp hy with z|z
 ·exact h y z
 ·rw[List.mem_singleton.mp z]
  exact⟨b,zs,rfl,hb,ok⟩
inductive r9 (a p L:Addr)(H1:Hp)(i:Nat)(σ:St)(H2:Hp):Prop
 |mk (v3:Option V)(ys:List V)(h0:σ=[some (.ref a),some (.ref p),some (.ref L),v3,none,none])(h1:Same H1 H2)(h2:H2 L=some (.lst ys))(h3:ys.length=5+i)(h4:Asks H2 ys):r9 a p L H1 i σ H2
inductive r_ (a p L:Addr)(v3:Option V)(H1:Hp)(i:Nat)(σ:St)(H2:Hp):Prop
 |mk (v4 v5:Option V)(h0:σ=[some (.ref a),some (.ref p),some (.ref L),v3,v4,v5])(h1:Same H1 H2):r_ a p L v3 H1 i σ H2
section
variable {P:Program}{w:World}{K:PySem.W.Frag}{mg:Str->Option Value}{base:Heap}
theorem pV {f g1 g2 g3 g4 g5 g6 g7 g8:Addr}{fd e1 e2 e3 e4 e5 e6 e7 e8:FuncData}(F:Fun K "_law_behind" "_law_behind" jH f fd)(T:kF mg)(G1:Fn P w K mg base 2 "_law_ahead" g1 e1 ["_law_sets","_law_thing"] fH)(G2:Fn P w K mg base 2 "_law_blocked" g2 e2 ["_law_turns","_law_clauses","_law_k","_law_literal"] gn)(G3:Fn P w K mg base 2 "_law_dropped" g3 e3 ["_law_turns","_law_hand","_law_literals"] fG)(G4:Fn P w K mg base 1 "_law_own" g4 e4 ["_law_turns","_law_hand","_law_literal"] eN)(G5:Fn P w K mg base 2 "_law_pure" g5 e5 ["_law_turns","_law_clauses","_law_literal"] iI)(G6:Fn P w K mg base 1 "_law_stand" g6 e6 ["_law_clauses","_law_literal"] fI)
  (G7:Fn P w K mg base 2 "_law_blocked" g7 e7 ["_law_turns","_law_clauses","_law_k","_law_literal"] fk) (G8:Fn P w K mg base 2 "_law_pure" g8 e8 ["_law_turns","_law_clauses","_law_literal"] gu):FnOk P w K mg base cA 3 f fd ["_law_sentence_here","_law_step"] iQ:=
 FnOk.or (qY F T G1 G2 G3 G4 G5 G6) (pS F T G1 G7 G3 G4 G8 G6)
theorem se:aF ["_law_script","_law_sentence_here","_law_some","_law_k","_law_step","_law_due"] ["_law_script"] (ap mZ):=⟨rfl,rfl,rfl,by decide+kernel,rfl,by decide+kernel,by decide+kernel⟩
theorem tQ {f f1 f2 f3 f4 f5:Addr}{fd d1 d2 d3 d4 d5:FuncData}(F:Fun K "law" "law" mZ f fd)(T:kF mg)(G_law_sentence:Fn P w K mg base 2 "_law_sentence" f1 d1 ["_law_script","_law_most"] (ox K))(G_law_cell_at:Fn P w K mg base 1 "_law_cell_at" f2 d2 ["_law_script","_law_k"] (iz K))(G_law_odd:Fn P w K mg base 2 "_law_odd" f3 d3 ["_law_script","_law_sentence_here","_law_cell"] (pU K))
  (G_law_behind:Fn P w K mg base 3 "_law_behind" f4 d4 ["_law_sentence_here","_law_step"] iQ) (G_law_asked:Fn P w K mg base 8 "_law_asked" f5 d5 ["_law_sentence_here","_law_step","_law_back"] iM):FnOk P w K mg base cA 9 f fd ["_law_script"] (lX K):=by
 have sc:=se
 refine F.ok se (fun vs H Q E h=>?_) (fun cdv A outer s H vs Q E hr h=>?_)
 ·obtain⟨a,ns,rfl,_⟩:=h
  rfl
 obtain⟨a,ns,rfl,hS,hl,q⟩:=h
 have hu:=hr.units
 refine⟨_,(ag (aH (i:=1) sc.nd rfl (Or.inl rfl) (aC G_law_sentence hr (by omega) rfl (aa (pv 0) (aa af ac))))
  (ag (aH (i:=2) sc.nd rfl (Or.inl rfl) (aR (aa (bR (aa az (aa (ai aE rfl T.len PySem.boot_len (aa (ao ak (pv 1) af (fun _ _=>rfl)) ac)) ac))) (aa (bR (aa az (aa af ac))) (aa (bR (aa az (aa af (aa af ac)))) (aa (bR (aa az (aa (fm dm af) ac))) (aa (bR (aa az (aa af (aa af ac)))) ac)))))))
  (ag (cP PassesOwn.never rfl (eT rfl T.range (aa (av bu af (ai aE rfl T.len PySem.boot_len (aa (aX bn (pv 0) (bf af) (bf af)) ac))) ac)) (aA (i:=3) sc.nd rfl (Or.inl rfl))
   (ah (cY (fS PySem.F.plainAttrs_list PySem.F.slot_list_append PySem.F.type_list_append cJ (pv 2) (aa (aC G_law_odd hr (by omega) rfl (aa (pv 0) (aa (pv 1) (aa (aC G_law_cell_at hr (by omega) rfl (aa (pv 0) (aa (av bu af (pv 3)) ac))) ac)))) ac)))))
  (ag (cP PassesOwn.never rfl (bc (pv 2)) (aA (i:=4) sc.nd rfl (Or.inl rfl))
   (ag (aH (i:=5) sc.nd rfl (Or.inl rfl) (av bv (av bv (av bv (av nA (aR (aa cq ac)) af) (aR (aa cq ac))) (av nA (aR (aa cq ac)) af)) (aR (aa cq ac))))
   (ag (aJ (aj p_ (aC G_law_behind hr (by omega) rfl (aa (pv 1) (aa (pv 4) ac))) a_ (aq _)) (ah (aH (i:=5) sc.nd rfl (Or.inl rfl) (aR ac))) au)
   (ah (aJ (PW.pt (bK (aj (cR hu) (aC G_law_asked hr (by omega) rfl (aa (pv 1) (aa (pv 4) (aa cq ac)))) (pv 5) (aq _)) (bT (aj (cR hu) (aC G_law_asked hr (by omega) rfl (aa (pv 1) (aa (pv 4) (aa cq ac)))) (pv 5) (aq _))))) (ah (al cq)) au)))))
  (ah (al cq)))))),?_⟩
 refine⟨_,rfl,a,ns,8,rfl,hS,hl,(by decide),(by decide),fun p t cs H1 k1 hd ok c4=>?_⟩
 have htl:=ok.len
 have hmany:=ok.many
 have t8:t.length<=8:=by omega
 have hups:∀ c∈cs,Ups c:=fun c hc=>(jq (n:=0) (ok.cl c hc).1).1
 have hlit:∀ c∈cs,gj t.length c:=fun c hc l hl=>⟨(ok.cl c hc).pos l hl,(ok.cl c hc).2 l hl⟩
 obtain⟨pp,qa,zs,ep,h1,h2,h3⟩:=nV hd
 cases ep
 have S1:SentAt H1 p qa t zs cs:=⟨h1,h2,h3,by omega,by omega,hlit,fun c hc=>by have:=c4 c hc;omega⟩
 have hzl:=h3.length
 have hS1:=k1.seq hS
 refine⟨_,rfl,.inr (.inl ⟨p,_,1,.ref qa,rfl,rfl,SqT.of h1,rfl,.ref qa,_,rfl,.inl ⟨_,SqL.of h2,rfl⟩,(by show 2<=sizeLine;decide),fun b1 m1=>?_⟩)⟩
 have o1:lW [V.str (Str.ofString "drop"),V.int (zs.length:Nat)]:=mY ⟨rfl,by decide+kernel⟩ (cH _)
 have j1:=ae m1 (.tup [.str (Str.ofString "drop"),.int (zs.length:Nat)])
 have r1:upd H1 b1 (.tup [.str (Str.ofString "drop"),.int (zs.length:Nat)]) b1=some (.tup [.str (Str.ofString "drop"),.int (zs.length:Nat)]):=ad
 generalize upd H1 b1 (.tup [.str (Str.ofString "drop"),.int (zs.length:Nat)])=G1 at j1 r1 ⊢
 refine⟨(by show 2<=sizeLine;decide),fun b2 m2=>?_⟩
 have o2:lW [V.str (Str.ofString "pure"),V.int 0]:=mY ⟨rfl,by decide+kernel⟩ (cH _)
 have j2:=ae m2 (.tup [.str (Str.ofString "pure"),.int 0])
 have r2:upd G1 b2 (.tup [.str (Str.ofString "pure"),.int 0]) b2=some (.tup [.str (Str.ofString "pure"),.int 0]):=ad
 generalize upd G1 b2 (.tup [.str (Str.ofString "pure"),.int 0])=G2 at j2 r2 ⊢
 refine⟨(by show 3<=sizeLine;decide),fun b3 m3=>?_⟩
 have o3:lW [V.str (Str.ofString "within"),V.int 0,V.int 0]:=q_ ⟨rfl,by decide+kernel⟩ (cH _) (cH _)
 have j3:=ae m3 (.tup [.str (Str.ofString "within"),.int 0,.int 0])
 have r3:upd G2 b3 (.tup [.str (Str.ofString "within"),.int 0,.int 0]) b3=some (.tup [.str (Str.ofString "within"),.int 0,.int 0]):=ad
 generalize upd G2 b3 (.tup [.str (Str.ofString "within"),.int 0,.int 0])=G3 at j3 r3 ⊢
 refine⟨_,rfl,(by show 2<=sizeLine;decide),fun b4 m4=>?_⟩
 have o4:lW [V.str (Str.ofString "unit"),V.int (-1)]:=mY ⟨rfl,by decide+kernel⟩ (cH _)
 have j4:=ae m4 (.tup [.str (Str.ofString "unit"),.int (-1)])
 have r4:upd G3 b4 (.tup [.str (Str.ofString "unit"),.int (-1)]) b4=some (.tup [.str (Str.ofString "unit"),.int (-1)]):=ad
 generalize upd G3 b4 (.tup [.str (Str.ofString "unit"),.int (-1)])=G4 at j4 r4 ⊢
 refine⟨(by show 3<=sizeLine;decide),fun b5 m5=>?_⟩
 have o5:lW [V.str (Str.ofString "blocked"),V.int 0,V.int 0]:=q_ ⟨rfl,by decide+kernel⟩ (cH _) (cH _)
 have j5:=ae m5 (.tup [.str (Str.ofString "blocked"),.int 0,.int 0])
 have r5:upd G4 b5 (.tup [.str (Str.ofString "blocked"),.int 0,.int 0]) b5=some (.tup [.str (Str.ofString "blocked"),.int 0,.int 0]):=ad
 generalize upd G4 b5 (.tup [.str (Str.ofString "blocked"),.int 0,.int 0])=G5 at j5 r5 ⊢
 refine⟨(by show 5<=sizeLine;decide),fun L nL=>?_⟩
 have j45:=j4.trans j5
 have j35:=j3.trans j45
 have j25:=j2.trans j35
 have k15:=j1.trans j25
 have as5:Asks G5 [.ref b1,.ref b2,.ref b3,.ref b4,.ref b5]:=fun y hy=>by
  simp only [List.mem_cons,List.not_mem_nil,or_false] at hy
  rcases hy with rfl|rfl|rfl|rfl|rfl
  ·exact⟨_,_,rfl,j25 _ _ r1,o1⟩
  ·exact⟨_,_,rfl,j35 _ _ r2,o2⟩
  ·exact⟨_,_,rfl,j45 _ _ r3,o3⟩
  ·exact⟨_,_,rfl,j5 _ _ r4,o4⟩
  ·exact⟨_,_,rfl,r5,o5⟩
 have n1L:H1 L=none:=k15.free nL
 have kL:=ae nL (.lst [.ref b1,.ref b2,.ref b3,.ref b4,.ref b5])
 have sL:upd G5 L (.lst [.ref b1,.ref b2,.ref b3,.ref b4,.ref b5]) L=some (.lst [.ref b1,.ref b2,.ref b3,.ref b4,.ref b5]):=ad
 have as6:=as5.mono kL
 have k16:=k15.trans kL
 show gx _ _ _ _ (upd G5 L (.lst [.ref b1,.ref b2,.ref b3,.ref b4,.ref b5]))
 generalize upd G5 L (.lst [.ref b1,.ref b2,.ref b3,.ref b4,.ref b5])=G6 at kL sL as6 k16 ⊢
 clear j1 j2 j3 j4 j5 r1 r2 r3 r4 r5 o1 o2 o3 o4 o5 j45 j35 j25 as5 m1 m2 m3 m4 m5 nL kL k15
 refine⟨_,rfl,15,rfl,45,rfl,a,ns.map V.int,rfl,k16.seq hS1,fun l nl=>?_⟩
 have kl:=k16.trans (ae nl (.lst (cf (ns.map V.int) (some 15) (some 45))))
 have cl:(cf (ns.map V.int) (some 15) (some 45)).length<=63:=Nat.le_trans (ft _ _ _) (by rw[List.length_map];exact hl)
 have slL:=ae nl (.lst (cf (ns.map V.int) (some 15) (some 45))) _ _ sL
 have as7:=as6.mono (ae nl (.lst (cf (ns.map V.int) (some 15) (some 45))))
 refine⟨.ref l,_,rfl,.inl ⟨_,SqL.of ad,rfl⟩,_,_,rfl,rfl,_,rfl,(by omega),(by omega),gF (lo:=0) (n:=(1+(((cf (ns.map V.int) (some 15) (some 45)).length:Nat):Int)).toNat)
  (r9 a p L H1) ⟨none,_,rfl,kl,slL,rfl,as7⟩ ?_ ?_⟩
 ·rintro i σ H2 hi ⟨v3,ys,rfl,k2,hL2,hyl,as2⟩
  have S2:=S1.mono k2
  refine⟨_,rfl,.inl ⟨rfl,_,SqL.of hL2⟩,_,rfl,_,rfl,_,rfl,_,rfl,_,_,rfl,rfl,a,ns,15+(0+(i:Int)),rfl,k2.seq hS1,(by omega),?_⟩
  refine⟨a,p,qa,ns,t,zs,_,rfl,k2.seq hS1,S2.hp,S2.hq,(by omega),(by omega),fun b us H3 k3 hb ob=>?_⟩
  have hL3:=k3 _ _ hL2
  refine⟨L,_,_,rfl,rfl,hL3,aB (by omega),?_⟩
  refine⟨_,ys++[.ref b],rfl,(k2.trans k3).upd_new n1L _,ad,by rw[List.length_append,hyl];rfl,?_⟩
  exact (((as2.mono k3).snoc hb ob).put hL3 _)
 ·rintro σ H2 ⟨v3,ys,rfl,k2,hL2,hyl,as2⟩
  have S2:=S1.mono k2
  refine⟨_,rfl,L,rfl,⟨_,SqL.of hL2⟩,dk (K:=K) (a:=L) (xs:=ys) (r_ a p L v3 H2) ⟨none,none,rfl,Same.refl _⟩ ?_ ?_ ?_⟩
  ·rintro i σ H3 _ ⟨_,_,_,k⟩
   exact SqL.of (k _ _ hL2)
  ·rintro i y σ H3 hy ⟨v4,v5,rfl,k3⟩
   obtain⟨b,us,rfl,hb,okz⟩:=as2 y (List.mem_of_getElem? hy)
   have hb3:=k3 _ _ hb
   refine c_ ?_
   refine⟨(by show 1<=sizeLine;decide),fun a1 n1=>?_⟩
   have j1:=ae n1 (.lst [.bl false])
   refine⟨a1,5,_,rfl,rfl,ad,by decide,by decide,(by show 5<=sizeLine;decide),fun a2 n2=>?_⟩
   have j2:=ae n2 (.lst (List.replicate 5 [V.bl false]).flatten)
   refine⟨(by show 1<=sizeLine;decide),fun a3 n3=>?_⟩
   have j3:=ae n3 (.lst [.bl true])
   refine⟨a2,a3,_,_,rfl,rfl,j3 _ _ ad,ad,(by show 6<=sizeLine;decide),fun a4 n4=>?_⟩
   have j4:=ae n4 (.lst ((List.replicate 5 [V.bl false]).flatten++[V.bl true]))
   refine⟨(by show 1<=sizeLine;decide),fun a5 n5=>?_⟩
   have j5:=ae n5 (.lst [.bl false])
   refine⟨a5,3,_,rfl,rfl,ad,by decide,by decide,(by show 3<=sizeLine;decide),fun a6 n6=>?_⟩
   have j6:=ae n6 (.lst (List.replicate 3 [V.bl false]).flatten)
   refine⟨a4,a6,_,_,rfl,rfl,j6 _ _ (j5 _ _ ad),ad,(by show 9<=sizeLine;decide),fun a7 n7=>?_⟩
   have j7:=ae n7 (.lst ((List.replicate 5 [V.bl false]).flatten++[V.bl true]++(List.replicate 3 [V.bl false]).flatten))
   refine⟨(by show 1<=sizeLine;decide),fun a8 n8=>?_⟩
   have j8:=ae n8 (.lst [.bl true])
   refine⟨a7,a8,_,_,rfl,rfl,j8 _ _ ad,ad,(by show 10<=sizeLine;decide),fun a9 n9=>?_⟩
   have j9:=ae n9 (.lst ((List.replicate 5 [V.bl false]).flatten++[V.bl true]++(List.replicate 3 [V.bl false]).flatten++[V.bl true]))
   have kk:=j1.trans (j2.trans (j3.trans (j4.trans (j5.trans (j6.trans (j7.trans (j8.trans j9)))))))
   have s9:upd _ a9 (.lst ((List.replicate 5 [V.bl false]).flatten++[V.bl true]++(List.replicate 3 [V.bl false]).flatten++[V.bl true])) a9=some (.lst (kindsB.map V.bl)):=ad (H:=upd (upd (upd (upd (upd (upd (upd (upd H3 a1 (.lst [.bl false])) a2 (.lst (List.replicate 5 [V.bl false]).flatten)) a3 (.lst [.bl true])) a4 (.lst ((List.replicate 5 [V.bl false]).flatten++[V.bl true]))) a5 (.lst [.bl false])) a6 (.lst (List.replicate 3 [V.bl false]).flatten)) a7 (.lst ((List.replicate 5 [V.bl false]).flatten++[V.bl true]++(List.replicate 3 [V.bl false]).flatten))) a8 (.lst [.bl true]))
   refine c_ ?_
   refine (show ∀ H4:Hp,Same H3 H4->H4 a9=some (.lst (kindsB.map V.bl))->gx _ _ _ _ H4 from fun H4 kk s9=>?_) _ kk s9
   clear j1 j2 j3 j4 j5 j6 j7 j8 j9 n1 n2 n3 n4 n5 n6 n7 n8 n9
   have k34:=k3.trans kk
   have S4:=S2.mono k34
   have Sl4:ClsAt H4 qa t zs cs:=⟨S4.hq,S4.hcs,S4.ht,S4.hn,S4.hok,S4.hc⟩
   have hb4:=kk _ _ hb3
   have hd4:∀ {H':Hp},Same H4 H'->RD H' (.tuple (us.map dV)) (.ref b):=fun k=>c6 (k _ _ hb4) (pN (jL okz))
   have hsh:=tO okz
   have us4:=okz.1
   generalize hdd:PyData.tuple (us.map dV)=d at hd4 hsh
   have beh:∀ R:VK,(∀ v' H',Same H4 H'->(ba t cs d=none->v'=.non)->(∀ ds,ba t cs d=some ds->∃ l,v'=.ref l)->R v' H')->iQ [.ref p,.ref b] H4 R E0:=fun R r=>by
    by_cases din:StepIn cs d
    ·exact .inl ⟨p,qa,t,zs,cs,_,d,rfl,S4.hp,Sl4,hups,hd4 (Same.refl _),din,fun v' H' k rc=>r v' H' k (fun e=>by rw[e] at rc;exact rc) (fun ds e=>by rw[e] at rc;obtain⟨l,xs,e',_⟩:=rc;exact⟨l,e'⟩)⟩
    ·have en:ba t cs d=none:=by
      cases e:ba t cs d with
      |none=>rfl
      |some ds=>exact absurd (pO e) din
     exact .inr ⟨p,qa,b,t,zs,us,cs,rfl,S4.hp,Sl4,hb4,(by omega),jL okz,by rw[hdd];exact din,fun H' k=>r _ _ k (fun _=>rfl) (fun ds e=>by rw[en] at e;cases e)⟩
   have ask:∀ (H':Hp) (bk:Bool) (R:VK),Same H4 H'->(∀ l H'',Same H' H''->H'' l=some (.lst ((u0 (ba t cs d)).map V.bl))->R (.ref l) H'')->iM [.ref p,.ref b,.bl bk] H' R E0:=fun H' bk R k r=>
    ⟨p,qa,b,t,zs,us,cs,d,bk,rfl,S4.mono k,hups,hd4 k,hsh,k _ _ hb4,(by omega),r⟩
   refine⟨_,rfl,_,rfl,beh _ fun v' H5 k5 r1 r2=>⟨rfl,_,rfl,?_⟩⟩
   cases e:ba t cs d with
   |none=>
    rw[r1 e,show decide (V.non=V.non)=true from decide_eq_true rfl]
    refine ax ?_
    refine⟨_,rfl,_,rfl,ask _ _ _ k5 fun l1 H6 k6 hl1=>?_⟩
    rw[e] at hl1
    refine⟨_,rfl,eD (cw hl1 (cF kindsB)) (cw (k6 _ _ (k5 _ _ s9)) (cF kindsB)) (c9 kindsB) ⟨false,rfl,ax ?_⟩⟩
    refine⟨_,rfl,_,rfl,ask _ _ _ (k5.trans k6) fun l2 H7 k7 hl2=>?_⟩
    rw[e] at hl2
    refine⟨_,rfl,eD (cw hl2 (cF kindsB)) (cw (k7 _ _ (k6 _ _ (k5 _ _ s9))) (cF kindsB)) (c9 kindsB) ⟨false,rfl,ax ?_⟩⟩
    exact⟨_,_,rfl,k34.trans (k5.trans (k6.trans k7))⟩
   |some ds=>
    obtain⟨lr,rfl⟩:=r2 ds e
    rw[show decide (V.ref lr=V.non)=false from decide_eq_false fun z=>by cases z]
    refine aK ⟨Nat.zero_le _,fun dl ndl=>c_ ?_⟩
    have kd:=ae ndl (.lst [])
    have sd:upd H5 dl (.lst []) dl=some (.lst ([].map V.bl)):=ad
    generalize upd H5 dl (.lst [])=H6 at kd sd ⊢
    refine⟨_,rfl,_,rfl,ask _ _ _ (k5.trans kd) fun l1 H7 k7 hl1=>?_⟩
    rw[e] at hl1
    refine⟨_,rfl,eD (cw hl1 (cF [])) (cw (k7 _ _ sd) (cF [])) (c9 []) ⟨false,rfl,ax ?_⟩⟩
    refine⟨_,rfl,_,rfl,ask _ _ _ (k5.trans (kd.trans k7)) fun l2 H8 k8 hl2=>?_⟩
    rw[e] at hl2
    refine⟨_,rfl,eD (cw hl2 (cF [])) (cw (k8 _ _ (k7 _ _ sd)) (cF [])) (c9 []) ⟨false,rfl,ax ?_⟩⟩
    exact⟨_,_,rfl,k34.trans (k5.trans (kd.trans (k7.trans k8)))⟩
  ·rintro σ H3 ⟨_,_,rfl,k3⟩
   exact q _
end
end K62
namespace K62
open PySem L2 OD
theorem all_mk {l:PySem.W.OpenLaw}{w:World}{K:PySem.W.Frag}{h:Heap}{mg:Str->Option Value}{fa f1 f2 f3 f4 f5 f6 f7 f8 f9 f10 f11 f12 f13 f14 f15 f16 f17 f18 f19 f20 f21 f22 f23 f24 f25 f26 f28 f29 f30 f31 f32 f33 f34 f35 f36 f38 f40 f41 f42 f43:Addr}{e1 e2 e3 e4 e5 e6 e7 e8 e9 e10 e11 e12 e13 e14 e15 e16 e17 e18 e19 e20 e21 e22 e23 e24 e25 e26 e28 e29 e30 e31 e32 e33 e34 e35 e36 e38 e40 e41 e42 e43:FuncData}(X:K.In h)(G:h.Ns mainGlobals mg)(hfa:mg "law"=some (.ref fa))
  {CD CB C1 C2 C3 C4 C5 C7 C8 C9 CP CL:Addr}
  {cdB:ClassData}
  (a1:PySem.W.nsIn K mainGlobals "is_number"=some (some (.ref f1))) (F1:Fun K "is_number" "is_number" oC f1 e1)
  (a2:PySem.W.nsIn K mainGlobals "is_place"=some (some (.ref f2))) (F2:Fun K "is_place" "is_place" iB f2 e2)
  (a3:PySem.W.nsIn K mainGlobals "begins_with"=some (some (.ref f3))) (F3:Fun K "begins_with" "begins_with" tz f3 e3)
  (a4:PySem.W.nsIn K mainGlobals "hand_of"=some (some (.ref f4))) (F4:Fun K "hand_of" "hand_of" iA f4 e4)
  (a5:PySem.W.nsIn K mainGlobals "other_hand"=some (some (.ref f5))) (F5:Fun K "other_hand" "other_hand" kt f5 e5)
  (a6:PySem.W.nsIn K mainGlobals "variables_of"=some (some (.ref f6))) (F6:Fun K "variables_of" "variables_of" oX f6 e6)
  (a7:PySem.W.nsIn K mainGlobals "dropped"=some (some (.ref f7))) (F7:Fun K "dropped" "dropped" gl f7 e7)
  (a8:PySem.W.nsIn K mainGlobals "clauses_behind"=some (some (.ref f8))) (F8:Fun K "clauses_behind" "clauses_behind" iG f8 e8)
  (a9:PySem.W.nsIn K mainGlobals "is_of"=some (some (.ref f9))) (F9:Fun K "is_of" "is_of" oF f9 e9)
  (a10:PySem.W.nsIn K mainGlobals "is_unit"=some (some (.ref f10))) (F10:Fun K "is_unit" "is_unit" iC f10 e10)
  (a11:PySem.W.nsIn K mainGlobals "holds_all"=some (some (.ref f11))) (F11:Fun K "holds_all" "holds_all" kg f11 e11)
  (a12:PySem.W.nsIn K mainGlobals "has_other_way"=some (some (.ref f12))) (F12:Fun K "has_other_way" "has_other_way" iD f12 e12)
  (a13:PySem.W.nsIn K mainGlobals "is_blocked"=some (some (.ref f13))) (F13:Fun K "is_blocked" "is_blocked" oG f13 e13)
  (a14:PySem.W.nsIn K mainGlobals "behind_drop"=some (some (.ref f14))) (F14:Fun K "behind_drop" "behind_drop" kh f14 e14)
  (a15:PySem.W.nsIn K mainGlobals "behind_unit"=some (some (.ref f15))) (F15:Fun K "behind_unit" "behind_unit" ki f15 e15)
  (a16:PySem.W.nsIn K mainGlobals "behind_within"=some (some (.ref f16))) (F16:Fun K "behind_within" "behind_within" kn f16 e16)
  (a17:PySem.W.nsIn K mainGlobals "behind_pure"=some (some (.ref f17))) (F17:Fun K "behind_pure" "behind_pure" kj f17 e17)
  (a18:PySem.W.nsIn K mainGlobals "behind_blocked"=some (some (.ref f18))) (F18:Fun K "behind_blocked" "behind_blocked" tF f18 e18)
  (a19:PySem.W.nsIn K mainGlobals "clauses_after"=some (some (.ref f19))) (F19:Fun K "clauses_after" "clauses_after" ko f19 e19)
  (a20:PySem.W.nsIn K mainGlobals "smaller_by"=some (some (.ref f20))) (F20:Fun K "smaller_by" "smaller_by" kq f20 e20)
  (a21:PySem.W.findIn K (.ref CP) "__init__"=some (some (.ref f21))) (i21:PySem.W.isFn K (.ref f21)=true) (F21:Fun K "__init__" "Planned.__init__" pC f21 e21)
  (a22:PySem.W.nsIn K mainGlobals "own_values"=some (some (.ref f22))) (F22:Fun K "own_values" "own_values" py f22 e22)
  (a23:PySem.W.findIn K (.ref CL) "__init__"=some (some (.ref f23))) (i23:PySem.W.isFn K (.ref f23)=true) (F23:Fun K "__init__" "LedBack.__init__" pB f23 e23)
  (a24:PySem.W.nsIn K mainGlobals "player_back"=some (some (.ref f24))) (F24:Fun K "player_back" "player_back" kK f24 e24)
  (a25:PySem.W.nsIn K mainGlobals "_law_cell_at"=some (some (.ref f25))) (F25:Fun K "_law_cell_at" "_law_cell_at" oo f25 e25)
  (a26:PySem.W.nsIn K mainGlobals "_law_kinds"=some (some (.ref f26))) (F26:Fun K "_law_kinds" "_law_kinds" iK f26 e26)
  (a28:PySem.W.nsIn K mainGlobals "_law_mix"=some (some (.ref f28))) (F28:Fun K "_law_mix" "_law_mix" tj f28 e28)
  (a29:PySem.W.nsIn K mainGlobals "_law_drawn"=some (some (.ref f29))) (F29:Fun K "_law_drawn" "_law_drawn" kb f29 e29)
  (a30:PySem.W.nsIn K mainGlobals "_law_sentence"=some (some (.ref f30))) (F30:Fun K "_law_sentence" "_law_sentence" oq f30 e30)
  (a31:PySem.W.nsIn K mainGlobals "_law_own"=some (some (.ref f31))) (F31:Fun K "_law_own" "_law_own" tH f31 e31)
  (a32:PySem.W.nsIn K mainGlobals "_law_dropped"=some (some (.ref f32))) (F32:Fun K "_law_dropped" "_law_dropped" kC f32 e32)
  (a33:PySem.W.nsIn K mainGlobals "_law_number"=some (some (.ref f33))) (F33:Fun K "_law_number" "_law_number" o7 f33 e33)
  (a34:PySem.W.nsIn K mainGlobals "_law_ahead"=some (some (.ref f34))) (F34:Fun K "_law_ahead" "_law_ahead" kE f34 e34)
  (a35:PySem.W.nsIn K mainGlobals "_law_stand"=some (some (.ref f35))) (F35:Fun K "_law_stand" "_law_stand" kG f35 e35)
  (a36:PySem.W.nsIn K mainGlobals "_law_pure"=some (some (.ref f36))) (F36:Fun K "_law_pure" "_law_pure" iH f36 e36)
  (a38:PySem.W.nsIn K mainGlobals "_law_blocked"=some (some (.ref f38))) (F38:Fun K "_law_blocked" "_law_blocked" fK f38 e38)
  (a40:PySem.W.nsIn K mainGlobals "_law_behind"=some (some (.ref f40))) (F40:Fun K "_law_behind" "_law_behind" jH f40 e40)
  (a41:PySem.W.nsIn K mainGlobals "_law_asked"=some (some (.ref f41))) (F41:Fun K "_law_asked" "_law_asked" kO f41 e41)
  (a42:PySem.W.nsIn K mainGlobals "_law_odd"=some (some (.ref f42))) (F42:Fun K "_law_odd" "_law_odd" tN f42 e42)
  (a43:PySem.W.nsIn K mainGlobals "law"=some (some (.ref f43))) (F43:Fun K "law" "law" mZ f43 e43)
  (z0:PySem.W.nsIn K mainGlobals "len"=some none)
  (z1:PySem.W.nsIn K mainGlobals "range"=some none)
  (z2:PySem.W.nsIn K mainGlobals "tuple"=some none)
  (z3:PySem.W.nsIn K mainGlobals "sorted"=some none)
  (z4:PySem.W.nsIn K mainGlobals "isinstance"=some none)
  (z5:PySem.W.nsIn K mainGlobals "int"=some none)
  (z6:PySem.W.nsIn K mainGlobals "bool"=some none)
  (z7:PySem.W.nsIn K mainGlobals "list"=some none)
  (z8:PySem.W.nsIn K mainGlobals "all"=some none)
  (z9:PySem.W.nsIn K mainGlobals "enumerate"=some none)
  (z10:PySem.W.nsIn K mainGlobals "abs"=some none)
  (z11:PySem.W.nsIn K mainGlobals "any"=some none)
  (z12:PySem.W.nsIn K mainGlobals "max"=some none)
  (z13:PySem.W.nsIn K mainGlobals "dict"=some none)
  {tW tS:Tok} (zW:PySem.W.nsIn K mainGlobals "WISHER"=some (some (.str (Str.ofString "wisher") tW))) (zS:PySem.W.nsIn K mainGlobals "SPOILER"=some (some (.str (Str.ofString "spoiler") tS)))
  (yD:PySem.W.nsIn K mainGlobals "DuelError"=some (some (.ref CD)))
  (yC1:PySem.W.nsIn K mainGlobals "NoVariable"=some (some (.ref C1)))
  (yC2:PySem.W.nsIn K mainGlobals "NoFilling"=some (some (.ref C2)))
  (yC3:PySem.W.nsIn K mainGlobals "BadLine"=some (some (.ref C3)))
  (yC4:PySem.W.nsIn K mainGlobals "NotWhole"=some (some (.ref C4)))
  (yC5:PySem.W.nsIn K mainGlobals "NoHand"=some (some (.ref C5)))
  (yCB:PySem.W.nsIn K mainGlobals "BadStep"=some (some (.ref CB)))
  (yC7:PySem.W.nsIn K mainGlobals "NoForm"=some (some (.ref C7)))
  (yC8:PySem.W.nsIn K mainGlobals "TooMany"=some (some (.ref C8)))
  (yC9:PySem.W.nsIn K mainGlobals "NoText"=some (some (.ref C9)))
  (zV:PySem.W.nsIn K mainGlobals "ValueError"=some none)
  (xCB:PySem.W.excIn K CB [.type "ValueError",.type "Exception",.type "BaseException",.type "object"] "ValueError.__new__"=true)
  (xCD:PySem.W.excIn K CD [.type "ValueError",.type "Exception",.type "BaseException",.type "object"] "ValueError.__new__"=true)
  (qb:PySem.W.mroIn K CD (.type "BaseException")=some true)
  (ql:PySem.W.mroIn K CB (.ref CD)=some true)
  (kV:PySem.W.kitOne K (.ref CB) (.type "ValueError")=some true)
  (k_C1:PySem.W.kitOne K (.ref CB) (.ref C1)=some false)
  (k_C2:PySem.W.kitOne K (.ref CB) (.ref C2)=some false)
  (k_C3:PySem.W.kitOne K (.ref CB) (.ref C3)=some false)
  (k_C4:PySem.W.kitOne K (.ref CB) (.ref C4)=some false)
  (k_C5:PySem.W.kitOne K (.ref CB) (.ref C5)=some false)
  (k_C7:PySem.W.kitOne K (.ref CB) (.ref C7)=some false)
  (k_C8:PySem.W.kitOne K (.ref CB) (.ref C8)=some false)
  (k_C9:PySem.W.kitOne K (.ref CB) (.ref C9)=some false)
  (w1:PySem.W.clsIn K CB=some cdB)
  (w2:PySem.W.findIn K (.ref CB) "__getattribute__"=some (some (.builtin "BaseException.__getattribute__")))
  (w3:PySem.W.findIn K (.ref CB) "__getattr__"=some none)
  (w4:PySem.W.findIn K (.ref CB) "__class__"=some (some (.builtin "object.__class__")))
  (w5:PySem.W.mroIn K CB (.type "object")=some true)
  (w6:PySem.W.mroIn K CB (.type "BaseException")=some true)
  (CPy:PySem.W.nsIn K mainGlobals "Planned"=some (some (.ref CP)))
  (CLy:PySem.W.nsIn K mainGlobals "LedBack"=some (some (.ref CL)))
  (p1:PySem.W.plainGet K CP Str.empty=true)
  (p2:PySem.W.hasDictIn K CP=true)
  (p3:PySem.W.plainOver K CP=true)
  (p4:PySem.W.findIn K (.ref CP) "__setattr__"=some (some (.builtin "object.__setattr__")))
  (p5:PySem.W.findIn K (.ref CP) "entries"=some none)
  (p6:PySem.W.findIn K (.ref CP) "__class__"=some (some (.builtin "object.__class__")))
  (p7:PySem.W.specialIn K (.builtin "object.__class__") "__get__"=some (some (.builtin "getset_descriptor.__get__")))
  (p8:PySem.W.takesIn K (.builtin "object.__class__")=some true)
  (p9:PySem.W.mroIn K CP (.type "object")=some true)
  (pk:PySem.W.kitOne K (.ref CP) (.ref CL)=some false)
  (CPmk:PySem.W.makesIn K CP=true)
  (CPkc:PySem.W.keepIn K (.ref CP)=true)
  (l1:PySem.W.plainGet K CL Str.empty=true)
  (l2:PySem.W.hasDictIn K CL=true)
  (l3:PySem.W.plainOver K CL=true)
  (l4:PySem.W.findIn K (.ref CL) "__setattr__"=some (some (.builtin "object.__setattr__")))
  (l5:PySem.W.findIn K (.ref CL) "variables"=some none)
  (l6:PySem.W.findIn K (.ref CL) "innermost"=some none)
  (l7:PySem.W.findIn K (.ref CL) "layers"=some none)
  (CLmk:PySem.W.makesIn K CL=true)
  (CLkc:PySem.W.keepIn K (.ref CL)=true)
  :∃ fd:FuncData,(∀ (s:Shared) (v:Value),BindsTo s fd ⟨[v],[]⟩ [("_law_script",v)])/\∀ base:Heap,K.In base->base.Ns mainGlobals mg->FnOk l.prog w K mg base cA 9 fa fd ["_law_script"] (lX K):=by
 have e:=hfa.symm.trans (PySem.W.mg_of X G a43)
 cases e
 have TG:vc mg:=⟨PySem.W.mg_none_of X G z0,PySem.W.mg_none_of X G z1,PySem.W.mg_none_of X G z2,PySem.W.mg_none_of X G z3⟩
 have TH:vL mg:=⟨PySem.W.mg_none_of X G z0,⟨_,PySem.W.mg_of X G zW,⟨_,rfl⟩⟩,⟨_,PySem.W.mg_of X G zS,⟨_,rfl⟩⟩⟩
 have TP:vM mg:=⟨PySem.W.mg_none_of X G z4,PySem.W.mg_none_of X G z5,PySem.W.mg_none_of X G z6,PySem.W.mg_none_of X G z2,PySem.W.mg_none_of X G z7,PySem.W.mg_none_of X G z0,PySem.W.mg_none_of X G z8,PySem.W.mg_none_of X G z9⟩
 have TA:qJ mg:=⟨PySem.W.mg_none_of X G z10,PySem.W.mg_none_of X G z0,PySem.W.mg_none_of X G z11,⟨_,PySem.W.mg_of X G zW,⟨_,rfl⟩⟩,⟨_,PySem.W.mg_of X G zS,⟨_,rfl⟩⟩⟩
 have TV:vd mg:=⟨PySem.W.mg_none_of X G z10,PySem.W.mg_none_of X G z12,PySem.W.mg_none_of X G z2,PySem.W.mg_none_of X G z7,PySem.W.mg_none_of X G z0,PySem.W.mg_none_of X G z1⟩
 have TO:kF mg:=⟨PySem.W.mg_none_of X G z4,PySem.W.mg_none_of X G z5,PySem.W.mg_none_of X G z6,PySem.W.mg_none_of X G z2,PySem.W.mg_none_of X G z7,PySem.W.mg_none_of X G z10,PySem.W.mg_none_of X G z0,PySem.W.mg_none_of X G z12,PySem.W.mg_none_of X G z1⟩
 have TOV:uW mg:=⟨PySem.W.mg_none_of X G z10,PySem.W.mg_none_of X G z13,PySem.W.mg_none_of X G z2,⟨_,PySem.W.mg_of X G zW,⟨_,rfl⟩⟩,⟨_,PySem.W.mg_of X G zS,⟨_,rfl⟩⟩⟩
 have TL:tL K mg CP CL:=⟨TOV.dict,TO.isinstance,TOV.tuple,⟨p1,p2,p3,p4⟩,⟨l1,l2,l3,l4⟩,p5,l5,l6,l7,⟨_,PySem.W.mg_of X G CLy,rfl⟩,p6,p7,p8,p9,pk⟩
 have TE:wb K mg CB:=⟨PySem.W.mg_of X G yCB,xCB⟩
 have TS:u1 K mg CB CD:=⟨TO.len,PySem.W.mg_of X G yD,xCD,qb,ql⟩
 have TF:vN K mg CB C1 C2 C3 C4 C5 C7 C8 C9:=⟨TO.isinstance,PySem.W.mg_none_of X G zV,⟨_,PySem.W.mg_of X G yC1,rfl⟩,⟨_,PySem.W.mg_of X G yC2,rfl⟩,⟨_,PySem.W.mg_of X G yC3,rfl⟩,⟨_,PySem.W.mg_of X G yC4,rfl⟩,⟨_,PySem.W.mg_of X G yC5,rfl⟩,⟨_,PySem.W.mg_of X G yCB,rfl⟩,⟨_,PySem.W.mg_of X G yC7,rfl⟩,⟨_,PySem.W.mg_of X G yC8,rfl⟩,⟨_,PySem.W.mg_of X G yC9,rfl⟩,⟨⟨_,w1⟩,w2,w3,w4,w5,w6⟩,kV,k_C1,k_C2,k_C3,k_C4,k_C5,k_C7,k_C8,k_C9⟩
 obtain⟨_,_,kV,dc,pm,an,cd,ct,_,rfl,_,_⟩:=F43.ex
 refine⟨PySem.W.fnOf "law" "law" (cu mZ) (b9 mZ) (ap mZ) .none kV dc pm an cd ct,fun s v=>.of_eq rfl,fun base _ _=>?_⟩
 have G1:=di l.prog w base X G a1 F1 F1.b1 (qI F1 TP)
 have G2:=di l.prog w base X G a2 F2 F2.b2 (mL F2 G1)
 have G3:=di l.prog w base X G a3 F3 F3.b3 (tE F3 TP)
 have G4:=di l.prog w base X G a4 F4 F4.b2 (mK F4 TH)
 have G5:=di l.prog w base X G a5 F5 F5.b1 (oZ F5 TH)
 have G6:=di l.prog w base X G a6 F6 F6.b2 (qQ F6 TV G4)
 have G7:=di l.prog w base X G a7 F7 F7.b3 (kx F7 TV G5 G6)
 have G8:=di l.prog w base X G a8 F8 F8.b2 (mS F8 TV)
 have G9:=di l.prog w base X G a9 F9 F9.b3 (qK F9 TA G4)
 have G10:=di l.prog w base X G a10 F10 F10.b2 (mM F10 TA G9)
 have G11:=di l.prog w base X G a11 F11 F11.b2 (oN F11)
 have G12:=di l.prog w base X G a12 F12 F12.b3 (mO F12 TA)
 have G13:=di l.prog w base X G a13 F13 F13.b3 (qL F13 G12)
 have G14:=di l.prog w base X G a14 F14 F14.b2 (oP F14 TA G2 G7)
 have G15:=di l.prog w base X G a15 F15 F15.b2 (oQ F15 TA G2 G10 G8)
 have G16:=di l.prog w base X G a16 F16 F16.b3 (oR F16 TA G2 G11)
 have G17:=di l.prog w base X G a17 F17 F17.b2 (oS F17 TA G1 G9 G8)
 have G18:=di l.prog w base X G a18 F18 F18.b3 (tG F18 TA G2 G1 G9 G13)
 have G19:=di l.prog w base X G a19 F19 F19.b2 (oV F19 G3 G14 G15 G17 G16 G18)
 have G20:=uS l.prog w base X G a20 F20 F20.b2 (oW F20 TE G19)
 have G21:uR l.prog w K mg base _ "Planned" CP _ _ _ _:=⟨qV F21 TL,F21.b2,⟨CPmk,a21,i21,CPkc⟩,PySem.W.mg_of X G CPy⟩
 have G22:=di l.prog w base X G a22 F22 F22.b3 (qU F22 TOV G7 G9)
 have G23:uR l.prog w K mg base _ "LedBack" CL _ _ _ _:=⟨qW F23 TL G6 G22,F23.b5,⟨CLmk,a23,i23,CLkc⟩,PySem.W.mg_of X G CLy⟩
 have G24:=uS l.prog w base X G a24 F24 F24.b4 (pJ F24 G20 G23)
 have G25:=di l.prog w base X G a25 F25 F25.b2 (qE F25 TG)
 have G26:=di l.prog w base X G a26 F26 F26.b1 (pq F26 TF)
 have G27:=di l.prog w base X G a26 F26 F26.b1 (mV F26 TF)
 have G28:=di l.prog w base X G a28 F28 F28.b3 (tu F28)
 have G29:=di l.prog w base X G a29 F29 F29.b2 (oA F29 TG)
 have G30:=di l.prog w base X G a30 F30 F30.b2 (qH F30 TG G25 G28 G29)
 have G31:=di l.prog w base X G a31 F31 F31.b3 (tI F31 TO)
 have G32:=di l.prog w base X G a32 F32 F32.b3 (o_ F32 TO G31)
 have G33:=di l.prog w base X G a33 F33 F33.b1 (qT F33 TO)
 have G34:=di l.prog w base X G a34 F34 F34.b2 (pb F34 TO G33)
 have G35:=di l.prog w base X G a35 F35 F35.b2 (pf F35 TO)
 have G36:=di l.prog w base X G a36 F36 F36.b3 (pi F36 TO G33 G31)
 have G37:=di l.prog w base X G a36 F36 F36.b3 (mW F36 TO G33 G31)
 have G38:=di l.prog w base X G a38 F38 F38.b4 (mT F38 TO G33 G31)
 have G39:=di l.prog w base X G a38 F38 F38.b4 (kP F38 TO G33 G31)
 have G40:=di l.prog w base X G a40 F40 F40.b2 (pV F40 TO G34 G38 G32 G31 G36 G35 G39 G37)
 have G41:=di l.prog w base X G a41 F41 F41.b3 (pL F41 TS G21 G24 G20 G26 G27)
 have G42:=di l.prog w base X G a42 F42 F42.b3 (tP F42 TO G25)
 exact tQ F43 TO G30 G25 G42 G40 G41
theorem walk {l:PySem.W.OpenLaw}{q:Program}{loose:List Str}{XP:(Str->Option Value)->Heap->Prop}{YP:World->Heap->Prop}{d:DefRec}{K:Params->PySem.W.Frag}(hn:l.most=some 63)(hdf:d.params.defaults=[])
  (hY:∀ (w:World) (h:Heap),YP w h->(K w.params).In h)
  (F:∀ (w:World) (mg:Str->Option Value) (fa:Addr) (h:Heap),(K w.params).In h->h.Ns mainGlobals mg->mg d.name=some (.ref fa)->
   ∃ fd:FuncData,(∀ (s:Shared) (u:Value),BindsTo s fd ⟨[u],[]⟩ [("_law_script",u)])/\∀ base:Heap,(K w.params).In base->base.Ns mainGlobals mg->FnOk l.prog w (K w.params) mg base cA 9 fa fd ["_law_script"] (lX (K w.params))):
  PySem.W.WalkO q loose XP YP l.row.toRowW d [] (fun f vs=>PySem.call f vs):=
 L2.walk_of (n:=63) (k:=9) (x:="_law_script") (CX:=fun _=>cA) (sp:=fun w=>lX (K w.params)) hn (by decide) hdf ⟨rfl,by decide,by decide⟩ hY F (fun _ _ a ns hl _ hS=>⟨a,ns,rfl,hS,hl,fun _=>rfl⟩) fun _ _ _ _ _ z=>z
end K62
open PySem PySem.W PySem.Calls PyProof.Rows
set_option maxRecDepth 100000
set_option maxHeartbeats 0
noncomputable def K62.vQ:Program:=view PySem.Challenge.pw_oathduel_k62_bad_steps [0,2,3,4,5,6,7,8,9,10,11,13,14,15,17,18,19,20,21,23,24,26,27,29,30,31,32,33,34,35,36,37,38,39,40,41,42,43,45,46,47,48,49,50,51,52,53,54,55,56,57,58,59,60,61]
theorem K62.said:OpenLaw.wellSaid PySem.Challenge.rw_oathduel_k62_bad_steps=true:=(congrFun Fast.te9446332074065402090 PySem.Challenge.rw_oathduel_k62_bad_steps).trans (by kernel_rfl)
theorem K62.seen (w:World)(os:OsState):HD.lookAt PySem.Challenge.pw_oathduel_k62_bad_steps 11 (some (.ref 6)) 4214 w os (HD.seenAt PySem.Challenge.pw_oathduel_k62_bad_steps K62.vQ [] (fun s=>xlAt K62.vQ [] s&&recOk [] s) true w)=some (true,openGood K62.vQ []):=by kernel_rfl
local macro_rules|`(tactic|o_head $H)=>`(tactic|refine HD.head (q:=K62.vQ) (loose:=[]) (lv:=[]) $H (N:=8428) (HD.left (by kernel_rfl) (fun s=>by kernel_rfl) (by kernel_rfl) (by kernel_rfl) (fun w=>by kernel_rfl) K62.seen (fun w os=>by kernel_rfl)) (by rfl) (by rfl) (by rfl) (by rfl) (by assumption) (by decide+kernel) ⟨rfl,rfl,rfl,rfl,rfl,by decide+kernel⟩ ?hw ?hc)
theorem PySem.Challenge.cw_oathduel_k62_bad_steps_holds : PySem.Challenge.rw_oathduel_k62_bad_steps.Holds := by
 w_on
 refine holds_law K62.said fun said=>?_
 k_head
 (case hw=>w_witness2)
 k_fill
 refine K62.walk (l:=PySem.Challenge.rw_oathduel_k62_bad_steps) rfl rfl (fun w h Y=>PySem.W.kIn_of Y) ?F
 case F=>
  intro w mg fa h KX G hmg
  refine' K62.all_mk KX G hmg ?a1 ?F1 ?a2 ?F2 ?a3 ?F3 ?a4 ?F4 ?a5 ?F5 ?a6 ?F6 ?a7 ?F7 ?a8 ?F8 ?a9 ?F9 ?a10 ?F10 ?a11 ?F11 ?a12 ?F12 ?a13 ?F13 ?a14 ?F14 ?a15 ?F15 ?a16 ?F16 ?a17 ?F17 ?a18 ?F18 ?a19 ?F19 ?a20 ?F20 ?a21 ?i21 ?F21 ?a22 ?F22 ?a23 ?i23 ?F23 ?a24 ?F24 ?a25 ?F25 ?a26 ?F26 ?a28 ?F28 ?a29 ?F29 ?a30 ?F30 ?a31 ?F31 ?a32 ?F32 ?a33 ?F33 ?a34 ?F34 ?a35 ?F35 ?a36 ?F36 ?a38 ?F38 ?a40 ?F40 ?a41 ?F41 ?a42 ?F42 ?a43 ?F43 ?z0 ?z1 ?z2 ?z3 ?z4 ?z5 ?z6 ?z7 ?z8 ?z9 ?z10 ?z11 ?z12 ?z13 ?zW ?zS ?yD ?yC1 ?yC2 ?yC3 ?yC4 ?yC5 ?yCB ?yC7 ?yC8 ?yC9 ?zV ?xCB ?xCD ?qb ?ql ?kV ?k_C1 ?k_C2 ?k_C3 ?k_C4 ?k_C5 ?k_C7 ?k_C8 ?k_C9 ?w1 ?w2 ?w3 ?w4 ?w5 ?w6 ?CPy ?CLy ?p1 ?p2 ?p3 ?p4 ?p5 ?p6 ?p7 ?p8 ?p9 ?pk ?CPmk ?CPkc ?l1 ?l2 ?l3 ?l4 ?l5 ?l6 ?l7 ?CLmk ?CLkc
  (case yD|yC1|yC2|yC3|yC4|yC5|yCB|yC7|yC8|yC9|zV|CPy|CLy|a1|a2|a3|a4|a5|a6|a7|a8|a9|a10|a11|a12|a13|a14|a15|a16|a17|a18|a19|a20|a21|a22|a23|a24|a25|a26|a28|a29|a30|a31|a32|a33|a34|a35|a36|a38|a40|a41|a42|a43|i21|i23|z0|z1|z2|z3|z4|z5|z6|z7|z8|z9|z10|z11|z12|z13|zW|zS=>k_is)
  (case F1|F2|F3|F4|F5|F6|F7|F8|F9|F10|F11|F12|F13|F14|F15|F16|F17|F18|F19|F20|F21|F22|F23|F24|F25|F26|F28|F29|F30|F31|F32|F33|F34|F35|F36|F38|F40|F41|F42|F43=>refine' L2.fun_mk ?l ?c ?k;(case l=>k_is);(case c=>k_is);(case k=>k_is))
  (case xCB=>k_exc)
  (case xCD=>k_exc)
  (case qb=>k_is)
  (case ql=>k_is)
  (case kV=>kit_is)
  (case k_C1=>kit_is)
  (case k_C2=>kit_is)
  (case k_C3=>kit_is)
  (case k_C4=>kit_is)
  (case k_C5=>kit_is)
  (case k_C7=>kit_is)
  (case k_C8=>kit_is)
  (case k_C9=>kit_is)
  (case w1=>k_is)
  (case w2=>k_is)
  (case w3=>k_is)
  (case w4=>k_is)
  (case w5=>k_is)
  (case w6=>k_is)
  (case p1=>k_is)
  (case p2=>k_is)
  (case p3=>k_is)
  (case p4=>k_is)
  (case p5=>k_is)
  (case p6=>k_is)
  (case p7=>k_is)
  (case p8=>k_is)
  (case p9=>k_is)
  (case pk=>kit_is)
  (case CPmk=>k_is)
  (case CPkc=>k_is)
  (case l1=>k_is)
  (case l2=>k_is)
  (case l3=>k_is)
  (case l4=>k_is)
  (case l5=>k_is)
  (case l6=>k_is)
  (case l7=>k_is)
  (case CLmk=>k_is)
  (case CLkc=>k_is)
