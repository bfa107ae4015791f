import PyProof.Rows.All
import Wide.All
import OpenK.AllK
import Wide.FinOn
import PyProof.EqAt
import PyProof.EqKinds
import PyProof.TupleCall
import KE.BitLaws
import PyProof.Rows.SortShellAny
import Open.SpecLaws
import KE.OsHead
import KE.OsGo
import PySem.Challenge.RW_whenstated_s01_answers
set_option Elab.async false
set_option linter.all false
set_option maxRecDepth 100000
set_option maxHeartbeats 4000000
theorem zl0:0<=PySem.sizeLine:=by decide
theorem zl1:1<=PySem.sizeLine:=by decide
theorem zl2:2<=PySem.sizeLine:=by decide
theorem zl3:3<=PySem.sizeLine:=by decide
theorem zl6:6<=PySem.sizeLine:=by decide
open List (length_map mem_of_getElem? length_cons mem_cons length_append length_take take_length map_append getElem?_eq_getElem mem_cons_of_mem length_eq_zero_iff map_cons getElem?_map getD_eq_getElem?_getD length_filter_le size_toArray mem_append mem_map mem_filter all_eq_true any_eq_true length_set length_replicate take_append_drop map_map append_nil append_assoc mem_singleton)
namespace L2
open PySem PySem.Spec PyProof.Rows
abbrev Key:=Sum Int Str
def ur:Key->Value->Bool
 | .inl k,v=>Value.isInt k v
 | .inr x,v=>Value.isStrOf x v
def keyH (w:World):Key->Int
 | .inl k=>hashInt k
 | .inr x=>hashStr w x
theorem gd:∀{k:Key} {v:Value},ur k v=true->(∃i t,k=Sum.inl i/\v=Value.int i t)\/(∃x t,k=Sum.inr x/\v=Value.str x t)
 | .inl i,v,h=>by
  obtain⟨t,e⟩:=Value.isInt_shape (k:=i) (v:=v) h
  exact .inl ⟨i,t,rfl,e⟩
 | .inr x,v,h=>by
  obtain⟨t,e⟩:=Value.isStrOf_shape (x:=x) (v:=v) h
  exact .inr ⟨x,t,rfl,e⟩
theorem Mg (i:Int) (t:Tok):ur (.inl i) (.int i t)=true:=by simp[ur,Value.isInt]
theorem Mh (x:Str) (t:Tok):ur (.inr x) (.str x t)=true:=by simp[ur,Value.isStrOf]
theorem R9 (a b:Int):decide ((Sum.inl a:Key)=Sum.inl b)=(a==b):=by
 by_cases e:a=b
 ·subst e;simp
 ·have h:¬(Sum.inl a:Key)=Sum.inl b:=fun q=>e (Sum.inl.inj q)
  rw[decide_eq_false h]
  exact(beq_eq_false_iff_ne.mpr e).symm
theorem R_ (a b:Str):decide ((Sum.inr a:Key)=Sum.inr b)=decide (a=b):=by
 by_cases e:a=b
 ·subst e;simp
 ·have h:¬(Sum.inr a:Key)=Sum.inr b:=fun q=>e (Sum.inr.inj q)
  rw[decide_eq_false h,decide_eq_false e]
theorem Sa (a:Int) (b:Str):decide ((Sum.inl a:Key)=Sum.inr b)=false:=decide_eq_false (fun q=>nomatch q)
theorem Sb (a:Str) (b:Int):decide ((Sum.inr a:Key)=Sum.inl b)=false:=decide_eq_false (fun q=>nomatch q)
def eh (prog:Program) (w:World):PySem.KeyKind prog w Key where
 is:=ur
 hash:=keyH w
 inj:=fun v a b ha hb=>by
  rcases gd ha with ⟨i,t,rfl,rfl⟩|⟨x,t,rfl,rfl⟩
  ·rcases gd hb with ⟨j,u,rfl,e⟩|⟨y,u,rfl,e⟩
   ·injection e with e1 _;rw[e1]
   ·exact nomatch e
  ·rcases gd hb with ⟨j,u,rfl,e⟩|⟨y,u,rfl,e⟩
   ·exact nomatch e
   ·injection e with e1 _;rw[e1]
 byValue:=fun k v h=>by
  rcases gd h with ⟨i,t,rfl,rfl⟩|⟨x,t,rfl,rfl⟩ <;> rfl
 pyHash:=fun hv h=>by
  rcases gd hv with ⟨i,t,rfl,rfl⟩|⟨x,t,rfl,rfl⟩
  ·exact wpAny_pyHash_int h
  ·exact wpAny_pyHash_str h
 eqBool:=fun hu hv h=>by
  rcases gd hu with ⟨i,t,rfl,rfl⟩|⟨x,t,rfl,rfl⟩
  ·rcases gd hv with ⟨j,u,rfl,rfl⟩|⟨y,u,rfl,rfl⟩
   ·rw[R9] at h;exact wpAny_eqBool_int h
   ·rw[Sa] at h;exact SeqAt.EqAt.int_str i t y u _ _ _ _ h
  ·rcases gd hv with ⟨j,u,rfl,rfl⟩|⟨y,u,rfl,rfl⟩
   ·rw[Sb] at h;exact SeqAt.EqAt.str_int x t j u _ _ _ _ h
   ·rw[R_] at h;exact wpAny_eqBool_str h
 «strs»:=fun k x t v h=>by
  rcases gd h with ⟨i,u,rfl,e⟩|⟨y,u,rfl,e⟩
  ·exact nomatch e
  ·injection e with e1 _
   subst e1
   cases v <;> rfl
theorem Ju (prog:Program) (w:World) (i:Int) (t:Tok):(eh prog w).is (.inl i) (.int i t)=true:=Mg i t
theorem Jv (prog:Program) (w:World) (x:Str) (t:Tok):(eh prog w).is (.inr x) (.str x t)=true:=Mh x t
inductive V where
 | bE | bl (b:Bool) | int (i:Int) | str (x:Str) | sF (b:Array UInt8) | Mi (b:UInt64) | ref (a:Addr) | ty (n:String)
 deriving DecidableEq
def RelV:V->Value->Prop
 | .bE,u=>u=Value.none
 | .bl b,u=>u=Value.bool b
 | .int i,u=>∃t,u=Value.int i t
 | .str x,u=>∃t,u=Value.str x t
 | .sF b,u=>∃t,u=Value.bytes b t
 | .Mi b,u=>∃t,u=Value.float b t
 | .ref a,u=>u=Value.ref a
 | .ty n,u=>u=Value.type n
abbrev Vals:List V->List Value->Prop:=Paired RelV
theorem Vals.length {xs:List V} {us:List Value} (r:Vals xs us):xs.length=us.length:=Paired.length r
theorem Vals.get:∀{xs:List V} {us:List Value} {i:Nat} {x:V},Vals xs us->xs[i]?=some x->∃u,us[i]?=some u/\RelV x u
 | _,_,_,_,.nil,e=>by simp at e
 | _,_,0,_,.cons r _,e=>by simp at e;subst e;exact⟨_,rfl,r⟩
 | _,_,i+1,x,.cons _ t,e=>by
  obtain⟨u,h1,h2⟩:=Vals.get (i:=i) (x:=x) t (by simpa using e)
  exact⟨u,by simpa using h1,h2⟩
theorem Vals.set {x:V} {u:Value} (r:RelV x u):∀{xs:List V} {us:List Value} (i:Nat),Vals xs us->Vals (xs.set i x) (us.set i u)
 | _,_,_,.nil=>.nil
 | _,_,0,.cons _ t=>.cons r t
 | _,_,i+1,.cons q t=>.cons q (Vals.set r i t)
theorem Vals.append:∀{xs ys:List V} {us ws:List Value},Vals xs us->Vals ys ws->Vals (xs++ys) (us++ws)
 | _,_,_,_,.nil,s=>s
 | _,_,_,_,.cons r t,s=>.cons r (Vals.append t s)
theorem Vals.take:∀{xs:List V} {us:List Value} (n:Nat),Vals xs us->Vals (xs.take n) (us.take n)
 | _,_,0,_=>.nil
 | _,_,_+1,.nil=>.nil
 | _,_,n+1,.cons r t=>.cons r (Vals.take n t)
theorem Vals.drop:∀{xs:List V} {us:List Value} (n:Nat),Vals xs us->Vals (xs.drop n) (us.drop n)
 | _,_,0,r=>r
 | _,_,_+1,.nil=>.nil
 | _,_,n+1,.cons _ t=>Vals.drop n t
def ng:Option V->Option Value->Prop
 | some v,some u=>RelV v u
 | none,none=>True
 | _,_=>False
def KV {κ:Type}:List (κ×V)->List (κ×Value)->Prop:=Paired fun (p:κ×V) (q:κ×Value)=>p.1=q.1/\RelV p.2 q.2
def kV:Key->V
 | .inl i=>.int i
 | .inr x=>.str x
inductive HO where
 | lst (xs:List V)
 | tup (xs:List V)
 | dK (kvs:List (Key×V)) | dT (kvs:List (List Key×V))
 | set (S:Int->Bool) (n:Nat)
 | ins (C dx:Addr) (fs:List (Str×V))
 | own (x:Addr)
 | xd (fs:List (Str×V))
 | met (f x:Addr)
 | Sd (lo hi:Int)
 | qc (o:Obj) (u:HO)
 | G8 (ps:Array Value)
 | ext (φ:Heap->Prop)
abbrev Hp:=Addr->Option HO
def upd (H:Hp) (a:Addr) (o:HO):Hp:=fun b=>if b=a then some o else H b
theorem ah {H:Hp} {a:Addr} {o:HO}:upd H a o a=some o:=by unfold upd;rw[if_pos rfl]
theorem aw {H:Hp} {a b:Addr} {o:HO} (h:b≠a):upd H a o b=H b:=by unfold upd;rw[if_neg h]
theorem Bn {H:Hp} {a:Addr} {o u:HO}:upd (upd H a o) a u=upd H a u:=by
 funext b;unfold upd;split <;> rfl
theorem dh {H:Hp} {a b:Addr} {o u:HO} (h:H a=some o) (h':H b=some u) (d:o≠u):a≠b:=by
 intro e;subst e;rw[h] at h';exact d (Option.some.inj h')
theorem aK {H:Hp} {a b:Addr} {o:HO} (h:H a=some o) (h':H b=none):a≠b:=by
 intro e;subst e;rw[h] at h';cases h'
section
variable (P:Program) (w:World)
def f7 (H:Hp) (h:Heap) (a:Addr):HO->Prop
 | .lst xs=>xs.length<=sizeLine/\∃(aL:List Value) (n:Nat),Vals xs aL/\h.get? a=some { cls:=.type "list",data:=.seq aL.toArray n }
 | .tup xs=>xs.length<=sizeLine/\∃aL:List Value,Vals xs aL/\IsTup h a aL.toArray
 | .dK kvs=>kvs.length<=sizeLine/\(a==sysModules)=false/\∃vs,KV kvs vs/\h.DictOf (eh P w) a vs
 | .dT kvs=>kvs.length<=sizeLine/\(a==sysModules)=false/\∃xs:List (List Key×Addr×Value),
   Paired (fun (p:List Key×V) (q:List Key×Addr×Value)=>p.1=q.1/\H q.2.1=some (.tup (p.1.map kV))/\RelV p.2 q.2.2) kvs xs/\
   ∃o es ep,h.get? a=some o/\o.ExactDict/\o.data = .dict es ep/\es.toList=xs.map (entryOfKey (tupleKind (eh P w)))/\(xs.map (·.1)).Nodup
 | .set S n=>h.SetOf (intKind P w) a S n
 | .ins C dx fs=>H dx=some (.own a)/\fs.length<=1000/\dx≠a/\h.get? a=some (W.instObj C dx)/\
   ∃mA,h.Ns1 dx mA/\(∀f,ng (fs.lookup f) (mA f))/\PySem.Within mA (fs.map (·.1))
 | .own _=>∃o,h.get? a=some o
 | .xd fs=>∃mA,h.Ns1 a mA/\∀f,ng (fs.lookup f) (mA f)
 | .Sd lo hi=>∃t u v,h.get? a=some { cls:=.type "range",data:=.fields #[.int lo t,.int hi u,.int 1 v] }
 | .qc o u=>h.get? a=some o/\f7 H h a u
 | .G8 ps=>h.get? a=some { cls:=.none,data:=.fields ps }
 | .met f x=>h.get? a=some (W.methodObj (.ref f) (.ref x))
 | .ext φ=>φ h/\(∃o,h.get? a=some o)/\∀h1 h2:Heap,φ h1->(∀o,h1.get? a=some o->h2.get? a=some o)->φ h2
def ir (H:Hp) (h:Heap):Prop:=∀a o,H a=some o->f7 P w H h a o
end
section
variable {P:Program} {w:World} {H H':Hp} {h h':Heap} {a:Addr} {o:HO}
theorem f7.lt (x:f7 P w H h a o):a<h.objs.size:=by
 cases o with
 | lst xs=>obtain⟨_,_,_,_,e⟩:=x;exact Heap.lt_size e
 | tup xs=>obtain⟨_,_,_,p⟩:=x;exact p.lt
 | dK kvs=>obtain⟨_,_,_,_,o,_,_,e,_⟩:=x;exact Heap.lt_size e
 | dT kvs=>obtain⟨_,_,_,_,o,_,_,e,_⟩:=x;exact Heap.lt_size e
 | set S n=>obtain⟨o,_,_,_,e,_⟩:=x;exact Heap.lt_size e
 | ins C dx fs=>obtain⟨_,_,_,e,_⟩:=x;exact Heap.lt_size e
 | own y=>obtain⟨_,e⟩:=x;exact Heap.lt_size e
 | xd fs=>obtain⟨_,⟨_,_,_,e,_⟩,_⟩:=x;exact Heap.lt_size e
 | Sd lo hi=>obtain⟨_,_,_,e⟩:=x;exact Heap.lt_size e
 | qc ob u=>obtain⟨e,_⟩:=x;exact Heap.lt_size e
 | G8 ps=>exact Heap.lt_size (show h.get? a=some _ from x)
 | met f y=>exact Heap.lt_size (show h.get? a=some _ from x)
 | ext φ=>obtain⟨_,⟨_,e⟩,_⟩:=x;exact Heap.lt_size e
theorem Paired.OE {α β:Type} {F G:α->β->Prop}:∀{l₁:List α} {l₂:List β},Paired F l₁ l₂->(∀a b,F a b->G a b)->Paired G l₁ l₂
 | _,_,.nil,_=>.nil
 | _,_,.cons r t,f=>.cons (f _ _ r) (Paired.OE t f)
theorem f7.G9 (x:f7 P w H h a o) (k:∀b u,(b=a\/H b=some (.own a))->h.get? b=some u->h'.get? b=some u)
  (ho:∀b,H b=some (.own a)->H' b=some (.own a)) (ht:∀b xs,H b=some (.tup xs)->H' b=some (.tup xs)):f7 P w H' h' a o:=by
 induction o with
 | lst xs=>obtain⟨z,aL,n,r,e⟩:=x;exact⟨z,aL,n,r,k _ _ (.inl rfl) e⟩
 | tup xs=>obtain⟨z,aL,r,ob,e,c⟩:=x;exact⟨z,aL,r,ob,k _ _ (.inl rfl) e,c⟩
 | dK kvs=>obtain⟨z,y,vs,r,ob,es,ep,e,c⟩:=x;exact⟨z,y,vs,r,ob,es,ep,k _ _ (.inl rfl) e,c⟩
 | dT kvs=>
  obtain⟨z,y,xs,r,ob,es,ep,e,c⟩:=x
  exact⟨z,y,xs,Paired.OE r fun p q z=>⟨z.1,ht _ _ z.2.1,z.2.2⟩,ob,es,ep,k _ _ (.inl rfl) e,c⟩
 | set S n=>obtain⟨ob,es,ep,t,e,c⟩:=x;exact⟨ob,es,ep,t,k _ _ (.inl rfl) e,c⟩
 | ins C dx fs=>
  obtain⟨d,z,ne,e,mA,⟨od,es,ep,e2,c⟩,r⟩:=x
  exact⟨ho _ d,z,ne,k _ _ (.inl rfl) e,mA,⟨od,es,ep,k _ _ (.inr d) e2,c⟩,r⟩
 | own y=>obtain⟨ob,e⟩:=x;exact⟨ob,k _ _ (.inl rfl) e⟩
 | xd fs=>obtain⟨mA,⟨od,es,ep,e,c⟩,r⟩:=x;exact⟨mA,⟨od,es,ep,k _ _ (.inl rfl) e,c⟩,r⟩
 | Sd lo hi=>obtain⟨t,u,v,e⟩:=x;exact⟨t,u,v,k _ _ (.inl rfl) e⟩
 | qc ob u ih=>obtain⟨e,q⟩:=x;exact⟨k _ _ (.inl rfl) e,ih q⟩
 | G8 ps=>
  have e:h.get? a=some { cls:=.none,data:=.fields ps }:=x
  show h'.get? a=some { cls:=.none,data:=.fields ps }
  exact k a _ (.inl rfl) e
 | met f y=>
  have e:h.get? a=some (W.methodObj (.ref f) (.ref y)):=x
  show h'.get? a=some (W.methodObj (.ref f) (.ref y))
  exact k a _ (.inl rfl) e
 | ext φ=>obtain⟨p,⟨o,e⟩,st⟩:=x;exact⟨st _ _ p fun o q=>k _ _ (.inl rfl) q,⟨o,k _ _ (.inl rfl) e⟩,st⟩
theorem ir.lt (x:ir P w H h) (e:H a=some o):a<h.objs.size:=(x a o e).lt
theorem ir.fresh (x:ir P w H h) (e:h.objs.size<=a):H a=none:=by
 cases q:H a with
 | none=>rfl
 | some u=>exact absurd (Nat.lt_of_lt_of_le (x.lt q) e) (Nat.lt_irrefl _)
theorem ir.kept (x:ir P w H h) (k:∀b u,h.get? b=some u->h'.get? b=some u):ir P w H h':=fun a o e=>
 (x a o e).G9 (fun b u _ q=>k b u q) (fun _ q=>q) fun _ _ q=>q
theorem ir.laid (x:ir P w H h) (k:∀b u,h.get? b=some u->h'.get? b=some u) (hp:h.objs.size<=a) (new:f7 P w (upd H a o) h' a o):ir P w (upd H a o) h':=fun b u e=>by
 have hn:=x.fresh hp
 by_cases hb:b=a
 ·subst hb;rw[ah] at e;cases e;exact new
 ·rw[aw hb] at e
  exact(x b u e).G9 (fun c v _ q=>k c v q) (fun c q=>by rw[aw (aK q hn)];exact q) fun c xs q=>by rw[aw (aK q hn)];exact q
end
def Rd (H:Hp) (a:Addr) (u:HO):Prop:=H a=some u\/∃o,H a=some (.qc o u)
theorem Rd.ok {P:Program} {w:World} {H:Hp} {h:Heap} {a:Addr} {u:HO} (r:Rd H a u) (x:ir P w H h):f7 P w H h a u:=by
 rcases r with r | ⟨o,r⟩
 ·exact x a u r
 ·obtain⟨_,q⟩:=x a _ r
  exact q
def Mj:Option HO->Prop
 | some (.lst _)=>True
 | some (.dK _)=>True
 | some (.dT _)=>True
 | some (.set _ _)=>True
 | some (.ins _ _ _)=>True
 | some (.ext _)=>True
 | _=>False
section
variable {P:Program} {w:World} {H:Hp} {h h':Heap} {x e:Addr} {o':HO}
theorem ir.write (ok:ir P w H h) (mu:Mj (H x)) (he:e=x\/H e=some (.own x)) (k:∀b u,b≠e->h.get? b=some u->h'.get? b=some u) (JT:∃u,h'.get? e=some u)
  (new:f7 P w (upd H x o') h' x o'):ir P w (upd H x o') h':=fun b u q=>by
 have Se:∀c y,H c=some (.own y)->c≠x:=fun c y r z=>by subst z;rw[r] at mu;exact mu
 have ntup:∀c xs,H c=some (.tup xs)->c≠x:=fun c xs r z=>by subst z;rw[r] at mu;exact mu
 by_cases hb:b=x
 ·subst hb;rw[ah] at q;cases q;exact new
 ·rw[aw hb] at q
  by_cases G_:b=e
  ·have q':H b=some (.own x):=by
    rcases he with z | z
    ·exact absurd (G_.trans z) hb
    ·rw[G_];exact z
   rw[q] at q';cases q'
   obtain⟨v,hv⟩:=JT
   exact⟨v,by rw[G_];exact hv⟩
  ·refine(ok b u q).G9 (fun c v hc r=>k c v ?_ r) (fun c r=>by rw[aw (Se c b r)];exact r) fun c xs r=>by rw[aw (ntup c xs r)];exact r
   rcases hc with rfl | hc
   ·exact G_
   ·rintro rfl
    rcases he with z | z
    ·exact Se c b hc z
    ·rw[hc] at z;cases z;exact hb rfl
end
structure Un (fs ex:List Addr) (H H':Hp) (h h':Heap):Prop where
 keep:∀b o,h.get? b=some o->H b=none->b∉fs->b∉ex->h'.get? b=some o
 slot:∀b o,h.get? b=some o->H b=none->b∈fs->b∉ex->∃sl,h'.get? b=some { o with slots:=sl }
 free:∀b o,h.get? b=some o->H b=none->b∉ex->H' b=none
 there:∀b o,h.get? b=some o->b∉ex->∃o',h'.get? b=some o'
 zN:∀b xs,H b=some (.tup xs)->H' b=some (.tup xs)
 yi:∀b o u,H b=some (.qc o u)->H' b=some (.qc o u)
 zO:∀b ps,H b=some (.G8 ps)->∃more,H' b=some (.G8 (ps++more))
section
variable {fs fs' ex ex':List Addr} {H H1 H2:Hp} {h h1 h2 h':Heap} {a x e:Addr} {o:HO}
theorem Un.any (u:Un fs ex H H1 h h1) {b:Addr} {ob:Obj} (q:h.get? b=some ob) (n:H b=none) (hx:b∉ex):∃sl,h1.get? b=some { ob with slots:=sl }:=by
 by_cases hb:b∈fs
 ·exact u.slot b ob q n hb hx
 ·exact⟨ob.slots,u.keep b ob q n hb hx⟩
theorem Un.kept (k:∀b u,h.get? b=some u->h'.get? b=some u):Un fs ex H H h h':=
 ⟨fun b ob q _ _ _=>k b ob q,fun b ob q _ _ _=>⟨ob.slots,k b ob q⟩,fun _ _ _ n _=>n,fun b ob q _=>⟨ob,k b ob q⟩,fun _ _ q=>q,fun _ _ _ q=>q,fun _ ps q=>⟨#[],by rw[q];simp⟩⟩
theorem Un.refl:Un fs ex H H h h:=Un.kept fun _ _ q=>q
theorem Un.laid (k:∀b u,h.get? b=some u->h'.get? b=some u) (hp:h.objs.size<=a) (hn:H a=none):Un fs ex H (upd H a o) h h' where
 keep:=fun b u q _ _ _=>k b u q
 slot:=fun b u q _ _ _=>⟨u.slots,k b u q⟩
 free:=fun b u q n _=>by rw[aw (Nat.ne_of_lt (Nat.lt_of_lt_of_le (Heap.lt_size q) hp))];exact n
 there:=fun b u q _=>⟨u,k b u q⟩
 zN:=fun b xs q=>by rw[aw (aK q hn)];exact q
 yi:=fun b u xs q=>by rw[aw (aK q hn)];exact q
 zO:=fun b ps q=>⟨#[],by rw[aw (aK q hn),q];simp⟩
theorem Un.write (mu:Mj (H x)) (he:e=x\/H e=some (.own x)) (k:∀b u,b≠e->h.get? b=some u->h'.get? b=some u) (JT:∃u,h'.get? e=some u):Un fs ex H (upd H x o) h h':=by
 have hx:∀b,H b=none->b≠x:=fun b n z=>by subst z;rw[n] at mu;exact mu
 have hb:∀b,H b=none->b≠e:=fun b n z=>by
  subst z
  rcases he with r | r
  ·exact hx b n r
  ·rw[n] at r;cases r
 have hm:∀b u,H b=some u->¬Mj (some u)->b≠x:=fun b u q nm z=>by subst z;rw[q] at mu;exact nm mu
 refine⟨fun b u q n _ _=>k b u (hb b n) q,fun b u q n _ _=>⟨u.slots,k b u (hb b n) q⟩,fun b u q n _=>by rw[aw (hx b n)];exact n,fun b u q _=>?_,
  fun b xs q=>by rw[aw (hm b _ q fun z=>z)];exact q,fun b u xs q=>by rw[aw (hm b _ q fun z=>z)];exact q,fun b ps q=>⟨#[],by rw[aw (hm b _ q fun z=>z),q];simp⟩⟩
 by_cases G_:b=e
 ·subst G_;exact JT
 ·exact⟨u,k b u G_ q⟩
end
def Qp (h:Heap) (H:Hp):List Addr:=(List.range h.objs.size).filter fun a=>(H a).isSome
def yj (h:Heap) (H:Hp):Heap:=W.hideAll h (Qp h H)
theorem Ml (h:Heap) (H:Hp):(yj h H).objs.size=h.objs.size:=W.hideAll_size _ _
theorem OF {h:Heap} {H:Hp} {b:Addr} {o:Obj} (e:h.get? b=some o) (n:H b=none):(yj h H).get? b=some o:=
 W.hideAll_get _ e fun hm=>by
  have q:(H b).isSome=true:=(mem_filter.mp hm).2
  rw[n] at q;simp at q
theorem Ry {h:Heap} {H:Hp} {b:Addr} {o:Obj} (e:(yj h H).get? b=some o):h.get? b=some o/\H b=none:=by
 have e':h.get? b=some o:=W.of_hideAll (Qp h H) e
 refine⟨e',?_⟩
 cases q:H b with
 | none=>rfl
 | some x=>
  have hm:b∈Qp h H:=mem_filter.mpr ⟨List.mem_range.mpr (Heap.lt_size e'),by simp[q]⟩
  have z:(yj h H).get? b=none:=W.hideAll_none (Qp h H) hm
  rw[z] at e;cases e
structure Mod (K:W.Frag) (mg:Str->Option Value) (base:Heap):Prop where
 Mm:K.In base
 glob:base.Ns mainGlobals mg
 blt:∃mb,base.Ns builtinsNs mb/\∀x:Str,x ≠ "__name__"->mb x=bootBuiltins x
 nolimit:base.NoLimit
structure Cx where
 prog:Program
 w:World
 K:W.Frag
 mg:Str->Option Value
 base:Heap
 A:Around
 N:List Str
 pJ:Shared
 Mn:Hp
 env:Env
 outer:List Env
 stack:List Env
 ex:List Addr
 fn:Str->Bool
 calm:Bool
 pn:List (Addr×Obj)
 xe:Value->Shared->Prop
def zP (l:List Env):List Addr:=l.filterMap (·.frame)
abbrev Cx.fs (X:Cx):List Addr:=zP X.outer
def Mo (sc:Scope) (x:Str):Prop:=sc.names.lookup x=some .local\/sc.names.lookup x=some .cell\/sc.names.lookup x=some .free
def Loc (sc:Scope) (x:Str):Prop:=sc.names.lookup x=some .local\/sc.names.lookup x=some .cell
def Look (env:Env) (h:Heap) (m:Str->Option Value) (x:Str) (u:Value):Prop:=
 (env.kindOf x=some .local/\m x=some u)\/((env.kindOf x=some .cell\/env.kindOf x=some .free)/\∃c,env.cells.lookup x=some c/\h.IsCell c (some u))
structure Cx.Ok (X:Cx):Prop where
 mod:Mod X.K X.mg X.base
 kind:X.env.scope.kind = .function
 glob:X.env.globals=mainGlobals
 blt:X.env.builtins=builtinsNs
 above:X.pJ.heap.objs.size<=X.env.locals
 inj:∀x y c,X.env.cells.lookup x=some c->X.env.cells.lookup y=some c->x=y
 has:∀x,(X.env.kindOf x=some .cell\/X.env.kindOf x=some .free)->∃c,X.env.cells.lookup x=some c
 Mp:∀x c,X.fn x=true->X.env.cells.lookup x=some c->X.pJ.heap.objs.size<=c
 hd:X.calm=true->X.A.handled=none
 frames:X.A.frames=some X.stack
 Qq:X.stack=X.outer\/(X.stack=X.env::X.outer/\X.env.frame=some X.env.locals)
 Qr:∀b∈X.ex,b≠X.env.locals/\∀x c,X.env.cells.lookup x=some c->c≠b
 bs:∀b o,X.base.get? b=some o->X.pJ.heap.get? b=some o/\X.Mn b=none
 Du:X.base.objs.size<=X.pJ.heap.objs.size
 Ha:∀b o,X.base.get? b=some o->b∉X.ex
 Hb:∀b∈X.ex,b∉X.fs
 tF:X.pJ.heap.FunFrames X.base X.outer
 Hc:∀b∈X.fs,X.Mn b=none
structure Inv (X:Cx) (pins:List (Addr×Obj)) (σ:List (Option V)) (H:Hp) (s:Shared):Prop where
 ok:X.Ok
 os:s.os=X.pJ.os
 bare:AllBare s.gens
 base:Un X.fs X.ex X.Mn H X.pJ.heap s.heap
 loc:∃m,s.heap.Ns X.env.locals m/\∀(i:Nat) (x:Str) (v:V),X.N[i]?=some x->σ[i]?=some (some v)->Mo X.env.scope x->∃u,RelV v u/\Look X.env s.heap m x u
 cell:∀x c,X.env.cells.lookup x=some c->∃v,s.heap.IsCell c v
 free:H X.env.locals=none
 o6:∀x c,X.env.cells.lookup x=some c->H c=none
 pin:∀p∈X.pn++pins,s.heap.get? p.1=some p.2/\H p.1=none/\p.1≠X.env.locals/\p.1∉X.fs/\∀v,p.2.data ≠ .cell v
 a9:ir X.prog X.w H s.heap
 len:σ.length=X.N.length
section
variable {X:Cx} {pins:List (Addr×Obj)} {σ:List (Option V)} {H H':Hp} {s:Shared} {h':Heap}
theorem Cx.Ok.nofr (ok:X.Ok) {b:Addr} {o:Obj} (e:X.base.get? b=some o):b∉X.fs:=fun hb=>by
 have:=(ok.tF.mem hb).1
 rw[e] at this;cases this
theorem Inv.bs (I:Inv X pins σ H s):∀b o,X.base.get? b=some o->s.heap.get? b=some o/\H b=none:=fun b o e=>
 ⟨I.base.keep b o (I.ok.bs b o e).1 (I.ok.bs b o e).2 (I.ok.nofr e) (I.ok.Ha b o e),I.base.free b o (I.ok.bs b o e).1 (I.ok.bs b o e).2 (I.ok.Ha b o e)⟩
theorem Inv.bk (I:Inv X pins σ H s):∀b o,X.base.get? b=some o->s.heap.get? b=some o:=fun b o e=>(I.bs b o e).1
theorem Inv.mod (I:Inv X pins σ H s):Mod X.K X.mg X.base:=I.ok.mod
theorem Inv.sG (I:Inv X pins σ H s):X.K.In s.heap:=I.ok.mod.Mm.keeps I.bk
theorem Inv.lt (I:Inv X pins σ H s):X.env.locals<s.heap.objs.size:=let ⟨_,hn,_⟩:=I.loc;hn.lt
theorem Inv.sz (I:Inv X pins σ H s):X.pJ.heap.objs.size<=s.heap.objs.size:=Nat.le_trans I.ok.above (Nat.le_of_lt I.lt)
theorem Inv.nofs (I:Inv X pins σ H s) {a:Addr} (h:s.heap.objs.size<=a):a∉X.fs:=fun hb=>by
 obtain⟨_,o,ho,_⟩:=I.ok.tF.mem hb
 exact absurd (Nat.lt_of_lt_of_le (Heap.lt_size ho) (Nat.le_trans I.sz h)) (Nat.lt_irrefl _)
theorem Inv.Hd (I:Inv X pins σ H s):∀x c,X.env.cells.lookup x=some c->c≠X.env.locals:=fun x c e z=>by
 obtain⟨v,o,ho,hd⟩:=I.cell x c e
 obtain⟨m,⟨o',es,ep,za,dZ,_⟩,_⟩:=I.loc
 rw[z,za] at ho;cases ho;rw[dZ] at hd;cases hd
theorem Inv.tF (I:Inv X pins σ H s):s.heap.FunFrames X.base X.outer:=by
 have all:∀(l:List Env),(∀b∈zP l,b∈X.fs)->X.pJ.heap.FunFrames X.base l->s.heap.FunFrames X.base l:=by
  intro l
  induction l with
  | nil=>intro _ _;trivial
  | cons env r ih=>
   intro hs hl
   obtain⟨hk,⟨L,o,hf,hn,ho,hd⟩,hr⟩:=hl
   have hL:L∈X.fs:=hs L (by unfold zP;rw[List.filterMap_cons,hf];exact List.mem_cons_self)
   obtain⟨sl,e⟩:=I.base.slot L o ho (I.ok.Hc L hL) hL fun z=>I.ok.Hb L z hL
   exact⟨hk,⟨L,_,hf,hn,e,hd⟩,ih (fun b hb=>hs b (by unfold zP;rw[List.filterMap_cons,hf];exact mem_cons_of_mem _ hb)) hr⟩
 exact all X.outer (fun _ hb=>hb) I.ok.tF
theorem Inv.stack (I:Inv X pins σ H s):s.heap.FunFrames X.base X.stack:=by
 rcases I.ok.Qq with e | ⟨e,hf⟩
 ·rw[e];exact I.tF
 ·rw[e]
  obtain⟨m,hn,_⟩:=I.loc
  refine .cons (by rw[I.ok.kind];decide) hf hn ?_ I.tF
  exact Heap.get?_none_of_le (Nat.le_trans I.ok.Du I.ok.above)
theorem Inv.He (I:Inv X pins σ H s):∀b∈zP X.stack,b∈X.env.locals::X.fs:=fun b hb=>by
 rcases I.ok.Qq with e | ⟨e,hf⟩
 ·rw[e] at hb;exact mem_cons_of_mem _ hb
 ·rw[e] at hb
  unfold zP at hb
  rw[List.filterMap_cons,hf] at hb
  exact hb
theorem Inv.JU (I:Inv X pins σ H s):∀b∈zP X.stack,H b=none:=fun b hb=>by
 rcases mem_cons.mp (I.He b hb) with e | hb
 ·rw[e];exact I.free
 ·obtain⟨_,o,ho,_⟩:=I.ok.tF.mem hb
  exact I.base.free b o ho (I.ok.Hc b hb) fun z=>I.ok.Hb b z hb
theorem Inv.step {g':Array GenState} {t':Nat} {d':Drawn} {ch:List Addr} (I:Inv X pins σ H s)
  (xl:∀b∈ch,(b∈X.ex\/X.pJ.heap.objs.size<=b)/\b≠X.env.locals/\(∀x c,X.env.cells.lookup x=some c->c≠b)/\∀p∈X.pn++pins,p.1≠b)
  (keep:∀b o,b≠X.env.locals->b∉X.fs->b∉ch->s.heap.get? b=some o->H b=none->h'.get? b=some o)
  (slot:∀b o,b≠X.env.locals->b∈X.fs->b∉ch->s.heap.get? b=some o->H b=none->∃sl,h'.get? b=some { o with slots:=sl }) (free:∀b o,b∉ch->s.heap.get? b=some o->H b=none->H' b=none)
  (there:∀b o,b∉ch->s.heap.get? b=some o->∃o',h'.get? b=some o')
  (zN:∀b xs,H b=some (.tup xs)->H' b=some (.tup xs)) (yi:∀b o u,H b=some (.qc o u)->H' b=some (.qc o u)) (zO:∀b ps,H b=some (.G8 ps)->∃more,H' b=some (.G8 (ps++more)))
  (ns:∀m,s.heap.Ns X.env.locals m->h'.Ns X.env.locals m) (a9:ir X.prog X.w H' h') (hg:AllBare g') :
  Inv X pins σ H' { s with heap:=h',gens:=g',drawn:=d',toks:=t' }:=by
 have neL:∀b o,X.pJ.heap.get? b=some o->b≠X.env.locals:=fun b o e=>Nat.ne_of_lt (Nat.lt_of_lt_of_le (Heap.lt_size e) I.ok.above)
 have Qs:∀b o,X.pJ.heap.get? b=some o->b∉X.ex->b∉ch:=fun b o e hx hb=>by
  rcases (xl b hb).1 with z | z
  ·exact hx z
  ·exact absurd (Nat.lt_of_lt_of_le (Heap.lt_size e) z) (Nat.lt_irrefl _)
 have cellK:∀x c,X.env.cells.lookup x=some c->∀v,s.heap.IsCell c v->h'.IsCell c v:=fun x c e v ⟨o,ho,hd⟩=>by
  have Mq:c∉ch:=fun z=>(xl c z).2.2.1 x c e rfl
  by_cases hc:c∈X.fs
  ·obtain⟨sl,q⟩:=slot c o (I.Hd x c e) hc Mq ho (I.o6 x c e)
   exact⟨_,q,hd⟩
  ·exact⟨o,keep c o (I.Hd x c e) hc Mq ho (I.o6 x c e),hd⟩
 refine⟨I.ok,I.os,hg,⟨fun b o e n hb hx=>?_,fun b o e n hb hx=>?_,fun b o e n hx=>?_,fun b o e hx=>?_,fun b xs e=>zN b xs (I.base.zN b xs e),fun b o xs e=>yi b o xs (I.base.yi b o xs e),fun b ps e=>?_⟩,?_,fun x c e=>?_,?_,fun x c e=>?_,fun p hp=>?_,a9,I.len⟩
 ·exact keep b o (neL b o e) hb (Qs b o e hx) (I.base.keep b o e n hb hx) (I.base.free b o e n hx)
 ·obtain⟨sl,e1⟩:=I.base.slot b o e n hb hx
  obtain⟨sl',e2⟩:=slot b _ (neL b o e) hb (Qs b o e hx) e1 (I.base.free b o e n hx)
  exact⟨sl',e2⟩
 ·obtain⟨o',e1⟩:=I.base.there b o e hx
  exact free b o' (Qs b o e hx) e1 (I.base.free b o e n hx)
 ·obtain⟨o',e1⟩:=I.base.there b o e hx
  exact there b o' (Qs b o e hx) e1
 ·obtain⟨m1,e1⟩:=I.base.zO b ps e
  obtain⟨m2,e2⟩:=zO b _ e1
  exact⟨m1++m2,by rw[e2,Array.append_assoc]⟩
 ·obtain⟨m,hn,hl⟩:=I.loc
  refine⟨m,ns m hn,fun i x v e1 e2 e3=>?_⟩
  obtain⟨u,r,l⟩:=hl i x v e1 e2 e3
  refine⟨u,r,?_⟩
  rcases l with l | ⟨k,c,e,z⟩
  ·exact .inl l
  ·exact .inr ⟨k,c,e,cellK x c e _ z⟩
 ·obtain⟨v,z⟩:=I.cell x c e
  exact⟨v,cellK x c e v z⟩
 ·obtain⟨m,⟨o,_,_,ho,_⟩,_⟩:=I.loc
  exact free _ o (fun z=>(xl _ z).2.1 rfl) ho I.free
 ·obtain⟨v,o,ho,hd⟩:=I.cell x c e
  exact free c o (fun z=>(xl c z).2.2.1 x c e rfl) ho (I.o6 x c e)
 ·obtain⟨e,n,ne,nf,d⟩:=I.pin p hp
  have Mq:p.1∉ch:=fun z=>(xl p.1 z).2.2.2 p hp rfl
  exact⟨keep p.1 p.2 ne nf Mq e n,free p.1 p.2 Mq e n,ne,nf,d⟩
theorem Inv.un {t':Nat} (I:Inv X pins σ H s) (u:Un X.fs [] H H' s.heap h') (a9:ir X.prog X.w H' h'):Inv X pins σ H' { s with heap:=h',toks:=t' }:=by
 obtain⟨m,⟨o,es,ep,ho,r⟩,_⟩:=id I.loc
 obtain⟨sl,hL⟩:=u.any ho I.free (by simp)
 exact I.step (g':=s.gens) (d':=s.drawn) (ch:=[]) (fun _ z=>nomatch z) (fun b o _ hb _ e n=>u.keep b o e n hb (by simp)) (fun b o _ hb _ e n=>u.slot b o e n hb (by simp)) (fun b o _ e n=>u.free b o e n (by simp)) (fun b o _ e=>u.there b o e (by simp)) u.zN u.yi u.zO (fun m' hm=>by
  obtain⟨o',mX,Mr,za,r'⟩:=hm
  rw[ho] at za;cases za
  exact⟨_,mX,Mr,hL,r'⟩) a9 I.bare
theorem Inv.call {g':Array GenState} {t':Nat} {d':Drawn} {ch:List Addr} (I:Inv X pins σ H s) (u:Un (zP X.stack) ch H H' s.heap h') (a9:ir X.prog X.w H' h') (hg:AllBare g')
  (xl:∀b∈ch,(b∈X.ex\/X.pJ.heap.objs.size<=b)/\b≠X.env.locals/\(∀x c,X.env.cells.lookup x=some c->c≠b)/\∀p∈X.pn++pins,p.1≠b) :
  Inv X pins σ H' { s with heap:=h',gens:=g',drawn:=d',toks:=t' }:=by
 obtain⟨m,⟨o,es,ep,ho,r⟩,_⟩:=id I.loc
 obtain⟨sl,hL⟩:=u.any ho I.free fun z=>(xl _ z).2.1 rfl
 exact I.step (ch:=ch) xl (fun b o hL hb hc e n=>u.keep b o e n (fun z=>(mem_cons.mp (I.He b z)).elim hL hb) hc) (fun b o _ _ hc e n=>u.any e n hc) (fun b o hc e n=>u.free b o e n hc) (fun b o hc e=>u.there b o e hc) u.zN u.yi u.zO (fun m' hm=>by
  obtain⟨o',mX,Mr,za,r'⟩:=hm
  rw[ho] at za;cases za
  exact⟨_,mX,Mr,hL,r'⟩) a9 hg
theorem Inv.turned {t':Nat} {it:Addr} (I:Inv X pins σ H s) (k:∀b o,b≠it->s.heap.get? b=some o->h'.get? b=some o) (hn:H it=none) (hL:it≠X.env.locals)
  (h1:it∈X.ex\/X.pJ.heap.objs.size<=it) (h2:∀x c,X.env.cells.lookup x=some c->c≠it) (h3:∀p∈X.pn++pins,p.1≠it):Inv X pins σ H { s with heap:=h',toks:=t' }:=by
 have nit:∀b u,H b=some u->b≠it:=fun b u e z=>by rw[z,hn] at e;cases e
 refine I.step (g':=s.gens) (d':=s.drawn) (ch:=[it]) (fun b hb=>?_) (fun b o _ _ hc e _=>k b o (fun z=>hc (by simp[z])) e) (fun b o _ _ hc e _=>⟨o.slots,k b o (fun z=>hc (by simp[z])) e⟩) (fun _ _ _ _ n=>n)
  (fun b o hc e=>⟨o,k b o (fun z=>hc (by simp[z])) e⟩) (fun _ _ e=>e) (fun _ _ _ e=>e) (fun b ps e=>⟨#[],by rw[e];simp⟩) (fun m hm=>?_) (fun b u e=>?_) I.bare
 ·have e:b=it:=by simpa using hb
  subst e
  exact⟨h1,hL,h2,h3⟩
 ·obtain⟨o,es,ep,ho,r⟩:=hm
  exact⟨o,es,ep,k _ o (Ne.symm hL) ho,r⟩
 ·refine(I.a9 b u e).G9 (fun c v hc q=>k c v ?_ q) (fun _ q=>q) fun _ _ q=>q
  rcases hc with z | z
  ·rw[z];exact nit b u e
  ·exact nit c _ z
theorem Inv.tok (I:Inv X pins σ H s) (t:Nat):Inv X pins σ H { s with toks:=t }:=I.un (h':=s.heap) (t':=t) Un.refl I.a9
theorem Inv.kept {t':Nat} (I:Inv X pins σ H s) (k:∀b u,s.heap.get? b=some u->h'.get? b=some u):Inv X pins σ H { s with heap:=h',toks:=t' }:=I.un (Un.kept k) (I.a9.kept k)
theorem Inv.laid {a:Addr} {o:HO} {t':Nat} (I:Inv X pins σ H s) (k:∀b u,s.heap.get? b=some u->h'.get? b=some u) (hp:s.heap.objs.size<=a) (new:f7 X.prog X.w (upd H a o) h' a o) :
  Inv X pins σ (upd H a o) { s with heap:=h',toks:=t' }:=I.un (Un.laid k hp (I.a9.fresh hp)) (I.a9.laid k hp new)
theorem Inv.write {x e:Addr} {o:HO} {t':Nat} (I:Inv X pins σ H s) (mu:Mj (H x)) (he:e=x\/H e=some (.own x)) (k:∀b u,b≠e->s.heap.get? b=some u->h'.get? b=some u) (JT:∃u,h'.get? e=some u)
  (new:f7 X.prog X.w (upd H x o) h' x o):Inv X pins σ (upd H x o) { s with heap:=h',toks:=t' }:=I.un (Un.write mu he k JT) (I.a9.write mu he k JT new)
theorem Inv.weak {σ':List (Option V)} (I:Inv X pins σ H s) (hl:σ'.length=σ.length) (w:∀(i:Nat) v,σ'[i]?=some (some v)->σ[i]?=some (some v)):Inv X pins σ' H s:=
 ⟨I.ok,I.os,I.bare,I.base,let ⟨m,hn,hl'⟩:=I.loc;⟨m,hn,fun i x v e1 e2 e3=>hl' i x v e1 (w i v e2) e3⟩,I.cell,I.free,I.o6,I.pin,I.a9,hl.trans I.len⟩
theorem Inv.JV {Qt:List (Addr×Obj)} (I:Inv X pins σ H s) (h:∀p∈Qt,s.heap.get? p.1=some p.2/\H p.1=none/\p.1≠X.env.locals/\p.1∉X.fs/\∀v,p.2.data ≠ .cell v):Inv X Qt σ H s:=
 ⟨I.ok,I.os,I.bare,I.base,I.loc,I.cell,I.free,I.o6,fun p hp=>(mem_append.mp hp).elim (fun z=>I.pin p (List.mem_append_left _ z)) (h p),I.a9,I.len⟩
theorem CG {N:List Str} (hN:N.Nodup) {i j:Nat} {x:Str} (a:N[i]?=some x) (b:N[j]?=some x):i=j:=by
 obtain⟨h1,e1⟩:=List.getElem?_eq_some_iff.mp a
 obtain⟨h2,e2⟩:=List.getElem?_eq_some_iff.mp b
 exact(List.getElem_inj hN).mp (e1.trans e2.symm)
theorem FK {M:Model} {A:Around} {E:Value->Shared->Prop} {i:Nat} {x:Str} {v:V} {u:Value} {Q:Unit->Shared->Prop} (I:Inv X pins σ H s) (hN:X.N.Nodup) (hi:X.N[i]?=some x) (hx:Loc X.env.scope x) (r:RelV v u)
  (h:∀s',Inv X pins (σ.set i (some v)) H s'->(∃a,Heap.SameBut a s.heap s'.heap/\(a=X.env.locals\/X.env.cells.lookup x=some a))->Q () s') (hf:X.fn x=true\/X.env.scope.names.lookup x=some .local:=by first | exact .inl rfl | exact .inr rfl | assumption):wpAny M A (storeName X.env x u) Q E s:=by
 obtain⟨m,hn,hl⟩:=id I.loc
 have hcls:(X.env.scope.kind == .class||(X.env.scope.kind == .module&&X.env.locals != X.env.globals))=false:=by rw[I.ok.kind];rfl
 have hiσ:i<σ.length:=by rw[I.len];exact(List.getElem?_eq_some_iff.mp hi).1
 have Hd:=I.Hd
 have tracked:∀{a:Addr} {h':Heap},(∃o,s.heap.get? a=some o/\H a=none)->Heap.SameBut a s.heap h'->ir X.prog X.w H h':=fun {a h'} ha hs b ob e=>by
  obtain⟨_,_,Bo⟩:=ha
  refine(I.a9 b ob e).G9 (fun c w' hc q=>(hs.2 c ?_).trans q) (fun _ q=>q) fun _ _ q=>q
  rintro rfl
  rcases hc with rfl | hc
  ·rw[Bo] at e;cases e
  ·rw[Bo] at hc;cases hc
 rcases hx with hk | hk
 ·refine wpAny_storeName_local hk hn (fun h' zb hs=>?_) hcls
  obtain⟨oL,_,_,Ms,_⟩:=id hn
  refine h _ ⟨I.ok,I.os,I.bare,⟨fun b o e n hb hx=>?_,fun b o e n hb hx=>?_,I.base.free,fun b o e hx=>?_,I.base.zN,I.base.yi,I.base.zO⟩,⟨_,zb,fun j y v' e1 e2 e3=>?_⟩,fun y c e=>?_,I.free,I.o6,fun p hp=>?_,tracked ⟨oL,Ms,I.free⟩ hs,by simpa using I.len⟩ ⟨_,hs,.inl rfl⟩
  ·exact(hs.2 b (Nat.ne_of_lt (Nat.lt_of_lt_of_le (Heap.lt_size e) I.ok.above))).trans (I.base.keep b o e n hb hx)
  ·obtain⟨sl,e1⟩:=I.base.slot b o e n hb hx
   exact⟨sl,(hs.2 b (Nat.ne_of_lt (Nat.lt_of_lt_of_le (Heap.lt_size e) I.ok.above))).trans e1⟩
  ·obtain⟨o',e1⟩:=I.base.there b o e hx
   exact⟨o',(hs.2 b (Nat.ne_of_lt (Nat.lt_of_lt_of_le (Heap.lt_size e) I.ok.above))).trans e1⟩
  ·by_cases hj:j=i
   ·subst hj
    rw[hi] at e1;cases e1
    rw[List.getElem?_set_self hiσ] at e2
    cases e2
    exact⟨u,r,.inl ⟨hk,by simp⟩⟩
   ·rw[List.getElem?_set_ne (Ne.symm hj)] at e2
    obtain⟨u',r',q⟩:=hl j y v' e1 e2 e3
    refine⟨u',r',?_⟩
    rcases q with ⟨k,e⟩|⟨k,c,e,z⟩
    ·refine .inl ⟨k,?_⟩
     have:y≠x:=fun e=>hj (CG hN e1 (e ▸ hi))
     simp[this,e]
    ·exact .inr ⟨k,c,e,z.sameBut hs (Hd y c e)⟩
  ·obtain⟨w',z⟩:=I.cell y c e
   exact⟨w',z.sameBut hs (Hd y c e)⟩
  ·obtain⟨e,n,ne,nf,d⟩:=I.pin p hp
   exact⟨(hs.2 p.1 ne).trans e,n,ne,nf,d⟩
 ·have zQ:X.fn x=true:=by
   rcases hf with z | z
   ·exact z
   ·rw[z] at hk;cases hk
  obtain⟨c,hc⟩:=I.ok.has x (.inl hk)
  obtain⟨w',z⟩:=I.cell x c hc
  refine wpAny_storeName_cell I.ok.kind hk hc z (fun h' zR hs=>?_)
  obtain⟨oc,hoc,hocd⟩:=id z
  refine h { s with heap:=h' } ⟨I.ok,I.os,I.bare,⟨fun b o e n hb hx=>?_,fun b o e n hb hx=>?_,I.base.free,fun b o e hx=>?_,I.base.zN,I.base.yi,I.base.zO⟩,⟨m,hn.sameBut hs (Ne.symm (Hd x c hc)),fun j y v' e1 e2 e3=>?_⟩,fun y c' e=>?_,I.free,I.o6,fun p hp=>?_,tracked ⟨oc,hoc,I.o6 x c hc⟩ hs,by simpa using I.len⟩ ⟨c,hs,.inr hc⟩
  ·exact(hs.2 b (Nat.ne_of_lt (Nat.lt_of_lt_of_le (Heap.lt_size e) (I.ok.Mp x c zQ hc)))).trans (I.base.keep b o e n hb hx)
  ·obtain⟨sl,e1⟩:=I.base.slot b o e n hb hx
   exact⟨sl,(hs.2 b (Nat.ne_of_lt (Nat.lt_of_lt_of_le (Heap.lt_size e) (I.ok.Mp x c zQ hc)))).trans e1⟩
  ·obtain⟨o',e1⟩:=I.base.there b o e hx
   exact⟨o',(hs.2 b (Nat.ne_of_lt (Nat.lt_of_lt_of_le (Heap.lt_size e) (I.ok.Mp x c zQ hc)))).trans e1⟩
  ·by_cases hj:j=i
   ·subst hj
    rw[hi] at e1;cases e1
    rw[List.getElem?_set_self hiσ] at e2
    cases e2
    exact⟨u,r,.inr ⟨.inl hk,c,hc,zR⟩⟩
   ·rw[List.getElem?_set_ne (Ne.symm hj)] at e2
    obtain⟨u',r',q⟩:=hl j y v' e1 e2 e3
    refine⟨u',r',?_⟩
    rcases q with q | ⟨k,c',e,z'⟩
    ·exact .inl q
    ·refine .inr ⟨k,c',e,z'.sameBut hs ?_⟩
     rintro rfl
     exact hj (CG hN e1 (I.ok.inj _ _ _ e hc ▸ hi))
  ·by_cases zc:c'=c
   ·subst zc;exact⟨_,zR⟩
   ·obtain⟨w2,z2⟩:=I.cell y c' e
    exact⟨w2,z2.sameBut hs zc⟩
  ·obtain⟨e,n,ne,nf,d⟩:=I.pin p hp
   refine⟨(hs.2 p.1 ?_).trans e,n,ne,nf,d⟩
   intro q
   rw[q,hoc] at e
   have q':oc=p.2:=Option.some.inj e
   exact d w' (by rw[<- q'];exact hocd)
theorem Hf {M:Model} {A:Around} {E:Value->Shared->Prop} {i:Nat} {x:Str} {v:V} {u:Value} {Q:Unit->Shared->Prop} (I:Inv X pins σ H s) (hN:X.N.Nodup) (hi:X.N[i]?=some x) (hx:Loc X.env.scope x) (r:RelV v u)
  (h:∀s',Inv X pins (σ.set i (some v)) H s'->Q () s') (hf:X.fn x=true\/X.env.scope.names.lookup x=some .local:=by first | exact .inl rfl | exact .inr rfl | assumption):wpAny M A (storeName X.env x u) Q E s:=
 FK I hN hi hx r (fun s' I' _=>h s' I') hf
theorem Inv.call' {s':Shared} {ch:List Addr} (I:Inv X pins σ H s) (ho:s'.os=s.os) (u:Un (zP X.stack) ch H H' s.heap s'.heap) (a9:ir X.prog X.w H' s'.heap) (hg:AllBare s'.gens)
  (xl:∀b∈ch,(b∈X.ex\/X.pJ.heap.objs.size<=b)/\b≠X.env.locals/\(∀x c,X.env.cells.lookup x=some c->c≠b)/\∀p∈X.pn++pins,p.1≠b):Inv X pins σ H' s':=by
 obtain⟨h',g',d',t',o'⟩:=s'
 have e:o'=s.os:=ho
 subst e
 exact I.call (g':=g') (t':=t') (d':=d') u a9 hg xl
end
abbrev XK:=Value->Option Addr->Hp->Prop
abbrev St:=List (Option V)
abbrev VK:=V->Hp->Prop
abbrev TE:=St->Hp->VK->Prop
abbrev TT:=St->Hp->(Bool->Hp->Prop)->Prop
abbrev TA:=St->Hp->(List V->Hp->Prop)->Prop
structure Ends where
 nx:St->Hp->Prop
 rt:VK
 bk:St->Hp->Prop:=fun _ _=>False
 ct:St->Hp->Prop:=fun _ _=>False
abbrev TS:=Ends->St->Hp->Prop
def EP (X:Cx) (pins:List (Addr×Obj)) (σ:St) (Q:VK) (u:Value) (s':Shared):Prop:=∃v H',Inv X pins σ H' s'/\RelV v u/\Q v H'
def TP (X:Cx) (pins:List (Addr×Obj)) (σ:St) (Q:Bool->Hp->Prop) (b:Bool) (s':Shared):Prop:=∃H',Inv X pins σ H' s'/\Q b H'
def AP (X:Cx) (pins:List (Addr×Obj)) (σ:St) (Q:List V->Hp->Prop) (us:List Value) (s':Shared):Prop:=∃vs H',Inv X pins σ H' s'/\Vals vs us/\Q vs H'
def SP (X:Cx) (pins:List (Addr×Obj)) (D:Ends) (f:Flow) (s':Shared):Prop:=
 match f with
 | .next=>∃σ' H',Inv X pins σ' H' s'/\D.nx σ' H'
 | .brk=>∃σ' H',Inv X pins σ' H' s'/\D.bk σ' H'
 | .cont=>∃σ' H',Inv X pins σ' H' s'/\D.ct σ' H'
 | .ret u=>∃v σ' H',Inv X pins σ' H' s'/\RelV v u/\D.rt v H'
def PE (X:Cx) (e:Expr) (t:TE):Prop:=
 ∀(pins:List (Addr×Obj)) (s:Shared) (σ:St) (H:Hp) (Q:VK),Inv X pins σ H s->t σ H Q->wpAny (model X.prog X.w) X.A (eval e X.env) (EP X pins σ Q) X.xe s
def PT (X:Cx) (e:Expr) (t:TT):Prop:=
 ∀(pins:List (Addr×Obj)) (s:Shared) (σ:St) (H:Hp) (Q:Bool->Hp->Prop),Inv X pins σ H s->t σ H Q->wpAny (model X.prog X.w) X.A (isTrue e X.env (eval e X.env)) (TP X pins σ Q) X.xe s
def PW (X:Cx) (e:Expr) (t:TT):Prop:=
 ∀(whole:Sem Value) (pins:List (Addr×Obj)) (s:Shared) (σ:St) (H:Hp) (Q:Bool->Hp->Prop),Inv X pins σ H s->t σ H Q->wpAny (model X.prog X.w) X.A (isTrue e X.env whole) (TP X pins σ Q) X.xe s
theorem PW.pt {X:Cx} {e:Expr} {t:TT} (h:PW X e t):PT X e t:=h _
def PA (X:Cx) (es:List Expr) (t:TA):Prop:=
 ∀(pos:Pos) (pins:List (Addr×Obj)) (s:Shared) (σ:St) (H:Hp) (Q:List V->Hp->Prop),Inv X pins σ H s->t σ H Q->wpAny (model X.prog X.w) X.A (spliced (backTo pos (starEach es X.env))) (AP X pins σ Q) X.xe s
def PS (X:Cx) (st:Stmt) (t:TS):Prop:=
 ∀(pins:List (Addr×Obj)) (s:Shared) (σ:St) (H:Hp) (D:Ends),Inv X pins σ H s->t D σ H->wpAny (model X.prog X.w) X.A (exec st X.env) (SP X pins D) X.xe s
def xm (X:Cx) (st:List Stmt) (t:TS):Prop:=
 ∀(pins:List (Addr×Obj)) (s:Shared) (σ:St) (H:Hp) (D:Ends),Inv X pins σ H s->t D σ H->wpAny (model X.prog X.w) X.A (execs st X.env) (SP X pins D) X.xe s
theorem bH {α:Type} {t:Sem α} {Q Q':α->Shared->Prop} {M:Model} {A:Around} {E:Value->Shared->Prop} {s:Shared} (h:wpAny M A t Q E s) (hQ:∀a s,Q a s->Q' a s):wpAny M A t Q' E s:=wpAny_mono h hQ fun _ _ x=>x
section
variable {X:Cx}
def Sf (i:Nat):TE:=fun σ H Q=>∃v,σ[i]?=some (some v)/\Q v H
def tC (v:V):TE:=fun _ H Q=>Q v H
theorem Sg {i:Nat} {x:Str} {pos:Pos} (hN:X.N[i]?=some x) (hv:Mo X.env.scope x) (hd:(x==("__debug__":Str))=false:=by decide) (wc:(x==("__classdict__":Str))=false:=by decide):PE X (.Name x pos) (Sf i):=by
 intro pins s σ H Q I h
 obtain⟨v,e,h⟩:=h
 obtain⟨m,hn,hl⟩:=I.loc
 obtain⟨u,r,l⟩:=hl i x v hN e hv
 have fin:EP X pins σ Q u s:=⟨v,H,I,r,h⟩
 rcases l with ⟨hk,hm⟩|⟨hk,c,hc,Qv⟩
 ·exact wpAny_Name (wpAny_loadName_local I.ok.kind hk hn hm fin) hd
 ·rcases hk with hk | hk
  ·exact wpAny_Name (wpAny_loadName_cell I.ok.kind hk hc Qv fin) hd
  ·exact wpAny_Name (wpAny_loadName_free I.ok.kind hk hc Qv fin wc) hd
theorem aH {i j pos}:PE X (.Constant (.int i) j pos) (tC (.int i)):=fun _ _ _ H _ I h=>wpAny_Constant_int ⟨.int i,H,I.tok _,⟨_,rfl⟩,h⟩
theorem iG {b j pos}:PE X (.Constant (.bool b) j pos) (tC (.bl b)):=fun _ _ _ H _ I h=>Constant_bool ⟨.bl b,H,I,rfl,h⟩
theorem iu {j pos}:PE X (.Constant .none j pos) (tC .bE):=fun _ _ _ H _ I h=>Constant_none ⟨.bE,H,I,rfl,h⟩
theorem cF {x j pos}:PE X (.Constant (.str x) j pos) (tC (.str x)):=fun _ _ _ H _ I h=>Calls.Constant_str ⟨.str x,H,I.tok _,⟨_,rfl⟩,h⟩
def Gl (X:Cx) (x:Str):Prop:=X.env.kindOf x=some .globalImplicit
theorem Bp {E:Value->Shared->Prop} {pins:List (Addr×Obj)} {s:Shared} {σ:St} {H:Hp} {x:Str} {u:Value} {pos:Pos} {Q:Value->Shared->Prop} (I:Inv X pins σ H s) (hg:Gl X x) (hm:X.mg x=some u) (h:Q u s)
  (hd:(x==("__debug__":Str))=false:=by decide):wpAny (model X.prog X.w) X.A (eval (.Name x pos) X.env) Q E s:=
 Calls.Name_function_global I.ok.kind hg (Calls.loadGlobal_global (by rw[I.ok.glob];exact I.mod.glob.keeps I.bk) hm h) hd
theorem sH {E:Value->Shared->Prop} {pins:List (Addr×Obj)} {s:Shared} {σ:St} {H:Hp} {x:Str} {u:Value} {pos:Pos} {Q:Value->Shared->Prop} (I:Inv X pins σ H s) (hg:Gl X x) (hm:X.mg x=none) (hv:bootBuiltins x=some u) (h:Q u s)
  (hn:x ≠ "__name__":=by decide) (hd:(x==("__debug__":Str))=false:=by decide):wpAny (model X.prog X.w) X.A (eval (.Name x pos) X.env) Q E s:=by
 obtain⟨mb,h1,h2⟩:=I.mod.blt
 exact Calls.Name_function_global I.ok.kind hg (Calls.loadGlobal_builtin (by rw[I.ok.glob];exact I.mod.glob.keeps I.bk) hm (by rw[I.ok.blt];exact h1.keeps I.bk) ((h2 x hn).trans hv) h) hd
theorem bU {x:Str} {v:V} {u:Value} {pos:Pos} (hg:Gl X x) (hm:X.mg x=some u) (r:RelV v u) (hd:(x==("__debug__":Str))=false:=by decide):PE X (.Name x pos) (tC v):=
 fun _ _ _ H _ I h=>Bp I hg hm ⟨v,H,I,r,h⟩ hd
variable {a b:Expr} {ta tb:TE} {pos:Pos}
def PC (X:Cx) (op:CmpOp) (a b:Expr) (t:TE):Prop:=
 ∀(pins:List (Addr×Obj)) (s:Shared) (σ:St) (H:Hp) (Q:VK),Inv X pins σ H s->t σ H Q->
  wpAny (model X.prog X.w) X.A (eval a X.env) (fun v s₁=>wpAny (model X.prog X.w) X.A (eval b X.env) (fun u s₂=>wpAny (model X.prog X.w) X.A (compareOp op v u) (EP X pins σ Q) X.xe s₂) X.xe s₁) X.xe s
theorem Hg (b:Expr) {op:CmpOp} (h:op ≠ .In) (h2:op ≠ .NotIn):behindInMarks op b=false:=by
 have e1:(op==CmpOp.In)=false:=by cases op <;> first | rfl | exact absurd rfl h
 have e2:(op==CmpOp.NotIn)=false:=by cases op <;> first | rfl | exact absurd rfl h2
 cases b <;> simp[behindInMarks,e1,e2]
def tIsN (ta:TE):TE:=fun σ H Q=>ta σ H fun x H1=>Q (.bl (decide (x = .bE))) H1
def tNotN (ta:TE):TE:=fun σ H Q=>ta σ H fun x H1=>Q (.bl (!decide (x = .bE))) H1
theorem RelV.Hh {x:V} {v:Value} (r:RelV x v):(v==Value.none)=decide (x = .bE):=by
 cases x with
 | bE=>cases r;rfl
 | bl _=>cases r;rfl
 | int _=>obtain⟨t,rfl⟩:=r;rfl
 | str _=>obtain⟨t,rfl⟩:=r;rfl
 | sF _=>obtain⟨t,rfl⟩:=r;rfl
 | Mi _=>obtain⟨t,rfl⟩:=r;rfl
 | ref _=>cases r;rfl
 | ty _=>cases r;rfl
theorem gR {j pos'} (ha:PE X a ta):PC X .Is a (.Constant .none j pos') (tIsN ta):=by
 intro pins s σ H Q I h
 refine bH (ha pins s σ H _ I h) fun v s1 ⟨x,H1,I1,r1,q1⟩=>?_
 exact Constant_none (is_none_gen ⟨.bl _,H1,I1,by rw[r1.Hh];rfl,q1⟩)
theorem pK {j pos'} (ha:PE X a ta):PC X .IsNot a (.Constant .none j pos') (tNotN ta):=by
 intro pins s σ H Q I h
 refine bH (ha pins s σ H _ I h) fun v s1 ⟨x,H1,I1,r1,q1⟩=>?_
 exact Constant_none (isnot_none_gen ⟨.bl _,H1,I1,by rw[r1.Hh];rfl,q1⟩)
def tB (t:TE):TT:=fun σ H Q=>t σ H fun x H1=>∃c,x = .bl c/\Q c H1
theorem u_ {op:CmpOp} {t:TE} (h:PC X op a b t) (h1:behindInMarks op b=false:=by first | exact Hg _ (by decide) (by decide) | rfl):PE X (.Compare a [op] [b] pos) t:=fun pins s σ H Q I hw=>wpAny_Compare1 (h pins s σ H Q I hw) h1
theorem d3 {op:CmpOp} {t:TE} (h:PC X op a b t) (h1:behindInMarks op b=false:=by first | exact Hg _ (by decide) (by decide) | rfl):PT X (.Compare a [op] [b] pos) (tB t):=by
 intro pins s σ H Q I hw
 refine wpAny_isTrue_Compare1 (bH (h pins s σ H _ I hw) fun v s1 h1=>bH h1 fun u s2 h2=>bH h2 fun c s3 ⟨x,H1,I1,r1,q1⟩=>?_) h1
 obtain⟨d,rfl,q⟩:=q1
 cases r1
 exact wpAny_truthy_bool ⟨H1,I1,q⟩
theorem fz {e:Expr} {t:TE} (h:PE X e t) (he:∀whole,isTrue e X.env whole=(do let v <- whole;standAt e.pos;holding [v] (truthy v)):=by intro _;rfl):PT X e (tB t):=by
 intro pins s σ H Q I hw
 refine isTrue_plain (bH (h pins s σ H _ I hw) fun v s1 ⟨x,H1,I1,r1,q1⟩=>?_) (he _)
 obtain⟨d,rfl,q⟩:=q1
 cases r1
 exact wpAny_truthy_bool ⟨H1,I1,q⟩
variable {tA Qw:TT} {rest:List Expr}
def tAnd (t u:TT):TT:=fun σ H Q=>t σ H fun c H1=>if c=true then u σ H1 Q else Q false H1
def tOr (t u:TT):TT:=fun σ H Q=>t σ H fun c H1=>if c=true then Q true H1 else u σ H1 Q
def tNot (t:TT):TT:=fun σ H Q=>t σ H fun c H1=>Q (!c) H1
theorem EN (ha:PT X a tA):PW X (.BoolOp .And [a] pos) tA:=by
 intro wh pins s σ H Q I h
 refine isTrue_and (bH (ha pins s σ H Q I h) fun c s1 e=>?_)
 cases c with
 | true=>exact isTrue_and_nil e
 | false=>exact e
theorem xn (ha:PT X a tA):PW X (.BoolOp .Or [a] pos) tA:=by
 intro wh pins s σ H Q I h
 refine isTrue_or (bH (ha pins s σ H Q I h) fun c s1 e=>?_)
 cases c with
 | false=>exact isTrue_or_nil e
 | true=>exact e
theorem Hi (ha:PT X a tA) (hb:PW X (.BoolOp .And (b::rest) pos) Qw):PW X (.BoolOp .And (a::b::rest) pos) (tAnd tA Qw):=by
 intro wh pins s σ H Q I h
 refine isTrue_and (bH (ha pins s σ H _ I h) fun c s1 ⟨H1,I1,q1⟩=>?_)
 cases c with
 | true=>exact hb wh pins s1 σ H1 Q I1 q1
 | false=>exact⟨H1,I1,q1⟩
theorem Bq (ha:PT X a tA) (hb:PW X (.BoolOp .Or (b::rest) pos) Qw):PW X (.BoolOp .Or (a::b::rest) pos) (tOr tA Qw):=by
 intro wh pins s σ H Q I h
 refine isTrue_or (bH (ha pins s σ H _ I h) fun c s1 ⟨H1,I1,q1⟩=>?_)
 cases c with
 | true=>exact⟨H1,I1,q1⟩
 | false=>exact hb wh pins s1 σ H1 Q I1 q1
theorem kZ (ha:PT X a tA):PT X (.UnaryOp .Not a pos) (tNot tA):=by
 intro pins s σ H Q I h
 exact isTrue_not (ha pins s σ H (fun c H1=>Q (!c) H1) I h)
def tAndV (ta tb:TE):TE:=fun σ H Q=>ta σ H fun x H1=>∃c,x = .bl c/\if c=true then tb σ H1 Q else Q (.bl false) H1
def tOrV (ta tb:TE):TE:=fun σ H Q=>ta σ H fun x H1=>∃c,x = .bl c/\if c=true then Q (.bl true) H1 else tb σ H1 Q
theorem va {op} {t:TE} (h:PE X a t):PE X (.BoolOp op [a] pos) t:=fun pins s σ H Q I hw=>BoolOp_one (h pins s σ H Q I hw)
theorem Dv (ha:PE X a ta) (hb:PE X (.BoolOp .And (b::rest) pos) tb):PE X (.BoolOp .And (a::b::rest) pos) (tAndV ta tb):=by
 intro pins s σ H Q I h
 refine BoolOp_and (bH (ha pins s σ H _ I h) fun v s1 ⟨x,H1,I1,r1,q1⟩=>?_)
 obtain⟨c,rfl,q1⟩:=q1
 cases r1
 refine wpAny_truthy_bool ?_
 cases c with
 | true=>exact hb pins s1 σ H1 Q I1 q1
 | false=>exact⟨.bl false,H1,I1,rfl,q1⟩
theorem G3 (ha:PE X a ta) (hb:PE X (.BoolOp .Or (b::rest) pos) tb):PE X (.BoolOp .Or (a::b::rest) pos) (tOrV ta tb):=by
 intro pins s σ H Q I h
 refine BoolOp_or (bH (ha pins s σ H _ I h) fun v s1 ⟨x,H1,I1,r1,q1⟩=>?_)
 obtain⟨c,rfl,q1⟩:=q1
 cases r1
 refine wpAny_truthy_bool ?_
 cases c with
 | false=>exact hb pins s1 σ H1 Q I1 q1
 | true=>exact⟨.bl true,H1,I1,rfl,q1⟩
end
def aE (K:W.Frag) (H:Hp) (a:Addr) (xs:List V):Prop:=
 Rd H a (.lst xs)\/
  ∃(o:Obj) (aL:Array Value) (n:Nat),K.lookup a=some o/\o.cls = .type "list"/\o.dict=none/\o.data = .seq aL n/\aL.size<=sizeLine/\Vals xs aL.toList
def mY (K:W.Frag) (H:Hp) (a:Addr) (xs:List V):Prop:=
 Rd H a (.tup xs)\/
  ∃(o:Obj) (aL:Array Value) (n:Nat),K.lookup a=some o/\o.cls = .type "tuple"/\o.data = .seq aL n/\aL.size<=sizeLine/\Vals xs aL.toList
def absV:Value->Option V
 | .none=>some .bE
 | .bool b=>some (.bl b)
 | .int i _=>some (.int i)
 | .str x _=>some (.str x)
 | .bytes b _=>some (.sF b)
 | .float b _=>some (.Mi b)
 | .ref a=>some (.ref a)
 | .type n=>some (.ty n)
 | _=>none
theorem RelV.abs {x:V} {u:Value} (r:RelV x u):absV u=some x:=by
 cases x with
 | bE=>cases r;rfl
 | bl _=>cases r;rfl
 | int _=>obtain⟨t,rfl⟩:=r;rfl
 | str _=>obtain⟨t,rfl⟩:=r;rfl
 | sF _=>obtain⟨t,rfl⟩:=r;rfl
 | Mi _=>obtain⟨t,rfl⟩:=r;rfl
 | ref _=>cases r;rfl
 | ty _=>cases r;rfl
theorem RelV.inj {x y:V} {u:Value} (r:RelV x u) (q:RelV y u):x=y:=Option.some.inj (r.abs.symm.trans q.abs)
theorem Vals.inj:∀{xs ys:List V} {us:List Value},Vals xs us->Vals ys us->xs=ys
 | _,_,_,.nil,.nil=>rfl
 | _,_,_,.cons r t,.cons r' t'=>by rw[r.inj r',Vals.inj t t']
section
variable {X:Cx} {pins:List (Addr×Obj)} {σ:St} {H:Hp} {s:Shared} {a:Addr} {xs ys:List V}
theorem aE.of {K:W.Frag} (h:H a=some (.lst xs)):aE K H a xs:=.inl (.inl h)
theorem mY.of {K:W.Frag} (h:H a=some (.tup xs)):mY K H a xs:=.inl (.inl h)
theorem Inv.list (I:Inv X pins σ H s) (h:aE X.K H a xs):∃aL:List Value,Vals xs aL/\PlainL s.heap a aL.toArray/\xs.length<=sizeLine:=by
 rcases h with h | ⟨o,aL,n,hk,hc,hd,hs,hz,r⟩
 ·obtain⟨z,aL,n,r,e⟩:=h.ok I.a9
  exact⟨aL,r,⟨_,n,e,rfl,rfl,rfl⟩,z⟩
 ·refine⟨aL.toList,r,⟨o,n,I.sG a o hk,hc,hd,by simpa using hs⟩,?_⟩
  have e:=r.length
  simp only[Array.length_toList] at e
  omega
theorem Inv.tuple (I:Inv X pins σ H s) (h:mY X.K H a xs):∃aL:List Value,Vals xs aL/\IsTup s.heap a aL.toArray/\xs.length<=sizeLine:=by
 rcases h with h | ⟨o,aL,n,hk,hc,hs,hz,r⟩
 ·obtain⟨z,aL,r,p⟩:=h.ok I.a9
  exact⟨aL,r,p,z⟩
 ·refine⟨aL.toList,r,⟨o,I.sG a o hk,hc,n,by simpa using hs⟩,?_⟩
  have e:=r.length
  simp only[Array.length_toList] at e
  omega
theorem Inv.Hj (I:Inv X pins σ H s) (h:aE X.K H a xs) (h':aE X.K H a ys):xs=ys:=by
 obtain⟨aL,r,⟨o,n,e,_,_,d⟩,_⟩:=I.list h
 obtain⟨qd,r',⟨o',n',e',_,_,d'⟩,_⟩:=I.list h'
 rw[e] at e';cases e'
 rw[d] at d'
 injection d' with d1 _
 have:aL=qd:=by simpa using congrArg Array.toList d1
 subst this
 exact r.inj r'
theorem Inv.Mt (I:Inv X pins σ H s) (h:mY X.K H a xs) (h':mY X.K H a ys):xs=ys:=by
 obtain⟨aL,r,⟨o,e,_,n,d⟩,_⟩:=I.tuple h
 obtain⟨qd,r',⟨o',e',_,n',d'⟩,_⟩:=I.tuple h'
 rw[e] at e';cases e'
 rw[d] at d'
 injection d' with d1 _
 have:aL=qd:=by simpa using congrArg Array.toList d1
 subst this
 exact r.inj r'
end
abbrev Cx.wJ (X:Cx) (E:Value->Shared->Prop):Cx:={ X with xe:=E }
abbrev Cx.Qx (X:Cx):Cx:=X.wJ fun _ _=>False
theorem Cx.Ok.wJ {X:Cx} (ok:X.Ok) (E:Value->Shared->Prop):(X.wJ E).Ok:=
 ⟨ok.mod,ok.kind,ok.glob,ok.blt,ok.above,ok.inj,ok.has,ok.Mp,ok.hd,ok.frames,ok.Qq,ok.Qr,ok.bs,ok.Du,ok.Ha,ok.Hb,ok.tF,ok.Hc⟩
theorem Cx.Ok.sI {X:Cx} {E:Value->Shared->Prop} (ok:(X.wJ E).Ok):X.Ok:=
 ⟨ok.mod,ok.kind,ok.glob,ok.blt,ok.above,ok.inj,ok.has,ok.Mp,ok.hd,ok.frames,ok.Qq,ok.Qr,ok.bs,ok.Du,ok.Ha,ok.Hb,ok.tF,ok.Hc⟩
section
variable {X:Cx} {pins:List (Addr×Obj)} {σ:St} {H:Hp} {s:Shared} {E:Value->Shared->Prop}
theorem Inv.wJ (I:Inv X pins σ H s) (E:Value->Shared->Prop):Inv (X.wJ E) pins σ H s:=⟨I.ok.wJ E,I.os,I.bare,I.base,I.loc,I.cell,I.free,I.o6,I.pin,I.a9,I.len⟩
theorem Inv.sI (I:Inv (X.wJ E) pins σ H s):Inv X pins σ H s:=⟨I.ok.sI,I.os,I.bare,I.base,I.loc,I.cell,I.free,I.o6,I.pin,I.a9,I.len⟩
theorem SP.sI {D:Ends} {f:Flow} {s':Shared} (h:SP (X.wJ E) pins D f s'):SP X pins D f s':=by
 cases f with
 | next=>obtain⟨σ',H',I,q⟩:=h;exact⟨σ',H',I.sI,q⟩
 | brk=>obtain⟨σ',H',I,q⟩:=h;exact⟨σ',H',I.sI,q⟩
 | cont=>obtain⟨σ',H',I,q⟩:=h;exact⟨σ',H',I.sI,q⟩
 | ret u=>obtain⟨v,σ',H',I,r,q⟩:=h;exact⟨v,σ',H',I.sI,r,q⟩
theorem xm.Qx {st:List Stmt} {t:TS} (h:xm X.Qx st t):xm X st t:=fun pins s σ H D I hw=>
 wpAny_mono (h pins s σ H D (I.wJ _) hw) (fun _ _ q=>q.sI) fun _ _ z=>False.elim z
end
section
variable {X:Cx} {st:Stmt} {rest:List Stmt} {t u:TS} {e:Expr} {te:TE} {pos:Pos}
def tNext:TS:=fun D σ H=>D.nx σ H
def tSeq (t u:TS):TS:=fun D σ H=>t { D with nx:=u D } σ H
theorem aI:xm X [] tNext:=fun _ _ σ H _ I h=>wpAny_execs_nil ⟨σ,H,I,h⟩
theorem ae (h1:PS X st t) (h2:xm X rest u):xm X (st::rest) (tSeq t u):=by
 intro pins s σ H D I h
 refine wpAny_execs_cons (bH (h1 pins s σ H { D with nx:=u D } I h) fun f s1 q=>?_)
 cases f with
 | next=>
  obtain⟨σ',H',I',q⟩:=q
  exact h2 pins s1 σ' H' D I' q
 | ret v=>exact q
 | brk=>exact q
 | cont=>exact q
theorem ao (h1:PS X st t):xm X [st] t:=by
 intro pins s σ H D I h
 refine wpAny_execs_cons (bH (h1 pins s σ H D I h) fun f s1 q=>?_)
 cases f with
 | next=>exact wpAny_execs_nil q
 | ret v=>exact q
 | brk=>exact q
 | cont=>exact q
def tCont:TS:=fun D σ H=>D.ct σ H
theorem oU:PS X (.Continue pos) tCont:=fun _ _ σ H _ I h=>wpAny_Continue ⟨σ,H,I,h⟩
theorem Inv.quiet {pins:List (Addr×Obj)} {σ:St} {H:Hp} {s:Shared} (I:Inv X pins σ H s):interactive X.env=false:=by simp[interactive,I.ok.kind]
def tDrop (te:TE):TS:=fun D σ H=>te σ H fun _ H1=>D.nx σ H1
theorem cv (he:PE X e te) (hs:swapsWith e none pos.line X.env=pure false:=by rfl):PS X (.Expr e pos) (tDrop te):=by
 intro pins s σ H D I h
 exact wpAny_Expr_any (bH (he pins s σ H _ I h) fun v s1 ⟨x,H1,I1,r1,q1⟩=>⟨σ,H1,I1,q1⟩) I.quiet hs
def tRet (te:TE):TS:=fun D σ H=>te σ H D.rt
theorem ax (he:PE X e te):PS X (.Return (some e) pos) (tRet te):=by
 intro pins s σ H D I h
 exact wpAny_Return_some (bH (he pins s σ H _ I h) fun v s1 ⟨x,H1,I1,r1,q1⟩=>⟨x,σ,H1,I1,r1,q1⟩)
def tIfS (c:TT) (t u:TS):TS:=fun D σ H=>c σ H fun b H1=>if b=true then t D σ H1 else u D σ H1
theorem aP {c:Expr} {a b:List Stmt} {tc:TT} (hc:PT X c tc) (ha:xm X a t) (hb:xm X b u):PS X (.If c a b pos) (tIfS tc t u):=by
 intro pins s σ H D I h
 refine wpAny_If (bH (hc pins s σ H _ I h) fun d s1 ⟨H1,I1,q1⟩=>?_)
 cases d with
 | true=>exact ha pins s1 σ H1 D I1 q1
 | false=>exact hb pins s1 σ H1 D I1 q1
end
abbrev TG:=V->St->Hp->(St->Hp->Prop)->Prop
def PG (X:Cx) (target:Expr) (t:TG):Prop:=
 ∀(pins:List (Addr×Obj)) (s:Shared) (σ:St) (H:Hp) (v:V) (u:Value) (Q:St->Hp->Prop),Inv X pins σ H s->RelV v u->t v σ H Q->
  wpAny (model X.prog X.w) X.A (assign target X.env u) (fun _ s'=>∃σ' H',Inv X pins σ' H' s'/\Q σ' H') X.xe s
abbrev OG:=V->V->V->Hp->(Hp->Prop)->Prop
def Sh (X:Cx) (t:OG):Prop:=
 ∀(pins:List (Addr×Obj)) (s:Shared) (σ:St) (H:Hp) (o i v:V) (ov iv u:Value) (Q:Hp->Prop),Inv X pins σ H s->RelV o ov->RelV i iv->RelV v u->t o i v H Q->
  wpAny (model X.prog X.w) X.A (setItem ov iv u) (fun _ s'=>∃H',Inv X pins σ H' s'/\Q H') X.xe s
section
variable {X:Cx} {pos:Pos}
def Dx (i:Nat):TG:=fun v σ H Q=>Q (σ.set i (some v)) H
theorem a6 {i:Nat} {x:Str} (hN:X.N.Nodup) (hi:X.N[i]?=some x) (hx:Loc X.env.scope x) (hf:X.fn x=true\/X.env.scope.names.lookup x=some .local:=by first | exact .inl rfl | exact .inr rfl | assumption):PG X (.Name x pos) (Dx i):=by
 intro pins s σ H v u Q I r h
 exact wpAny_assign_Name (Hf I hN hi hx r (fun s' I'=>⟨_,H,I',h⟩) hf)
def gSub (to ti:TE) (t:OG):TG:=fun v σ H Q=>to σ H fun o H1=>ti σ H1 fun i H2=>t o i v H2 fun H3=>Q σ H3
theorem zS {o i:Expr} {to ti:TE} {t:OG} (ho:PE X o to) (hi:PE X i ti) (hs:Sh X t)
  (ha:∀v,assign (.Subscript o i pos) X.env v=(do
   let ov <- holding [v] (eval o X.env)
   let iv <- holding [v,ov] (eval i X.env)
   standAt pos
   holding [v,ov,iv] (setItem ov iv v)
   release [v,ov,iv] []):=by intro _;rfl):PG X (.Subscript o i pos) (gSub to ti t):=by
 intro pins s σ H v u Q I r h
 rw[ha]
 refine wpAny_bind (wpAny_holding (bH (ho pins s σ H _ I h) fun ov s1 ⟨x,H1,I1,r1,q1⟩=>?_))
 refine wpAny_bind (wpAny_holding (bH (hi pins s1 σ H1 _ I1 q1) fun iv s2 ⟨y,H2,I2,r2,q2⟩=>?_))
 refine wpAny_bind (wpAny_standAt (wpAny_bind (wpAny_holding (bH (hs pins s2 σ H2 x y v ov iv u _ I2 r1 r2 r q2) fun _ s3 ⟨H3,I3,q3⟩=>?_))))
 exact wpAny_release ⟨σ,H3,I3,q3⟩
def OH (te:TE) (g:TG):TS:=fun D σ H=>te σ H fun x H1=>g x σ H1 D.nx
theorem zT {tg e:Expr} {te:TE} {g:TG} (he:PE X e te) (hg:PG X tg g) (hs:swapsWithSole [tg] e pos.line X.env=pure false:=by rfl) (hw:swappedStores [tg] e X.env=pure none:=by rfl)
  (h1:(assignEach [tg] X.env).map (·.2)=[assign tg X.env]:=by rfl):PS X (.Assign [tg] e pos) (OH te g):=by
 intro pins s σ H D I h
 refine wpAny_Assign_stores (bH (he pins s σ H _ I h) fun v s1 ⟨x,H1,I1,r1,q1⟩=>?_) hs hw
 rw[h1]
 exact bH (hg pins s1 σ H1 x v _ I1 r1 q1) fun _ s2 q=>q
theorem aG {i:Nat} {x:Str} {e:Expr} {te:TE} {pos':Pos} (hN:X.N.Nodup) (hi:X.N[i]?=some x) (hx:Loc X.env.scope x) (he:PE X e te) (hs:swapsWith e (some (.Name x pos')) pos.line X.env=pure false:=by rfl) (hf:X.fn x=true\/X.env.scope.names.lookup x=some .local:=by first | exact .inl rfl | exact .inr rfl | assumption) :
  PS X (.Assign [.Name x pos'] e pos) (OH te (Dx i)):=by
 intro pins s σ H D I h
 refine wpAny_Assign_Name (bH (he pins s σ H _ I h) fun v s1 ⟨y,H1,I1,r1,q1⟩=>?_) hs
 exact Hf I1 hN hi hx r1 (fun s2 I2=>⟨_,H1,I2,q1⟩) hf
end
section
variable {X:Cx} {pos:Pos}
def Si (c:TT) (tb:TS):TS:=fun D σ H=>∃W:Nat->St->Hp->Prop,(∃m,W m σ H)/\∀m σ H,W m σ H->
 c σ H fun b H1=>if b=true then ∃N:St->Hp->Prop,(∀σ' H',N σ' H'->∃m',m' < m/\W m' σ' H')/\tb { D with nx:=N,ct:=N,bk:=D.nx } σ H1 else D.nx σ H1
theorem CH {c:Expr} {body:List Stmt} {tc:TT} {tb:TS} (hp:PassesOwn (model X.prog X.w) X.A X.env X.xe) (hc:PT X c tc) (hb:xm X body tb):PS X (.While c body [] pos) (Si tc tb):=by
 intro pins s σ H D I h
 obtain⟨W,⟨m0,w0⟩,turn⟩:=h
 refine wpAny_While (codeAny_whileLoop (fun n s'=>∃σ' H',Inv X pins σ' H' s'/\W n σ' H') ?_ m0 ⟨σ,H,I,w0⟩)
 rintro n s1 ⟨σ1,H1,I1,w1⟩
 refine wpAny_passesOwn hp (bH (hc pins s1 σ1 H1 _ I1 (turn n σ1 H1 w1)) fun b s2 ⟨H2,I2,q2⟩=>?_)
 cases b with
 | true=>
  obtain⟨N,hN,q2⟩:=q2
  rw[if_pos rfl]
  refine wpAny_passesOwn hp (bH (hb pins s2 σ1 H2 _ I2 q2) fun f s3 q3=>?_)
  cases f with
  | next=>
   obtain⟨σ3,H3,I3,n3⟩:=q3
   obtain⟨m',hm,w3⟩:=hN σ3 H3 n3
   exact⟨m',hm,σ3,H3,I3,w3⟩
  | cont=>
   obtain⟨σ3,H3,I3,n3⟩:=q3
   obtain⟨m',hm,w3⟩:=hN σ3 H3 n3
   exact⟨m',hm,σ3,H3,I3,w3⟩
  | brk=>exact q3
  | ret v=>exact q3
 | false=>
  rw[if_neg Bool.false_ne_true]
  exact wpAny_execs_nil ⟨σ1,H2,I2,q2⟩
end
structure It where
 go:Nat->Hp->Prop
 B6:Nat->Hp->V->Hp->Prop
 stop:Nat->Hp->Prop
def wK (X:Cx) (pins:List (Addr×Obj)) (H:Hp) (b:Addr):Prop:=
 H b=none/\b≠X.env.locals/\b∉X.fs/\(b∈X.ex\/X.pJ.heap.objs.size<=b)/\(∀x c,X.env.cells.lookup x=some c->c≠b)/\∀p∈X.pn++pins,p.1≠b
theorem Inv.Hk {X:Cx} {pins:List (Addr×Obj)} {σ:St} {H H':Hp} {s:Shared} {b:Addr} (I:Inv X pins σ H s) (hb:s.heap.objs.size<=b) (hn:H' b=none):wK X pins H' b:=by
 refine⟨hn,Nat.ne_of_gt (Nat.lt_of_lt_of_le I.lt hb),I.nofs hb,.inr (Nat.le_trans I.sz hb),fun x c e z=>?_,fun p hp z=>?_⟩
 ·obtain⟨v,q⟩:=I.cell x c e
  exact absurd (Nat.lt_of_lt_of_le q.lt (by rw[z];exact hb)) (Nat.lt_irrefl _)
 ·exact absurd (Nat.lt_of_lt_of_le (Heap.lt_size (I.pin p hp).1) (by rw[z];exact hb)) (Nat.lt_irrefl _)
structure Turn (P:Program) (w:World) (K:W.Frag) (tg:Expr) (J:It) (fp:List Addr) (it:Addr) (tn:Nat->Heap->Prop):Prop where
 mem:it∈fp
 obj:∀i h,tn i h->∀b∈fp,∃o,h.get? b=some o/\∀v,o.data ≠ .cell v
 keep:∀i h h',tn i h->(∀b∈fp,∀o,h.get? b=some o->h'.get? b=some o)->tn i h'
 item:∀(X:Cx),X.prog=P->X.w=w->X.K=K->X.calm=true->∀(i:Nat) (pins:List (Addr×Obj)) (s:Shared) (σ:St) (H:Hp) (E:Value->Shared->Prop),Inv X pins σ H s->(∀b∈fp,wK X pins H b)->tn i s.heap->J.go i H->
  wpAny (model P w) X.A (pyNext (.ref it)) (fun r s1=>∃u,r=some u/\
   wpAny (model P w) X.A (letOwnedTupleGo tg (.ref it) u) (fun _ s2=>∃x H',Inv X pins σ H' s2/\RelV x u/\J.B6 i H x H'/\tn (i+1) s2.heap/\∀b∈fp,H' b=none) E s1) E s
 done:∀(X:Cx),X.prog=P->X.w=w->X.K=K->X.calm=true->∀(i:Nat) (pins:List (Addr×Obj)) (s:Shared) (σ:St) (H:Hp) (E:Value->Shared->Prop),Inv X pins σ H s->(∀b∈fp,wK X pins H b)->tn i s.heap->J.stop i H->
  wpAny (model P w) X.A (pyNext (.ref it)) (fun r s1=>r=none/\Inv X pins σ H s1) E s
 self:∀(A:Around) (i:Nat) (s:Shared) (Q:Value->Shared->Prop) (E:Value->Shared->Prop),tn i s.heap->Q (.ref it) s->wpAny (model P w) A (pyIter (.ref it)) Q E s
abbrev TI:=St->Hp->(It->Hp->Prop)->Prop
def Sj (X:Cx) (pins:List (Addr×Obj)) (σ:St) (tg:Expr) (R:It->Hp->Prop) (Sk:Value) (s2:Shared):Prop:=
 ∃(it:Addr) (fp:List Addr) (tn:Nat->Heap->Prop) (J:It) (H':Hp),Sk = .ref it/\Inv X pins σ H' s2/\Turn X.prog X.w X.K tg J fp it tn/\tn 0 s2.heap/\(∀b∈fp,wK X pins H' b)/\R J H'
def PI (X:Cx) (tg iter:Expr) (wi:TI):Prop:=
 ∀(pins:List (Addr×Obj)) (s:Shared) (σ:St) (H:Hp) (R:It->Hp->Prop),Inv X pins σ H s->wi σ H R->
  wpAny (model X.prog X.w) X.A (eval iter X.env) (fun v s1=>wpAny (model X.prog X.w) X.A (pyIter v) (Sj X pins σ tg R) X.xe s1) X.xe s
theorem Dy {M:Model} {A:Around} {E:Value->Shared->Prop} {s:Shared} {tg:Expr} {it:Addr} {u:Value} {o:Obj} {n:String} {vs:Array Value} {Q:Unit->Shared->Prop} (ho:s.heap.get? it=some o) (hc:o.cls = .type n) (hd:o.data = .fields vs)
    (hn:["enumerate","zip","dict_itemiterator","dict_reverseitemiterator","odict_iterator","itertools.zip_longest","itertools.pairwise"].contains n=false) (hQ:Q () s):wpAny M A (letOwnedTupleGo tg (.ref it) u) Q E s:=by
  unfold letOwnedTupleGo
  cases tg <;> first
    | exact wpAny_pure hQ
    | (cases u <;> first
        | exact wpAny_pure hQ
        | (refine wpAny_bind (wpAny_load ho ?_)
           rw[hc,hd]
           show wpAny M A (if (["enumerate","zip","dict_itemiterator","dict_reverseitemiterator","odict_iterator","itertools.zip_longest","itertools.pairwise"].contains n&&vs[0]? == some (rawInt _))=true then _ else _) Q E s
           rw[if_neg (by intro h;rw[hn,Bool.false_and] at h;cases h)]
           exact wpAny_pure hQ))
def FL (K:W.Frag) (a:Addr):It:=
 ⟨fun i H=>∃xs x,aE K H a xs/\xs[i]?=some x,fun i H x H'=>H'=H/\∀xs,aE K H a xs->xs[i]?=some x,fun i H=>∃xs,aE K H a xs/\xs.length<=i⟩
def Mu (K:W.Frag) (a:Addr):It:=
 ⟨fun i H=>∃xs x,mY K H a xs/\xs[i]?=some x,fun i H x H'=>H'=H/\∀xs,mY K H a xs->xs[i]?=some x,fun i H=>∃xs,mY K H a xs/\xs.length<=i⟩
def B7 (lo:Int) (n:Nat):It:=⟨fun i _=>i<n,fun i H x H'=>H'=H/\x = .int (lo+i),fun i _=>n<=i⟩
theorem Mv {P:Program} {w:World} {K:W.Frag} {tg:Expr} (a it:Addr):Turn P w K tg (FL K a) [it] it (fun i h=>h.IsListIter it a i) where
 mem:=by simp
 obj:=fun i h st b hb=>by
  have e:b=it:=by simpa using hb
  subst e
  obtain⟨o,e,c,d⟩:=st
  exact⟨o,e,fun v z=>by rw[d] at z;cases z⟩
 keep:=fun i h h' st k=>st.at fun o e=>k it (by simp) o e
 item:=by
  intro X hP hw hK hc i pins s σ H E I hf st hg
  subst hP hw hK
  obtain⟨xs,x,hq,hx⟩:=hg
  obtain⟨aL,rv,p,hz⟩:=I.list hq
  obtain⟨u,hu,ru⟩:=rv.get hx
  obtain⟨f0,f1,f2,f3,f4,f5⟩:=hf it (by simp)
  refine wpAny_pyNext_list_item st p.isList (x:=u) (by simpa using hu) fun h' vb sb=>?_
  have I1:Inv X pins σ H { s with heap:=h' }:=I.turned (t':=s.toks) (fun b o hb e=>(sb.2 b hb).trans e) f0 f1 f3 f4 f5
  obtain⟨o,e,c,d⟩:=id vb
  exact⟨u,rfl,Dy (s:={ s with heap:=h' }) e c d (by decide) ⟨x,H,I1,ru,⟨rfl,fun ys hy=>by rw[I.Hj hy hq];exact hx⟩,vb,fun b hb=>(hf b hb).1⟩⟩
 done:=by
  intro X hP hw hK hc i pins s σ H E I hf st hg
  subst hP hw hK
  obtain⟨xs,hq,hx⟩:=hg
  obtain⟨aL,rv,p,hz⟩:=I.list hq
  obtain⟨f0,f1,f2,f3,f4,f5⟩:=hf it (by simp)
  have hl:=rv.length
  exact wpAny_pyNext_list_end (I.ok.hd hc) st p.isList (by simp;omega) fun h' eb=>⟨rfl,I.turned (t':=s.toks) (fun b o hb e=>eb b o hb e) f0 f1 f3 f4 f5⟩
 self:=fun _ _ _ _ _ st h=>wpAny_pyIter_listiter st h
theorem Ld {P:Program} {w:World} {K:W.Frag} {tg:Expr} (a it:Addr):Turn P w K tg (Mu K a) [it] it (fun i h=>h.IsTupleIter it a i) where
 mem:=by simp
 obj:=fun i h st b hb=>by
  have e:b=it:=by simpa using hb
  subst e
  obtain⟨o,e,c,d⟩:=st
  exact⟨o,e,fun v z=>by rw[d] at z;cases z⟩
 keep:=fun i h h' st k=>st.at fun o e=>k it (by simp) o e
 item:=by
  intro X hP hw hK hc i pins s σ H E I hf st hg
  subst hP hw hK
  obtain⟨xs,x,hq,hx⟩:=hg
  obtain⟨aL,rv,p,hz⟩:=I.tuple hq
  obtain⟨u,hu,ru⟩:=rv.get hx
  obtain⟨f0,f1,f2,f3,f4,f5⟩:=hf it (by simp)
  refine wpAny_pyNext_tuple_item st (show s.heap.IsTuple a aL.toArray from p) (x:=u) (by simpa using hu) fun h' vb sb=>?_
  have I1:Inv X pins σ H { s with heap:=h' }:=I.turned (t':=s.toks) (fun b o hb e=>(sb.2 b hb).trans e) f0 f1 f3 f4 f5
  obtain⟨o,e,c,d⟩:=id vb
  exact⟨u,rfl,Dy (s:={ s with heap:=h' }) e c d (by decide) ⟨x,H,I1,ru,⟨rfl,fun ys hy=>by rw[I.Mt hy hq];exact hx⟩,vb,fun b hb=>(hf b hb).1⟩⟩
 done:=by
  intro X hP hw hK hc i pins s σ H E I hf st hg
  subst hP hw hK
  obtain⟨xs,hq,hx⟩:=hg
  obtain⟨aL,rv,p,hz⟩:=I.tuple hq
  obtain⟨f0,f1,f2,f3,f4,f5⟩:=hf it (by simp)
  have hl:=rv.length
  exact wpAny_pyNext_tuple_end (I.ok.hd hc) st (show s.heap.IsTuple a aL.toArray from p) (by simp;omega) fun h' eb=>⟨rfl,I.turned (t':=s.toks) (fun b o hb e=>eb b o hb e) f0 f1 f3 f4 f5⟩
 self:=fun _ _ _ _ _ st h=>wpAny_pyIter_tupleiter st h
theorem Le {P:Program} {w:World} {K:PySem.W.Frag} {tg:Expr} (it:Addr) (lo:Int) (n:Nat):Turn P w K tg (B7 lo n) [it] it (fun i h=>IsRangeIter h it (lo+(i:Nat)*1) ((n:Int)-(i:Nat)) 1) where
 mem:=by simp
 obj:=fun i h st b hb=>by
  have e:b=it:=by simpa using hb
  subst e
  exact⟨_,st,fun v z=>by
   have z':Data.fields _=Data.cell v:=z
   cases z'⟩
 keep:=fun i h h' st k=>k it (by simp) _ st
 item:=by
  intro X hP hw hK hc i pins s σ H E I hf st hg
  subst hP hw hK
  obtain⟨f0,f1,f2,f3,f4,f5⟩:=hf it (by simp)
  have W:=Walks.range (prog:=X.prog) (w:=X.w) (I.ok.hd hc) it lo 1 n
  refine W.item i s _ _ hg st fun v h' tk hv vb kk=>?_
  obtain⟨t,rfl⟩:=hv
  have I1:Inv X pins σ H { s with heap:=h',toks:=tk }:=I.turned (fun b o hb e=>kk b o (by simpa using hb) e) f0 f1 f3 f4 f5
  refine⟨_,rfl,Dy (s:={ s with heap:=h',toks:=tk }) (n:="range_iterator") vb rfl rfl (by decide) ⟨.int (lo+i),H,I1,⟨t,?_⟩,⟨rfl,rfl⟩,vb,fun b hb=>(hf b hb).1⟩⟩
  rw[Int.mul_one]
 done:=by
  intro X hP hw hK hc i pins s σ H E I hf st hg
  subst hP hw hK
  obtain⟨f0,f1,f2,f3,f4,f5⟩:=hf it (by simp)
  exact wpAny_pyNext_range_end (I.ok.hd hc) st (by have:n<=i:=hg;omega) fun h' eb=>⟨rfl,I.turned (t':=s.toks) (fun b o hb e=>eb b o hb e) f0 f1 f3 f4 f5⟩
 self:=fun _ _ _ _ _ st h=>wpAny_pyIter_rangeiter st h
section
variable {X:Cx} {tg:Expr}
def iList (K:W.Frag) (tl:TE):TI:=fun σ H R=>tl σ H fun x H1=>∃a,x = .ref a/\(∃xs,aE K H1 a xs)/\R (FL K a) H1
def iTup (K:W.Frag) (tl:TE):TI:=fun σ H R=>tl σ H fun x H1=>∃a,x = .ref a/\(∃xs,mY K H1 a xs)/\R (Mu K a) H1
theorem bz {l:Expr} {tl:TE} (hl:PE X l tl):PI X tg l (iList X.K tl):=by
 intro pins s σ H R I h
 refine bH (hl pins s σ H _ I h) fun v s1 ⟨x,H1,I1,r1,q1⟩=>?_
 obtain⟨a,e,⟨xs,hq⟩,q⟩:=q1
 subst e
 cases r1
 obtain⟨aL,rv,p,hz⟩:=I1.list hq
 refine wpAny_pyIter_list p.isList ?_
 refine⟨s1.heap.objs.size,[s1.heap.objs.size],_,_,H1,rfl,I1.kept (t':=s1.toks) fun b o e=>Heap.get?_push_of_some _ e,Mv a _,⟨_,Heap.get?_push_size _ rfl,rfl,rfl⟩,fun b hb=>?_,q⟩
 have e:b=s1.heap.objs.size:=by simpa using hb
 subst e
 exact I1.Hk (Nat.le_refl _) (I1.a9.fresh (Nat.le_refl _))
theorem Sl {l:Expr} {tl:TE} (hl:PE X l tl):PI X tg l (iTup X.K tl):=by
 intro pins s σ H R I h
 refine bH (hl pins s σ H _ I h) fun v s1 ⟨x,H1,I1,r1,q1⟩=>?_
 obtain⟨a,e,⟨xs,hq⟩,q⟩:=q1
 subst e
 cases r1
 obtain⟨aL,rv,p,hz⟩:=I1.tuple hq
 refine wpAny_pyIter_tuple (show s1.heap.IsTuple a aL.toArray from p) ?_
 refine⟨s1.heap.objs.size,[s1.heap.objs.size],_,_,H1,rfl,I1.kept (t':=s1.toks) fun b o e=>Heap.get?_push_of_some _ e,Ld a _,⟨_,Heap.get?_push_size _ rfl,rfl,rfl⟩,fun b hb=>?_,q⟩
 have e:b=s1.heap.objs.size:=by simpa using hb
 subst e
 exact I1.Hk (Nat.le_refl _) (I1.a9.fresh (Nat.le_refl _))
theorem Hl {pins:List (Addr×Obj)} {σ:St} {H:Hp} {s:Shared} {R:It->Hp->Prop} {E:Value->Shared->Prop} {lo hi:Int} {t u v:Tok} {tk:Nat} (I:Inv X pins σ H s) (h1:-(2 ^ 62)<=lo) (h2:lo<2 ^ 62) (h3:-(2 ^ 62)<=hi) (h4:hi<2 ^ 62)
  (q:R (B7 lo (hi-lo).toNat) H):wpAny (model X.prog X.w) X.A (pyIter (.ref s.heap.objs.size)) (Sj X pins σ tg R) E { s with heap:=s.heap.push { cls:=.type "range",data:=.fields #[.int lo t,.int hi u,.int 1 v] },toks:=tk }:=by
 refine wpAny_pyIter_range (IsRange.new ..) (small_one h1 h2 h3 h4) ?_
 have I1:Inv X pins σ H { s with heap:=s.heap.push { cls:=.type "range",data:=.fields #[.int lo t,.int hi u,.int 1 v] },toks:=tk }:=I.kept fun b o e=>Heap.get?_push_of_some _ e
 refine⟨(s.heap.push { cls:=.type "range",data:=.fields #[.int lo t,.int hi u,.int 1 v] }).objs.size,[(s.heap.push { cls:=.type "range",data:=.fields #[.int lo t,.int hi u,.int 1 v] }).objs.size],_,_,H,rfl,
  I1.kept (t':=tk) fun b o e=>Heap.get?_push_of_some _ e,Le _ lo (hi-lo).toNat,?_,fun b hb=>?_,q⟩
 ·have e1:lo+((0:Nat):Int)*1=lo:=by simp
  have e2:(((hi-lo).toNat:Nat):Int)-((0:Nat):Int)=Builtin.Range.rangeSize lo hi 1:=by rw[rangeSize_one];split <;> omega
  show IsRangeIter _ _ (lo+((0:Nat):Int)*1) ((((hi-lo).toNat:Nat):Int)-((0:Nat):Int)) 1
  rw[e1,e2]
  exact Heap.get?_push_size _ rfl
 ·have e:b=(s.heap.push { cls:=.type "range",data:=.fields #[.int lo t,.int hi u,.int 1 v] }).objs.size:=by simpa using hb
  subst e
  exact I1.Hk (Nat.le_refl _) (I1.a9.fresh (Nat.le_refl _))
def iRng1 (ta:TA):TI:=fun σ H R=>ta σ H fun vs H1=>∃j:Int,vs=[.int j]/\-(2 ^ 62)<=j/\j<2 ^ 62/\R (B7 0 j.toNat) H1
def iRng2 (ta:TA):TI:=fun σ H R=>ta σ H fun vs H1=>∃i j:Int,vs=[.int i,.int j]/\(-(2 ^ 62)<=i/\i<2 ^ 62/\-(2 ^ 62)<=j/\j<2 ^ 62)/\R (B7 i (j-i).toNat) H1
theorem lK {a:Expr} {ta:TA} {p pos:Pos} (hg:Gl X "range") (hm:X.mg "range"=none) (ha:PA X [a] ta) (hs:starEach [a] X.env=[(false,eval a X.env)]:=by rfl):PI X tg (.Call (.Name "range" p) [a] [] pos) (iRng1 ta):=by
 intro pins s σ H R I h
 refine Call_ (sH I hg hm boot_range (PyProof.Rows.callWith_type1 (bH (ha pos pins s σ H _ I h) fun us s1 ⟨vs,H1,I1,r1,q1⟩=>?_) hs rfl))
 obtain⟨j,e,q1,q2,q⟩:=q1
 subst e
 cases r1 with
 | cons r rr=>
  cases rr
  obtain⟨t,rfl⟩:=r
  exact call_range_1 (Hl I1 (by omega) (by omega) q1 q2 (by simpa using q))
theorem Mw {a b:Expr} {ta:TA} {p pos:Pos} (hg:Gl X "range") (hm:X.mg "range"=none) (ha:PA X [a,b] ta) (hs:starEach [a,b] X.env=[(false,eval a X.env),(false,eval b X.env)]:=by rfl) (t7:starEach [b] X.env=[(false,eval b X.env)]:=by rfl) :
  PI X tg (.Call (.Name "range" p) [a,b] [] pos) (iRng2 ta):=by
 intro pins s σ H R I h
 refine Call_ (sH I hg hm boot_range (PyProof.Rows.callWith_type1 (bH (ha pos pins s σ H _ I h) fun us s1 ⟨vs,H1,I1,r1,q1⟩=>?_) (by rw[hs,t7]) (by rw[t7];rfl)))
 obtain⟨i,j,e,⟨q1,q2,q3,q4⟩,q⟩:=q1
 subst e
 cases r1 with
 | cons r rr=>
  cases rr with
  | cons r' rr=>
   cases rr
   obtain⟨t,rfl⟩:=r
   obtain⟨t',rfl⟩:=r'
   exact call_range_2 (Hl I1 q1 q2 q3 q4 q)
def tFor (wi:TI) (g:TG) (tb:TS):TS:=fun D σ H=>wi σ H fun J H1=>∃W:Nat->Nat->St->Hp->Prop,(∃m,W 0 m σ H1)/\∀i m σ H,W i m σ H->
 (J.stop i H/\D.nx σ H)\/(J.go i H/\∃N:St->Hp->Prop,(∀σ' H',N σ' H'->∃m',m' < m/\W (i+1) m' σ' H')/\∀x H',J.B6 i H x H'->g x σ H' fun σ2 H2=>tb { D with nx:=N,ct:=N,bk:=D.nx } σ2 H2)
def zU (fp:List Addr) (h:Heap):List (Addr×Obj):=fp.filterMap fun b=>(h.get? b).map fun o=>(b,o)
theorem yk {fp:List Addr} {h:Heap} {b:Addr} {o:Obj} (hb:b∈fp) (e:h.get? b=some o):(b,o)∈zU fp h:=List.mem_filterMap.mpr ⟨b,hb,by rw[e];rfl⟩
theorem Mx {fp:List Addr} {h:Heap} {p:Addr×Obj} (hp:p∈zU fp h):p.1∈fp/\h.get? p.1=some p.2:=by
 obtain⟨b,hb,e⟩:=List.mem_filterMap.mp hp
 cases q:h.get? b with
 | none=>rw[q] at e;cases e
 | some o=>
  rw[q] at e
  have e':(b,o)=p:=Option.some.inj e
  subst e'
  exact⟨hb,q⟩
theorem Inv.pinned {pins:List (Addr×Obj)} {σ:St} {H:Hp} {s:Shared} {fp:List Addr} (I:Inv X pins σ H s) (hf:∀b∈fp,wK X pins H b) (ho:∀b∈fp,∃o,s.heap.get? b=some o/\∀v,o.data ≠ .cell v):Inv X (pins++zU fp s.heap) σ H s:=
 I.JV fun p hp=>(mem_append.mp hp).elim (fun z=>I.pin p (List.mem_append_right _ z)) fun z=>by
  obtain⟨hb,e⟩:=Mx z
  obtain⟨f0,f1,f2,_⟩:=hf p.1 hb
  obtain⟨o,e',d⟩:=ho p.1 hb
  rw[e] at e';cases e'
  exact⟨e,f0,f1,f2,d⟩
theorem Inv.yl {pins pl:List (Addr×Obj)} {σ:St} {H:Hp} {s:Shared} (I:Inv X (pins++pl) σ H s):Inv X pins σ H s:=I.JV fun p hp=>I.pin p (List.mem_append_right _ (List.mem_append_left _ hp))
theorem cq {iter:Expr} {body:List Stmt} {wi:TI} {g:TG} {tb:TS} {pos:Pos} (hp:PassesOwn (model X.prog X.w) X.A X.env X.xe) (hc:X.calm=true) (hi:PI X tg iter wi) (hg:PG X tg g) (hb:xm X body tb)
  (hs:∀x,foldedSetIterable iter X.env x=pure x:=by intro _;rfl):PS X (.For tg iter body [] pos) (tFor wi g tb):=by
 intro pins s σ H D I h
 refine wpAny_For (bH (hi pins s σ H _ I h) fun v s1 h1=>bH h1 fun Sk s2 h2=>?_) hs
 obtain⟨it,fp,tn,J,H2,e,I2,T,Hm,f2,W,⟨m0,w0⟩,turn⟩:=h2
 subst e
 have CI:∀{H':Hp},(∀b∈fp,H' b=none)->∀b∈fp,wK X pins H' b:=fun hn b hb=>⟨hn b hb,(f2 b hb).2⟩
 refine codeAny_forLoop_any (fun n s'=>∃i σ' H',Inv X pins σ' H' s'/\tn i s'.heap/\(∀b∈fp,H' b=none)/\W i n σ' H') ?_ m0 ⟨0,σ,H2,I2,Hm,fun b hb=>(f2 b hb).1,w0⟩
 rintro n s3 ⟨i,σ3,H3,I3,Hn,fr3,w3⟩
 rcases turn i n σ3 H3 w3 with ⟨stop,qn⟩|⟨go,N,hN,step⟩
 ·refine wpAny_passesOwn hp (bH (T.done X rfl rfl rfl hc i pins s3 σ3 H3 X.xe I3 (CI fr3) Hn stop) fun r s4 ⟨hr,I4⟩=>?_)
  subst hr
  exact wpAny_execs_nil ⟨σ3,H3,I4,qn⟩
 ·refine wpAny_passesOwn hp (bH (T.item X rfl rfl rfl hc i pins s3 σ3 H3 X.xe I3 (CI fr3) Hn go) fun r s4 ⟨u,hr,h4⟩=>?_)
  subst hr
  refine wpAny_passesOwn hp (bH h4 fun _ s5 ⟨x,H5,I5,r5,y5,Dz,fr5⟩=>?_)
  have I5':=I5.pinned (CI fr5) (T.obj _ _ Dz)
  refine wpAny_passesOwn hp (bH (hg _ s5 σ3 H5 x u _ I5' r5 (step x H5 y5)) fun _ s6 ⟨σ6,H6,I6,q6⟩=>?_)
  refine wpAny_passesOwn hp (bH (hb _ s6 σ6 H6 _ I6 q6) fun f s7 q7=>?_)
  have again:∀{σ7:St} {H7:Hp},Inv X (pins++zU fp s5.heap) σ7 H7 s7->N σ7 H7->∃m,m<n/\∃i σ' H',Inv X pins σ' H' s7/\tn i s7.heap/\(∀b∈fp,H' b=none)/\W i m σ' H':=fun {σ7 H7} I7 n7=>by
   obtain⟨m',hm,w7⟩:=hN σ7 H7 n7
   refine⟨m',hm,i+1,σ7,H7,I7.yl,T.keep _ _ _ Dz fun b hb o e=>(I7.pin (b,o) (List.mem_append_right _ (List.mem_append_right _ (yk hb e)))).1,fun b hb=>?_,w7⟩
   obtain⟨o,e,d⟩:=T.obj _ _ Dz b hb
   exact(I7.pin (b,o) (List.mem_append_right _ (List.mem_append_right _ (yk hb e)))).2.1
  cases f with
  | next=>obtain⟨σ7,H7,I7,n7⟩:=q7;exact again I7 n7
  | cont=>obtain⟨σ7,H7,I7,n7⟩:=q7;exact again I7 n7
  | brk=>obtain⟨σ7,H7,I7,q7⟩:=q7;exact⟨σ7,H7,I7.yl,q7⟩
  | ret v=>obtain⟨x7,σ7,H7,I7,r7,q7⟩:=q7;exact⟨x7,σ7,H7,I7.yl,r7,q7⟩
end
theorem ck {K:PySem.W.Frag} {a:Addr} {xs:List V} {g:TG} {tb:TS} {D:Ends} {σ:St} {H:Hp} (Pv:Nat->St->Hp->Prop) (h0:Pv 0 σ H) (hl:∀i σ H,i<=xs.length->Pv i σ H->aE K H a xs)
  (hs:∀i x σ H,xs[i]?=some x->Pv i σ H->g x σ H fun σ2 H2=>tb { D with nx:=Pv (i+1),ct:=Pv (i+1),bk:=D.nx } σ2 H2) (hd:∀σ H,Pv xs.length σ H->D.nx σ H) :
  ∃W:Nat->Nat->St->Hp->Prop,(∃m,W 0 m σ H)/\∀i m σ H,W i m σ H->
   ((FL K a).stop i H/\D.nx σ H)\/((FL K a).go i H/\∃N:St->Hp->Prop,(∀σ' H',N σ' H'->∃m',m' < m/\W (i+1) m' σ' H')/\∀x H',(FL K a).B6 i H x H'->g x σ H' fun σ2 H2=>tb { D with nx:=N,ct:=N,bk:=D.nx } σ2 H2):=by
 refine⟨fun i m σ H=>m=xs.length-i/\i<=xs.length/\Pv i σ H,⟨xs.length,by simp,Nat.zero_le _,h0⟩,?_⟩
 rintro i m σ H ⟨rfl,hi,p⟩
 have q:=hl i σ H hi p
 by_cases eO:i<xs.length
 ·refine .inr ⟨⟨xs,xs[i],q,by simp[eO]⟩,Pv (i+1),fun σ' H' p'=>⟨xs.length-(i+1),by omega,rfl,eO,p'⟩,fun x H' y=>?_⟩
  obtain⟨e,y⟩:=y
  subst e
  exact hs i x σ _ (y xs q) p
 ·have e:i=xs.length:=by omega
  subst e
  exact .inl ⟨⟨xs,q,Nat.le_refl _⟩,hd σ H p⟩
theorem Rz {K:PySem.W.Frag} {a:Addr} {xs:List V} {g:TG} {tb:TS} {D:Ends} {σ:St} {H:Hp} (Pv:Nat->St->Hp->Prop) (h0:Pv 0 σ H) (hl:∀i σ H,i<=xs.length->Pv i σ H->mY K H a xs)
  (hs:∀i x σ H,xs[i]?=some x->Pv i σ H->g x σ H fun σ2 H2=>tb { D with nx:=Pv (i+1),ct:=Pv (i+1),bk:=D.nx } σ2 H2) (hd:∀σ H,Pv xs.length σ H->D.nx σ H) :
  ∃W:Nat->Nat->St->Hp->Prop,(∃m,W 0 m σ H)/\∀i m σ H,W i m σ H->
   ((Mu K a).stop i H/\D.nx σ H)\/((Mu K a).go i H/\∃N:St->Hp->Prop,(∀σ' H',N σ' H'->∃m',m' < m/\W (i+1) m' σ' H')/\∀x H',(Mu K a).B6 i H x H'->g x σ H' fun σ2 H2=>tb { D with nx:=N,ct:=N,bk:=D.nx } σ2 H2):=by
 refine⟨fun i m σ H=>m=xs.length-i/\i<=xs.length/\Pv i σ H,⟨xs.length,by simp,Nat.zero_le _,h0⟩,?_⟩
 rintro i m σ H ⟨rfl,hi,p⟩
 have q:=hl i σ H hi p
 by_cases eO:i<xs.length
 ·refine .inr ⟨⟨xs,xs[i],q,by simp[eO]⟩,Pv (i+1),fun σ' H' p'=>⟨xs.length-(i+1),by omega,rfl,eO,p'⟩,fun x H' y=>?_⟩
  obtain⟨e,y⟩:=y
  subst e
  exact hs i x σ _ (y xs q) p
 ·have e:i=xs.length:=by omega
  subst e
  exact .inl ⟨⟨xs,q,Nat.le_refl _⟩,hd σ H p⟩
theorem pL {lo:Int} {n:Nat} {g:TG} {tb:TS} {D:Ends} {σ:St} {H:Hp} (Pv:Nat->St->Hp->Prop) (h0:Pv 0 σ H)
  (hs:∀i σ H,i<n->Pv i σ H->g (.int (lo+i)) σ H fun σ2 H2=>tb { D with nx:=Pv (i+1),ct:=Pv (i+1),bk:=D.nx } σ2 H2) (hd:∀σ H,Pv n σ H->D.nx σ H) :
  ∃W:Nat->Nat->St->Hp->Prop,(∃m,W 0 m σ H)/\∀i m σ H,W i m σ H->
   ((B7 lo n).stop i H/\D.nx σ H)\/((B7 lo n).go i H/\∃N:St->Hp->Prop,(∀σ' H',N σ' H'->∃m',m' < m/\W (i+1) m' σ' H')/\∀x H',(B7 lo n).B6 i H x H'->g x σ H' fun σ2 H2=>tb { D with nx:=N,ct:=N,bk:=D.nx } σ2 H2):=by
 refine⟨fun i m σ H=>m=n-i/\i<=n/\Pv i σ H,⟨n,by simp,Nat.zero_le _,h0⟩,?_⟩
 rintro i m σ H ⟨rfl,hi,p⟩
 by_cases eO:i<n
 ·refine .inr ⟨eO,Pv (i+1),fun σ' H' p'=>⟨n-(i+1),by omega,rfl,eO,p'⟩,fun x H' y=>?_⟩
  obtain⟨e,y⟩:=y
  subst e y
  exact hs i σ _ eO p
 ·have e:i=n:=by omega
  subst e
  exact .inl ⟨Nat.le_refl _,hd σ H p⟩
abbrev R2:=V->V->Hp->VK->Prop
def oG (X:Cx) (f:Value->Value->Sem Value) (r:R2):Prop:=
 ∀(pins:List (Addr×Obj)) (s:Shared) (σ:St) (H:Hp) (x y:V) (v u:Value) (Q:VK),Inv X pins σ H s->RelV x v->RelV y u->r x y H Q->
  wpAny (model X.prog X.w) X.A (f v u) (EP X pins σ Q) X.xe s
def Sm (X:Cx) (f:Value->Sem Value) (r:V->Hp->VK->Prop):Prop:=
 ∀(pins:List (Addr×Obj)) (s:Shared) (σ:St) (H:Hp) (x:V) (v:Value) (Q:VK),Inv X pins σ H s->RelV x v->r x H Q->
  wpAny (model X.prog X.w) X.A (f v) (EP X pins σ Q) X.xe s
def ym (X:Cx) (f:Value) (r:List V->Hp->VK->Prop):Prop:=
 ∀(pins:List (Addr×Obj)) (s:Shared) (σ:St) (H:Hp) (xs:List V) (us:List Value) (Q:VK),Inv X pins σ H s->Vals xs us->r xs H Q->
  wpAny (model X.prog X.w) X.A (call f us) (EP X pins σ Q) X.xe s
def Qy (r:R2) (ta tb:TE):TE:=fun σ H Q=>ta σ H fun x H1=>tb σ H1 fun y H2=>r x y H2 Q
def tUn (r:V->Hp->VK->Prop) (ta:TE):TE:=fun σ H Q=>ta σ H fun x H1=>r x H1 Q
def rI (C:Int->Int->Prop) (g:Int->Int->V):R2:=fun x y H Q=>∃i j,x = .int i/\y = .int j/\C i j/\Q (g i j) H
def FN (g:Int->Int->V):R2:=fun x y H Q=>∃i j,x = .int i/\y = .int j/\Q (g i j) H
def rU (g:Int->V):V->Hp->VK->Prop:=fun x H Q=>∃i,x = .int i/\Q (g i) H
section
variable {X:Cx} {a b c:Expr} {ta tb tc:TE} {pos:Pos}
theorem OI (ha:PE X a ta) (hb:PE X b tb) {pins:List (Addr×Obj)} {s:Shared} {σ:St} {H:Hp} {R:V->V->Hp->Prop} (I:Inv X pins σ H s)
  (h:ta σ H fun x H1=>tb σ H1 fun y H2=>R x y H2) {Q:Value->Shared->Prop} {f:Value->Value->Sem Value}
  (hf:∀v u s2 x y H2,Inv X pins σ H2 s2->RelV x v->RelV y u->R x y H2->wpAny (model X.prog X.w) X.A (f v u) Q X.xe s2) :
  wpAny (model X.prog X.w) X.A (eval a X.env) (fun v s₁=>wpAny (model X.prog X.w) X.A (eval b X.env) (fun u s₂=>wpAny (model X.prog X.w) X.A (f v u) Q X.xe s₂) X.xe s₁) X.xe s:=by
 refine bH (ha pins s σ H _ I h) fun v s1 ⟨x,H1,I1,r1,q1⟩=>?_
 refine bH (hb pins s1 σ H1 _ I1 q1) fun u s2 ⟨y,H2,I2,r2,q2⟩=>?_
 exact hf v u s2 x y H2 I2 r1 r2 q2
theorem dM {op:Operator} {r:R2} (ho:oG X (binaryOp op) r) (ha:PE X a ta) (hb:PE X b tb):PE X (.BinOp a op b pos) (Qy r ta tb):=by
 intro pins s σ H Q I h
 exact wpAny_BinOp (OI ha hb I h fun v u s2 x y H2 I2 rx ry q=>ho pins s2 σ H2 x y v u Q I2 rx ry q)
theorem mZ {op:UnaryOp} {r:V->Hp->VK->Prop} (ho:Sm X (unaryOp op) r) (ha:PE X a ta):PE X (.UnaryOp op a pos) (tUn r ta):=by
 intro pins s σ H Q I h
 exact UnaryOp_ (bH (ha pins s σ H _ I h) fun v s1 ⟨x,H1,I1,r1,q1⟩=>ho pins s1 σ H1 x v Q I1 r1 q1)
theorem opI {f:Value->Value->Sem Value} {C:Int->Int->Prop} {g:Int->Int->Int}
  (rule:∀(i j:Int) (t u:Tok) (s:Shared) (Q:Value->Shared->Prop) (E:Value->Shared->Prop),C i j->Q (.int (g i j) s.toks) { s with toks:=s.toks+1 }->wpAny (model X.prog X.w) X.A (f (.int i t) (.int j u)) Q E s) :
  oG X f (rI C fun i j=>.int (g i j)):=by
 intro pins s σ H x y v u Q I rx ry h
 obtain⟨i,j,rfl,rfl,hc,q⟩:=h
 obtain⟨t,rfl⟩:=rx
 obtain⟨t',rfl⟩:=ry
 exact rule i j t t' s _ _ hc ⟨.int (g i j),H,I.tok _,⟨_,rfl⟩,q⟩
theorem Sn {f:Value->Value->Sem Value} {g:Int->Int->Int}
  (rule:∀(i j:Int) (t u:Tok) (s:Shared) (Q:Value->Shared->Prop) (E:Value->Shared->Prop),Q (.int (g i j) s.toks) { s with toks:=s.toks+1 }->wpAny (model X.prog X.w) X.A (f (.int i t) (.int j u)) Q E s) :
  oG X f (FN fun i j=>.int (g i j)):=by
 intro pins s σ H x y v u Q I rx ry h
 obtain⟨i,j,rfl,rfl,q⟩:=h
 obtain⟨t,rfl⟩:=rx
 obtain⟨t',rfl⟩:=ry
 exact rule i j t t' s _ _ ⟨.int (g i j),H,I.tok _,⟨_,rfl⟩,q⟩
theorem Lf {f:Value->Value->Sem Value} {g:Int->Int->Bool}
  (rule:∀(i j:Int) (t u:Tok) (s:Shared) (Q:Value->Shared->Prop) (E:Value->Shared->Prop),Q (.bool (g i j)) s->wpAny (model X.prog X.w) X.A (f (.int i t) (.int j u)) Q E s) :
  oG X f (FN fun i j=>.bl (g i j)):=by
 intro pins s σ H x y v u Q I rx ry h
 obtain⟨i,j,rfl,rfl,q⟩:=h
 obtain⟨t,rfl⟩:=rx
 obtain⟨t',rfl⟩:=ry
 exact rule i j t t' s _ _ ⟨.bl (g i j),H,I,rfl,q⟩
theorem nh:oG X (binaryOp .Add) (FN fun i j=>.int (i+j)):=Sn fun _ _ _ _ _ _ _ q=>add_int q
theorem zV:oG X (binaryOp .Sub) (FN fun i j=>.int (i-j)):=Sn fun _ _ _ _ _ _ _ q=>sub_int q
theorem So:oG X (binaryOp .Mod) (rI (fun _ j=>0<j) fun i j=>.int (i % j)):=opI fun i j _ _ _ _ _ hc q=>by
 have h1:(0:Int)<j:=hc
 exact mod_int' (by omega) (by rw[Int.fmod_eq_emod_of_nonneg i (by omega)];exact q)
theorem unI {f:Value->Sem Value} {g:Int->Int}
  (rule:∀(i:Int) (t:Tok) (s:Shared) (Q:Value->Shared->Prop) (E:Value->Shared->Prop),Q (.int (g i) s.toks) { s with toks:=s.toks+1 }->wpAny (model X.prog X.w) X.A (f (.int i t)) Q E s) :
  Sm X f (rU fun i=>.int (g i)):=by
 intro pins s σ H x v Q I rx h
 obtain⟨i,rfl,q⟩:=h
 obtain⟨t,rfl⟩:=rx
 exact rule i t s _ _ ⟨.int (g i),H,I.tok _,⟨_,rfl⟩,q⟩
theorem j_:Sm X (unaryOp .USub) (rU fun i=>.int (-i)):=unI fun _ _ _ _ _ q=>neg_int q
end
def Sq:V->V->Bool
 | .bE,.bE=>true | .bE,.int _=>true | .int _,.bE=>true | .bE,.bl _=>true | .bl _,.bE=>true | .bE,.str _=>true | .str _,.bE=>true
 | .int _,.int _=>true | .bl _,.bl _=>true | .str _,.str _=>true | .sF _,.sF _=>true
 | .int _,.str _=>true | .str _,.int _=>true | .bl _,.str _=>true | .str _,.bl _=>true
 | _,_=>false
def rEq:R2:=fun x y H Q=>Sq x y=true/\Q (.bl (decide (x=y))) H
def rNe:R2:=fun x y H Q=>Sq x y=true/\Q (.bl (!decide (x=y))) H
theorem JW {i j:Int}:decide (V.int i=V.int j)=(i==j):=by
 rw[Bool.eq_iff_iff]
 simp
theorem My {i j:Bool}:decide (V.bl i=V.bl j)=(i==j):=by
 rw[Bool.eq_iff_iff]
 simp
theorem JX {i j:Str}:decide (V.str i=V.str j)=(i==j):=by
 rw[Bool.eq_iff_iff]
 simp
theorem JY {i j:Array UInt8}:decide (V.sF i=V.sF j)=(i.toList==j.toList):=by
 rw[Bool.eq_iff_iff]
 cases i
 cases j
 simp
section
variable {X:Cx} {a b c:Expr} {ta tb tc:TE} {pos:Pos}
theorem cG {pins:List (Addr×Obj)} {σ:St} {H:Hp} {s:Shared} {Q:VK} {k k':Bool} (I:Inv X pins σ H s) (q:Q (.bl k) H) (e:k=k'):EP X pins σ Q (.bool k') s:=by
 subst e
 exact⟨.bl k,H,I,rfl,q⟩
theorem bZ:oG X (compareOp .Eq) rEq:=by
 intro pins s σ H x y v u Q I rx ry h
 obtain⟨hs,q⟩:=h
 cases x with
 | bE=>
  cases rx
  cases y with
  | bE=>cases ry;exact PySem.EqNone.eq_none_none (cG I q (by simp))
  | bl j=>cases ry;exact PySem.EqNone.eq_none_bool (cG I q (by simp))
  | int j=>obtain⟨t',rfl⟩:=ry;exact PySem.EqNone.eq_none_int (cG I q (by simp))
  | str j=>obtain⟨t',rfl⟩:=ry;exact PySem.EqNone.eq_none_str (cG I q (by simp))
  | _=>exact absurd (show false=true from hs) Bool.false_ne_true
 | bl i=>
  cases rx
  cases y with
  | bE=>cases ry;exact PySem.EqNone.eq_bool_none (cG I q (by simp))
  | bl j=>cases ry;exact eq_bool (cG I q My)
  | str j=>obtain⟨t',rfl⟩:=ry;exact PySem.EqMixed.eq_bool_str (cG I q (by simp))
  | _=>exact absurd (show false=true from hs) Bool.false_ne_true
 | int i=>
  obtain⟨t,rfl⟩:=rx
  cases y with
  | bE=>cases ry;exact PySem.EqNone.eq_int_none (cG I q (by simp))
  | int j=>obtain⟨t',rfl⟩:=ry;exact eq_int (cG I q JW)
  | str j=>obtain⟨t',rfl⟩:=ry;exact PySem.EqMixed.eq_int_str (cG I q (by simp))
  | _=>exact absurd (show false=true from hs) Bool.false_ne_true
 | str i=>
  obtain⟨t,rfl⟩:=rx
  cases y with
  | bE=>cases ry;exact PySem.EqNone.eq_str_none (cG I q (by simp))
  | bl j=>cases ry;exact PySem.EqMixed.eq_str_bool (cG I q (by simp))
  | int j=>obtain⟨t',rfl⟩:=ry;exact PySem.EqMixed.eq_str_int (cG I q (by simp))
  | str j=>obtain⟨t',rfl⟩:=ry;exact eq_str (cG I q JX)
  | _=>exact absurd (show false=true from hs) Bool.false_ne_true
 | sF i=>
  obtain⟨t,rfl⟩:=rx
  cases y with
  | sF j=>obtain⟨t',rfl⟩:=ry;exact W.eq_bytes (cG I q JY)
  | _=>exact absurd (show false=true from hs) Bool.false_ne_true
 | _=>cases y <;> exact absurd (show false=true from hs) Bool.false_ne_true
theorem yn:oG X (compareOp .NotEq) rNe:=by
 intro pins s σ H x y v u Q I rx ry h
 obtain⟨hs,q⟩:=h
 cases x with
 | bE=>
  cases rx
  cases y with
  | bE=>cases ry;exact PySem.EqNone.ne_none_none (cG I q (by simp))
  | bl j=>cases ry;exact PySem.EqNone.ne_none_bool (cG I q (by simp))
  | int j=>obtain⟨t',rfl⟩:=ry;exact PySem.EqNone.ne_none_int (cG I q (by simp))
  | str j=>obtain⟨t',rfl⟩:=ry;exact PySem.EqNone.ne_none_str (cG I q (by simp))
  | _=>exact absurd (show false=true from hs) Bool.false_ne_true
 | bl i=>
  cases rx
  cases y with
  | bE=>cases ry;exact PySem.EqNone.ne_bool_none (cG I q (by simp))
  | bl j=>cases ry;exact ne_bool (cG I q (congrArg not My))
  | str j=>obtain⟨t',rfl⟩:=ry;exact PySem.EqMixed.ne_bool_str (cG I q (by simp))
  | _=>exact absurd (show false=true from hs) Bool.false_ne_true
 | int i=>
  obtain⟨t,rfl⟩:=rx
  cases y with
  | bE=>cases ry;exact PySem.EqNone.ne_int_none (cG I q (by simp))
  | int j=>obtain⟨t',rfl⟩:=ry;exact ne_int (cG I q (congrArg not JW))
  | str j=>obtain⟨t',rfl⟩:=ry;exact PySem.EqMixed.ne_int_str (cG I q (by simp))
  | _=>exact absurd (show false=true from hs) Bool.false_ne_true
 | str i=>
  obtain⟨t,rfl⟩:=rx
  cases y with
  | bE=>cases ry;exact PySem.EqNone.ne_str_none (cG I q (by simp))
  | bl j=>cases ry;exact PySem.EqMixed.ne_str_bool (cG I q (by simp))
  | int j=>obtain⟨t',rfl⟩:=ry;exact PySem.EqMixed.ne_str_int (cG I q (by simp))
  | str j=>obtain⟨t',rfl⟩:=ry;exact ne_str (cG I q (congrArg not JX))
  | _=>exact absurd (show false=true from hs) Bool.false_ne_true
 | sF i=>
  obtain⟨t,rfl⟩:=rx
  cases y with
  | sF j=>obtain⟨t',rfl⟩:=ry;exact W.ne_bytes (cG I q (congrArg not JY))
  | _=>exact absurd (show false=true from hs) Bool.false_ne_true
 | _=>cases y <;> exact absurd (show false=true from hs) Bool.false_ne_true
theorem uu:oG X (compareOp .Lt) (FN fun i j=>.bl (decide (i<j))):=Lf fun _ _ _ _ _ _ _ q=>lt_int q
theorem G4:oG X (compareOp .LtE) (FN fun i j=>.bl (decide (i<=j))):=Lf fun _ _ _ _ _ _ _ q=>le_int q
theorem yo:oG X (compareOp .Gt) (FN fun i j=>.bl (decide (j<i))):=Lf fun _ _ _ _ _ _ _ q=>gt_int q
theorem Qz:oG X (compareOp .GtE) (FN fun i j=>.bl (decide (j<=i))):=Lf fun _ _ _ _ _ _ _ q=>ge_int q
theorem aU (b:Expr) {op:CmpOp} (h:op ≠ .In:=by decide) (h2:op ≠ .NotIn:=by decide):behindInMarks op b=false:=by
 have e1:(op==CmpOp.In)=false:=by cases op <;> first | rfl | exact absurd rfl h
 have e2:(op==CmpOp.NotIn)=false:=by cases op <;> first | rfl | exact absurd rfl h2
 cases b <;> simp[behindInMarks,e1,e2]
theorem rH {op:CmpOp} {r:R2} (ho:oG X (compareOp op) r) (ha:PE X a ta) (hb:PE X b tb) (hm:behindInMarks op b=false):PE X (.Compare a [op] [b] pos) (Qy r ta tb):=by
 intro pins s σ H Q I h
 exact wpAny_Compare1 (OI ha hb I h fun v u s2 x y H2 I2 rx ry q=>ho pins s2 σ H2 x y v u Q I2 rx ry q) hm
def tTest (t:TE):TT:=fun σ H Q=>t σ H fun x H'=>∃k,x = .bl k/\Q k H'
theorem aO {op:CmpOp} {r:R2} (ho:oG X (compareOp op) r) (ha:PE X a ta) (hb:PE X b tb) (hm:behindInMarks op b=false):PT X (.Compare a [op] [b] pos) (tTest (Qy r ta tb)):=by
 intro pins s σ H Q I h
 refine wpAny_isTrue_Compare1 (bH (ha pins s σ H _ I h) fun v s1 ⟨x,H1,I1,r1,q1⟩=>bH (hb pins s1 σ H1 _ I1 q1) fun u s2 ⟨y,H2,I2,r2,q2⟩=>
  bH (ho pins s2 σ H2 x y v u _ I2 r1 r2 q2) fun c s3 ⟨z,H3,I3,r3,k,e,q3⟩=>?_) hm
 subst e
 cases r3
 exact wpAny_truthy_bool ⟨H3,I3,q3⟩
def Sr (r r':R2) (ta tb tc:TE):TE:=fun σ H Q=>ta σ H fun x H1=>tb σ H1 fun y H2=>r x y H2 fun z H3=>∃k,z = .bl k/\
 (if k=true then tc σ H3 fun w' H4=>r' y w' H4 Q else Q (.bl false) H3)
theorem OJ {op Ss:CmpOp} {r r':R2} (ho:oG X (compareOp op) r) (za:oG X (compareOp Ss) r') (ha:PE X a ta) (hb:PE X b tb) (hc:PE X c tc)
  (hm:lastMarks [op,Ss] [b,c]=false:=by with_unfolding_all rfl):PE X (.Compare a [op,Ss] [b,c] pos) (Sr r r' ta tb tc):=by
 intro pins s σ H Q I h
 refine Compare_chain (bH (ha pins s σ H _ I h) fun v s1 ⟨x,H1,I1,r1,q1⟩=>chain_link (bH (hb pins s1 σ H1 _ I1 q1) fun u s2 ⟨y,H2,I2,r2,q2⟩=>
  bH (ho pins s2 σ H2 x y v u _ I2 r1 r2 q2) fun d s3 ⟨z,H3,I3,r3,k,e,q3⟩=>?_)) hm
 subst e
 cases r3
 refine wpAny_truthy_bool ?_
 cases k with
 | false=>exact ite_ff ⟨.bl false,H3,I3,rfl,q3⟩
 | true=>exact ite_tt (chain_last (bH (hc pins s3 σ H3 _ I3 q3) fun w' s4 ⟨z',H4,I4,r4,q4⟩=>za pins s4 σ H4 y z' u w' Q I4 r2 r4 q4))
theorem DA:(sizeLine:Nat)<2 ^ 63:=by rw[sizeLine_eq];decide
theorem vals1 {x:V} {us:List Value} (r:Vals [x] us):∃u,us=[u]/\RelV x u:=by
 cases r with
 | cons r1 r2=>cases r2;exact⟨_,rfl,r1⟩
theorem vals2 {x y:V} {us:List Value} (r:Vals [x,y] us):∃u w',us=[u,w']/\RelV x u/\RelV y w':=by
 cases r with
 | cons r1 r2=>
  cases r2 with
  | cons r3 r4=>cases r4;exact⟨_,_,rfl,r1,r3⟩
end
structure CJ (h:Heap) (x dx C:Addr) (mA:Str->Option Value):Prop where
 obj:h.get? x=some (W.instObj C dx)
 ns:h.Ns1 dx mA
 ne:dx≠x
theorem Mz {h:Heap} {dx:Addr} {mA:Str->Option Value} (n:h.Ns1 dx mA):∃od,h.get? dx=some od/\∀name,W.lookIn name od=some (mA name):=by
 obtain⟨o,es,ep,ho,hd,hk,_,hm⟩:=n
 refine⟨o,ho,fun name=>?_⟩
 have e:=hm name
 unfold nsFind findBy at e
 rw[<- Array.find?_toList] at e
 unfold W.lookIn
 rw[hd]
 dsimp only
 split
 ·rename_i y q
  rw[q] at e
  exact congrArg some e
 ·rename_i q
  rw[q] at e
  have a:es.toList.any (·.refKey)=false:=by
   rw[List.any_eq_false]
   intro y hy
   obtain⟨z,t,hkey⟩:=hk y (Array.mem_toList_iff.mp hy)
   simp[DictEntry.refKey,hkey]
  have a':¬es.toList.any (·.refKey)=true:=by rw[a];exact Bool.false_ne_true
  rw[if_neg a']
  exact congrArg some e
theorem CJ.look {h:Heap} {x dx C:Addr} {mA:Str->Option Value} (I:CJ h x dx C mA):∃od,W.InstAt h x (W.instObj C dx) C (some od)/\∀name,W.lookIn name od=some (mA name):=
 let ⟨od,ho,hl⟩:=Mz I.ns
 ⟨od,⟨I.obj,rfl,rfl,ho⟩,hl⟩
section
variable {prog:Program} {w:World} {A:Around} {E:Value->Shared->Prop} {s:Shared} {K:W.Frag} {x dx C f:Addr} {mA:Str->Option Value} {name:Str} {v:Value}
theorem get_map {expr:Bool} {Q:Value->Shared->Prop} (X:K.In s.heap) (I:CJ s.heap x dx C mA) (hg:W.plainGet K C name=true) (hh:W.hasDictIn K C=true)
  (ha:W.findIn K (.ref C) name=some none) (hv:mA name=some v) (hv':W.handedIn v=true) (h:Q v { s with toks:=s.toks+1 }) :
  wpAny (model prog w) A (getAttr (.ref x) name expr) Q E s:=by
 obtain⟨od,J,hl⟩:=I.look
 exact W.get_value X J (W.plainGet_of hg).1 (W.findObj_own hh ha rfl (by rw[hl,hv])) hv' h
theorem OL {pl:Sem Bool} {Q:Value×List Value->Shared->Prop} (X:K.In s.heap) (I:CJ s.heap x dx C mA) (hg:W.plainGet K C name=true)
  (hf:W.findIn K (.ref C) name=some (some (.ref f))) (ht:W.isFn K (.ref f)=true) (hv:mA name=none) (h:Q (.ref f,[.ref x]) s) :
  wpAny (model prog w) A (getMethod (.ref x) name pl) Q E s:=by
 obtain⟨od,J,hl⟩:=I.look
 exact W.method_fn X J (W.plainGet_of hg).1 (W.plainGet_of hg).2 hf (beq_iff_eq.mp ht) (by show (W.lookIn name od).map (·.isSome)=some false;rw[hl,hv];rfl) h
theorem RA {ns:List Str} {Q:Unit->Shared->Prop} (X:K.In s.heap) (I:CJ s.heap x dx C mA)
  (hs:W.findIn K (.ref C) "__setattr__"=some (some (.builtin "object.__setattr__"))) (hp:W.plainOver K C=true) (ht:W.takerIn K C name=some none) (hh:W.hasDictIn K C=true)
  (hw:PySem.Within mA ns) (hsz:ns.length<=sizeLine)
  (h:∀h',CJ h' x dx C (fun y=>if y=name then some v else mA y)->Heap.SameBut dx s.heap h'->Q () { s with heap:=h',toks:=s.toks+2 }) :
  wpAny (model prog w) A (setAttr (.ref x) name v) Q E s:=by
 obtain⟨od,J,hl⟩:=I.look
 refine W.set_plain X J hs (W.osa_open (s:={ s with toks:=s.toks+1 }) (r:=none) X J hp ht fun b=>?_)
 obtain⟨cd,hc,dZ⟩:=W.any_some hh
 have hx:s.heap.get? x=some ⟨.ref C,some dx,.plain,#[]⟩:=I.obj
 refine wpAny_bind (wpAny_pure (wpAny_bind (wpAny_bind (wpAny_loadPart hx (wpAny_bind (W.Looks.here (s:={ s with toks:=s.toks+1 }) (W.looks_clsIn X hc) ?_))))))
 rw[dZ]
 refine wpAny_pure (a:=some dx) (wpAny_bind (wpAny_pure (wpAny_bind ?_)))
 refine wpAny_nsSet1 (s:={ s with toks:=s.toks+1 }) I.ns fun h' B8 t7=>?_
 obtain⟨oD,esD,epD,hoD,hdD,hcD⟩:=B8.count (PySem.Within.cons name v hw)
 refine wpAny_bind (wpAny_lookBehind hoD (by rw[hdD];exact pastItsLine_dict (Nat.le_trans hcD (by rw[length_cons];omega))) ?_)
 exact wpAny_pure (h _ ⟨(t7.2 _ (Ne.symm I.ne)).trans I.obj,B8,I.ne⟩ t7)
theorem OM {R:Result->Shared->Prop} {vs:List Value} {kw:List (Str×Value)} (X:K.In s.heap) (hm:W.makesIn K C=true)
  (hi:W.findIn K (.ref C) "__init__"=some (some (.ref f))) (hf:W.typeIn K (.ref f)=some (.type "function"))
  (h:codeAny (model prog w) (A.under (.builtin "type.__call__" ⟨.ref C::vs,kw⟩)) (.call (.ref f) ⟨.ref (s.heap.objs.size+1)::vs,kw⟩) (W.InitBack (s.heap.objs.size+1) R)
   { s with heap:=(s.heap.push W.emptyDict).push (W.instObj C s.heap.objs.size) }) :
  codeAny (model prog w) A (.call (.ref C) ⟨vs,kw⟩) R s:=by
 obtain⟨hh,g,d,t,os⟩:=s
 exact W.make_core (W.makes_of X hm) (W.looks_findIn X hi) (fun self=>W.bind_fn X self hf) (.inl rfl) h
end
def kM (f:Str) (v:V):List (Str×V)->List (Str×V)
 | []=>[(f,v)]
 | (g,x)::r=>if g=f then (g,v)::r else (g,x)::kM f v r
theorem B9 (f g:Str) (v:V):∀fs:List (Str×V),(kM f v fs).lookup g=if g=f then some v else fs.lookup g
 | []=>by
  show List.lookup g [(f,v)]=_
  by_cases h:g=f
  ·have hb:(g==f)=true:=beq_iff_eq.mpr h
   simp only[List.lookup,hb,if_pos h]
  ·have hb:(g==f)=false:=beq_eq_false_iff_ne.mpr h
   simp only[List.lookup,hb,if_neg h]
 | (k,x)::r=>by
  have ih:=B9 f g v r
  rw[show kM f v ((k,x)::r)=(if k=f then (k,v)::r else (k,x)::kM f v r) from rfl]
  by_cases hk:k=f
  ·rw[if_pos hk]
   by_cases h:g=k
   ·have hb:(g==k)=true:=beq_iff_eq.mpr h
    simp only[List.lookup,hb,if_pos (h.trans hk)]
   ·have hb:(g==k)=false:=beq_eq_false_iff_ne.mpr h
    simp only[List.lookup,hb,if_neg (fun e:g=f=>h (e.trans hk.symm))]
  ·rw[if_neg hk]
   by_cases h:g=k
   ·have hb:(g==k)=true:=beq_iff_eq.mpr h
    simp only[List.lookup,hb,if_neg (fun e:g=f=>hk (h.symm.trans e))]
   ·have hb:(g==k)=false:=beq_eq_false_iff_ne.mpr h
    simp only[List.lookup,hb]
    exact ih
theorem zW (f:Str) (v:V):∀fs:List (Str×V),f∈(kM f v fs).map (·.1)/\∀g,g∈fs.map (·.1)->g∈(kM f v fs).map (·.1)
 | []=>⟨by simp[kM],fun g h=>by simp at h⟩
 | (k,x)::r=>by
  obtain⟨i1,i2⟩:=zW f v r
  rw[show kM f v ((k,x)::r)=(if k=f then (k,v)::r else (k,x)::kM f v r) from rfl]
  by_cases hk:k=f
  ·rw[if_pos hk]
   subst hk
   exact⟨by simp,fun g h=>by simpa using h⟩
  ·rw[if_neg hk]
   refine⟨?_,fun g h=>?_⟩
   ·rw[map_cons]
    exact mem_cons_of_mem _ i1
   ·rw[map_cons] at h ⊢
    rcases mem_cons.mp h with e | e
    ·exact mem_cons.mpr (.inl e)
    ·exact mem_cons_of_mem _ (i2 g e)
theorem B_ (f:Str) (v:V):∀fs:List (Str×V),(kM f v fs).length<=fs.length+1
 | []=>by simp[kM]
 | (k,x)::r=>by
  have ih:=B_ f v r
  rw[show kM f v ((k,x)::r)=(if k=f then (k,v)::r else (k,x)::kM f v r) from rfl]
  by_cases hk:k=f
  ·rw[if_pos hk,length_cons,length_cons];omega
  ·rw[if_neg hk,length_cons,length_cons];omega
theorem ng.some_of {v:V} {o:Option Value} (r:ng (some v) o):∃u,o=some u/\RelV v u:=by
 cases o with
 | none=>exact(show False from r).elim
 | some u=>exact⟨u,rfl,r⟩
theorem ng.none_of {o:Option Value} (r:ng none o):o=none:=by
 cases o with
 | none=>rfl
 | some u=>exact(show False from r).elim
theorem MA {v:V} {u:Value} (r:RelV v u):W.handedIn u=true:=by
 cases v with
 | bE=>cases (show u=Value.none from r);rfl
 | bl b=>cases (show u=Value.bool b from r);rfl
 | int i=>obtain⟨t,e⟩:=(show ∃t,u=Value.int i t from r);cases e;rfl
 | str x=>obtain⟨t,e⟩:=(show ∃t,u=Value.str x t from r);cases e;rfl
 | sF b=>obtain⟨t,e⟩:=(show ∃t,u=Value.bytes b t from r);cases e;rfl
 | Mi b=>obtain⟨t,e⟩:=(show ∃t,u=Value.float b t from r);cases e;rfl
 | ref a=>cases (show u=Value.ref a from r);rfl
 | ty n=>cases (show u=Value.type n from r);rfl
section
variable {P:Program} {w:World} {H H':Hp} {h h':Heap} {a C dx:Addr} {fs fs':List (Str×V)}
theorem EO (a9:ir P w H h) (e:H a=some (.ins C dx fs)):∃mA,CJ h a dx C mA/\(∀f,ng (fs.lookup f) (mA f))/\PySem.Within mA (fs.map (·.1))/\fs.length<=1000/\H dx=some (.own a):=by
 obtain⟨d,z,ne,ob,mA,n,r,q⟩:=(show f7 P w H h a (.ins C dx fs) from a9 a _ e)
 exact⟨mA,⟨ob,n,ne⟩,r,q,z,d⟩
end
structure qe (K:W.Frag) (C:Addr):Prop where
 pg:W.plainGet K C Str.empty=true
 hd:W.hasDictIn K C=true
 po:W.plainOver K C=true
 sa:W.findIn K (.ref C) "__setattr__"=some (some (.builtin "object.__setattr__"))
theorem qe.get {K:W.Frag} {C:Addr} (c:qe K C) (f:Str):W.plainGet K C f=true:=c.pg
def dj (K:W.Frag) (C:Addr) (f:Str):Prop:=W.findIn K (.ref C) f=some none
theorem dj.taker {K:W.Frag} {C:Addr} {f:Str} (n:dj K C f):W.takerIn K C f=some none:=by
 unfold W.takerIn
 rw[show W.findIn K (.ref C) f=some none from n]
 rfl
structure Meth (K:W.Frag) (C:Addr) (m:Str) (f:Addr):Prop where
 at_:W.findIn K (.ref C) m=some (some (.ref f))
 fn:W.isFn K (.ref f)=true
 kp:W.keepIn K (.ref f)=true
section
variable {X:Cx} {pins:List (Addr×Obj)} {σ:St} {H:Hp} {s:Shared} {a C dx:Addr} {fs:List (Str×V)} {f:Str} {v:V} {A:Around} {E:Value->Shared->Prop}
theorem Lg {b:Bool} {Q:Value->Shared->Prop} (I:Inv X pins σ H s) (e:H a=some (.ins C dx fs)) (c:qe X.K C) (n:dj X.K C f) (l:fs.lookup f=some v)
  (h:∀u s',Inv X pins σ H s'->RelV v u->Q u s'):wpAny (model X.prog X.w) A (getAttr (.ref a) f b) Q E s:=by
 obtain⟨mA,O,r,_,_,_⟩:=EO I.a9 e
 obtain⟨u,hu,ru⟩:=ng.some_of (v:=v) (o:=mA f) (by rw[<- l];exact r f)
 exact get_map I.sG O (c.get f) c.hd n hu (MA ru) (h u _ (I.tok _) ru)
theorem DB {m:Str} {g:Addr} {pl:Sem Bool} {Q:Value×List Value->Shared->Prop} (I:Inv X pins σ H s) (e:H a=some (.ins C dx fs)) (c:qe X.K C) (k:Meth X.K C m g) (l:fs.lookup m=none)
  (h:Q (.ref g,[.ref a]) s):wpAny (model X.prog X.w) A (getMethod (.ref a) m pl) Q E s:=by
 obtain⟨mA,O,r,_,_,_⟩:=EO I.a9 e
 have hn:mA m=none:=ng.none_of (by rw[<- l];exact r m)
 exact OL I.sG O (c.get m) k.at_ k.fn hn h
theorem Lh {y:V} {u:Value} {Q:Unit->Shared->Prop} (I:Inv X pins σ H s) (e:H a=some (.ins C dx fs)) (c:qe X.K C) (n:dj X.K C f) (hl:fs.length<1000) (ry:RelV y u)
  (h:∀s',Inv X pins σ (upd H a (.ins C dx (kM f y fs))) s'->Q () s'):wpAny (model X.prog X.w) A (setAttr (.ref a) f u) Q E s:=by
 obtain⟨mA,O,r,wi,_,ho⟩:=EO I.a9 e
 have hz:(fs.map (·.1)).length<=sizeLine:=by rw[length_map,sizeLine_eq];omega
 refine RA I.sG O c.sa c.po n.taker c.hd wi hz fun h' O' sb=>h _ ?_
 have hd:∃o,h'.get? dx=some o:=let ⟨o,_,_,e',_⟩:=O'.ns;⟨o,e'⟩
 refine I.write (x:=a) (e:=dx) (by rw[e];exact True.intro) (.inr ho) (fun b q hb z=>(sb.2 b hb).trans z) hd ?_
 refine⟨by rw[aw O.ne];exact ho,?_,O.ne,O'.obj,_,O'.ns,fun g=>?_,fun g hg=>?_⟩
 ·have:=B_ f y fs;omega
 ·show ng ((kM f y fs).lookup g) (if g=f then some u else mA g)
  rw[B9]
  by_cases q:g=f
  ·rw[if_pos q,if_pos q];exact ry
  ·rw[if_neg q,if_neg q];exact r g
 ·by_cases q:g=f
  ·rw[q];exact(zW f y fs).1
  ·refine(zW f y fs).2 g (wi g fun z=>hg ?_)
   show (if g=f then some u else mA g)=none
   rw[if_neg q];exact z
theorem Inv.made (I:Inv X pins σ H s):Inv X pins σ (upd (upd H s.heap.objs.size (.own (s.heap.objs.size+1))) (s.heap.objs.size+1) (.ins C s.heap.objs.size []))
  { s with heap:=(s.heap.push W.emptyDict).push (W.instObj C s.heap.objs.size) }:=by
 have e1:(s.heap.push W.emptyDict).get? s.heap.objs.size=some W.emptyDict:=Heap.get?_push_size s.heap rfl
 have e2:((s.heap.push W.emptyDict).push (W.instObj C s.heap.objs.size)).get? (s.heap.objs.size+1)=some (W.instObj C s.heap.objs.size):=by
  have:=Heap.get?_push_size (s.heap.push W.emptyDict) (o:=W.instObj C s.heap.objs.size) rfl
  rwa [Heap.size_push] at this
 have e3:(s.heap.push W.emptyDict).Ns s.heap.objs.size (fun _=>none):=⟨W.emptyDict,#[],_,e1,rfl,(fun e he=>absurd he (by simp)),fun _=>rfl⟩
 have I1:=I.laid (a:=s.heap.objs.size) (o:=.own (s.heap.objs.size+1)) (h':=s.heap.push W.emptyDict) (t':=s.toks) (fun b u q=>Heap.get?_push_of_some _ q) (Nat.le_refl _) ⟨_,e1⟩
 refine I1.laid (a:=s.heap.objs.size+1) (o:=.ins C s.heap.objs.size []) (t':=s.toks) (fun b u q=>Heap.get?_push_of_some _ q) (Nat.le_of_eq (Heap.size_push _ _)) ?_
 have ne:s.heap.objs.size≠s.heap.objs.size+1:=Nat.ne_of_lt (Nat.lt_succ_self _)
 refine⟨by rw[aw ne,ah],Nat.zero_le _,ne,e2,fun _=>none,(Heap.Ns1.of_empty e3).at fun o q=>Heap.get?_push_of_some _ q,fun _=>True.intro,fun y hy=>absurd rfl hy⟩
theorem RB {prog:Program} {w:World} {env:Env} {e:Expr} {f:Str} {pos:Pos} {s:Shared} {Q:Value->Shared->Prop} (hb:attributeBase e f env (eval e env)=eval e env)
  (h:wpAny (model prog w) A (eval e env) (fun o s₁=>wpAny (model prog w) A (getAttr o f true) Q E s₁) E s):wpAny (model prog w) A (eval (.Attribute e f pos) env) Q E s:=
 Attribute_any_ h (by rw[arm_eval_Attribute,hb])
end
def Su (K:W.Frag) (ta:TE) (f:Str):TE:=fun σ H Q=>ta σ H fun x H1=>∃a C dx fs v,x = .ref a/\H1 a=some (.ins C dx fs)/\qe K C/\dj K C f/\fs.lookup f=some v/\Q v H1
def sFld (K:W.Frag) (ta tv:TE) (f:Str):TS:=fun D σ H=>tv σ H fun y H1=>ta σ H1 fun x H2=>∃a C dx fs,x = .ref a/\H2 a=some (.ins C dx fs)/\qe K C/\dj K C f/\fs.length<1000/\
 D.nx σ (upd H2 a (.ins C dx (kM f y fs)))
section
variable {X:Cx} {o e value:Expr} {f:Str} {pos pos' tpos:Pos} {ta tv:TE}
theorem aD (he:PE X e ta) (hb:attributeBase e f X.env (eval e X.env)=eval e X.env):PE X (.Attribute e f pos) (Su X.K ta f):=by
 intro pins s σ H Q I h
 refine RB hb (bH (he pins s σ H _ I h) fun u s1 ⟨x,H1,I1,rx,a,C,dx,fs,v,ex,ea,c,n,l,q⟩=>?_)
 subst ex
 obtain rfl:u=Value.ref a:=rx
 exact Lg I1 ea c n l fun u' s2 I2 ru=>⟨v,H1,I2,ru,q⟩
theorem c5 (ha:PE X o ta) (hv:PE X value tv) (hs:swapsWith value (some (.Attribute o f pos')) pos.line X.env=pure false):PS X (.Assign [.Attribute o f pos'] value pos) (sFld X.K ta tv f):=by
 intro pins s σ H D I h
 refine plainObj_wpAny_Assign_Attribute (bH (hv pins s σ H _ I h) fun u s1 ⟨y,H1,I1,ry,q⟩=>bH (ha pins s1 σ H1 _ I1 q) fun ov s2 ⟨x,H2,I2,rx,a,C,dx,fs,ex,ea,c,n,l,q2⟩=>?_) hs
 subst ex
 obtain rfl:ov=Value.ref a:=rx
 exact Lh I2 ea c n l ry fun s3 I3=>⟨σ,_,I3,q2⟩
end
structure gU (k:Nat) (A:Around):Prop where
 hd:A.handled=none
 dp:A.depth+3*k+5<recursionLimit
 un:A.units+16*k+200<cLine
theorem gU.mono {j k:Nat} {A:Around} (r:gU k A) (h:j<=k):gU j A:=⟨r.hd,by have:=r.dp;omega,by have:=r.un;omega⟩
theorem gU.deeper {k:Nat} {A:Around} (r:gU (k+1) A) (env:Env):gU k (A.deeper env):=
 ⟨r.hd,by have:=r.dp;show A.depth+1+3*k+5<_;omega,by have:=r.un;show A.units+3+16*k+200<_;omega⟩
theorem Li {A:Around} {C:Addr} {us:List Value} {kw:List (Str×Value)}:(A.under (.builtin "type.__call__" ⟨.ref C::us,kw⟩)).depth=A.depth+1:=by
 first | rfl | simp[Around.under,Code.weight,Code.isCreation,Code.isGuard,Code.isCaller,Code.frames,Code.isFrame,guardIds]
theorem Lj {A:Around} {C:Addr} {us:List Value} {kw:List (Str×Value)}:(A.under (.builtin "type.__call__" ⟨.ref C::us,kw⟩)).units=A.units+1:=by
 first | rfl | simp[Around.under,Code.cUnits,Code.frames,Code.isFrame]
theorem gU.make {k:Nat} {A:Around} (r:gU (k+1) A) (C:Addr) (us:List Value) (kw:List (Str×Value)):gU k (A.under (.builtin "type.__call__" ⟨.ref C::us,kw⟩)):=
 ⟨r.hd,by have:=r.dp;rw[Li];omega,by have:=r.un;rw[Lj];omega⟩
theorem gU.depth {k:Nat} {A:Around} (r:gU k A):A.depth<recursionLimit:=by have:=r.dp;omega
theorem gU.units {k:Nat} {A:Around} (r:gU k A):A.units+64<cLine:=by have:=r.un;omega
def ON:TA:=fun _ H Q=>Q [] H
def tCons (ta:TE) (tr:TA):TA:=fun σ H Q=>ta σ H fun x H1=>tr σ H1 fun xs H2=>Q (x::xs) H2
section
variable {X:Cx} {e:Expr} {es:List Expr} {te:TE} {t:TA} {pos:Pos}
theorem ag:PA X [] ON:=fun _ _ _ _ H Q I h=>Calls.spliced_nil ⟨[],H,I,.nil,h⟩
theorem aa (ha:PE X e te) (hr:PA X es t) (hs:starEach (e::es) X.env=(false,eval e X.env)::starEach es X.env:=by rfl):PA X (e::es) (tCons te t):=by
 intro pos pins s σ H Q I h
 rw[hs]
 show wpAny _ _ (spliced ((false,eval e X.env)::backTo pos (starEach es X.env))) _ _ s
 refine Calls.spliced_cons (bH (ha pins s σ H _ I h) fun u s1 ⟨x,H1,I1,r1,q1⟩=>?_)
 exact bH (hr pos pins s1 σ H1 _ I1 q1) fun us s2 ⟨xs,H2,I2,r2,q2⟩=>⟨x::xs,H2,I2,.cons r1 r2,q2⟩
def tTup (t:TA):TE:=fun σ H Q=>t σ H fun xs H1=>xs.length<=sizeLine/\∀p,H1 p=none->Q (.ref p) (upd H1 p (.tup xs))
def tLst (t:TA):TE:=fun σ H Q=>t σ H fun xs H1=>xs.length<=sizeLine/\∀p,H1 p=none->Q (.ref p) (upd H1 p (.lst xs))
theorem DC {x1} (h:PA X es t):PE X (.Tuple es x1 pos) (tTup t):=by
 intro pins s σ H Q I hq
 refine wpAny_Tuple_spliced (bH (h pos pins s σ H _ I hq) fun us s1 ⟨xs,H1,I1,r,z,q⟩=>⟨by rw[<- r.length];exact z,?_⟩)
 have hf:H1 s1.heap.objs.size=none:=I1.a9.fresh (Nat.le_refl _)
 refine⟨.ref s1.heap.objs.size,upd H1 s1.heap.objs.size (.tup xs),I1.laid (t':=s1.toks) (fun b u e=>Heap.get?_push_of_some _ e) (Nat.le_refl _) ?_,rfl,q _ hf⟩
 exact⟨z,us,r,⟨_,Heap.get?_push_size _ rfl,rfl,_,rfl⟩⟩
theorem aR (h:PA X es t):PE X (.List es pos) (tLst t):=by
 intro pins s σ H Q I hq
 refine wpAny_List_spliced (bH (h pos pins s σ H _ I hq) fun us s1 ⟨xs,H1,I1,r,z,q⟩=>⟨by rw[<- r.length];exact z,?_⟩)
 have hf:H1 s1.heap.objs.size=none:=I1.a9.fresh (Nat.le_refl _)
 refine⟨.ref s1.heap.objs.size,upd H1 s1.heap.objs.size (.lst xs),I1.laid (t':=s1.toks) (fun b u e=>Heap.get?_push_of_some _ e) (Nat.le_refl _) ?_,rfl,q _ hf⟩
 exact⟨z,us,0,r,Heap.get?_push_size _ rfl⟩
end
abbrev Sp:=List V->Hp->VK->XK->Prop
abbrev zX:=List Env->Hp->Shared->XK->Value->Shared->Prop
structure CK (P:Program) (w:World) (K:W.Frag) (mg:Str->Option Value) (base:Heap) (A:Around) (outer:List Env) (s:Shared) (H:Hp):Prop where
 frames:A.frames=some outer
 mod:Mod K mg base
 bs:∀b o,base.get? b=some o->s.heap.get? b=some o/\H b=none
 Du:base.objs.size<=s.heap.objs.size
 tF:s.heap.FunFrames base outer
 Hc:∀b∈zP outer,H b=none
 a9:ir P w H s.heap
 bare:AllBare s.gens
def CE (outer:List Env) (P:Program) (w:World) (H:Hp) (s:Shared) (Q:VK) (u:Value) (s':Shared):Prop:=
 ∃v H',s'.os=s.os/\AllBare s'.gens/\Un (zP outer) [] H H' s.heap s'.heap/\ir P w H' s'.heap/\RelV v u/\Q v H'
def CR (CX:zX) (outer:List Env) (P:Program) (w:World) (H:Hp) (s:Shared) (Q:VK) (E:XK) (r:Result) (s':Shared):Prop:=
 match r with
 | .ok (.ret u)=>CE outer P w H s Q u s'
 | .ok _=>False
 | .error e=>CX outer H s E e s'
structure aY (P:Program) (w:World) (K:W.Frag) (mg:Str->Option Value) (base:Heap) (CX:zX) (k:Nat) (f:Addr) (fd:FuncData) (ps:List Str) (sp:Sp):Prop where
 len:∀vs H Q E,sp vs H Q E->vs.length=ps.length
 run:∀(A:Around) (outer:List Env) (s:Shared) (H:Hp) (args:Args) (us:List Value) (vs:List V) (Q:VK) (E:XK),gU k A->CK P w K mg base A outer s H->BindsTo s fd args (ps.zip us)->Vals vs us->sp vs H Q E->
  codeAny (model P w) A (.call (.ref f) args) (CR CX outer P w H s Q E) s
theorem CK.make {P:Program} {w:World} {K:W.Frag} {mg:Str->Option Value} {base:Heap} {A:Around} {outer:List Env} {s:Shared} {H:Hp} (e:CK P w K mg base A outer s H) (C:Addr) (us:List Value) (kw:List (Str×Value)) :
  CK P w K mg base (A.under (.builtin "type.__call__" ⟨.ref C::us,kw⟩)) outer s H:=⟨by first | exact e.frames | (simpa [Around.under,Code.envs,Code.isFrame,pushEnvs] using e.frames),e.mod,e.bs,e.Du,e.tF,e.Hc,e.a9,e.bare⟩
section
variable {X:Cx} {pins:List (Addr×Obj)} {σ:St} {H:Hp} {s s':Shared}
theorem Inv.Sv (I:Inv X pins σ H s):CK X.prog X.w X.K X.mg X.base X.A X.stack s H:=
 ⟨I.ok.frames,I.ok.mod,I.bs,Nat.le_trans I.ok.Du I.sz,I.stack,I.JU,I.a9,I.bare⟩
theorem Inv.after {Q:VK} {u:Value} (I:Inv X pins σ H s) (h:CE X.stack X.prog X.w H s Q u s'):EP X pins σ Q u s':=by
 obtain⟨v,H',os,bare,un,a9,r,q⟩:=h
 obtain⟨hh,g,d,t,Sw⟩:=s'
 obtain rfl:Sw=s.os:=os
 exact⟨v,H',I.call (h':=hh) (g':=g) (d':=d) (t':=t) (ch:=[]) un a9 bare (fun b z=>absurd z (by simp)),r,q⟩
end
def tCall (sp:Sp) (ni:List V) (E:XK) (t:TA):TE:=fun σ H Q=>t σ H fun vs H1=>sp (vs++ni) H1 Q E
def QA (C:Addr) (m:Str) (sp:Sp) (ni:List V) (E:XK) (ta:TE) (t:TA):TE:=fun σ H Q=>ta σ H fun x H1=>∃a dx fs,x = .ref a/\H1 a=some (.ins C dx fs)/\fs.lookup m=none/\
 t σ H1 fun vs H2=>sp (x::(vs++ni)) H2 Q E
def QB (C:Addr) (sp:Sp) (ni:List V) (E:XK) (t:TA):TE:=fun σ H Q=>t σ H fun vs H1=>∀x dx,H1 x=none->H1 dx=none->dx≠x->
 sp (.ref x::(vs++ni)) (upd (upd H1 dx (.own x)) x (.ins C dx [])) (fun v H2=>v = .bE/\Q (.ref x) H2) E
def Binds (K:W.Frag) (fd:FuncData) (ps:List Str) (ds:List Value):Prop:=
 ∀(s:Shared) (us:List Value),K.In s.heap->(us++ds).length=ps.length->BindsTo s fd ⟨us,[]⟩ (ps.zip (us++ds))
theorem Binds.all {K:W.Frag} {fd:FuncData} {ps:List Str} (h:∀us:List Value,us.length=ps.length->bindArgs fd ⟨us,[]⟩=pure (ps.zip us)):Binds K fd ps []:=fun s us _ hl=>by
 rw[append_nil] at hl ⊢
 exact .of_eq (h us hl)
def Passes (CX:zX) (X:Cx) (E:XK):Prop:=∀(pins:List (Addr×Obj)) (σ:St) (H:Hp) (s:Shared) (e:Value) (s':Shared),Inv X pins σ H s->CX X.stack H s E e s'->X.xe e s'
section
variable {X:Cx} {CX:zX} {k:Nat} {f C:Addr} {fd:FuncData} {ps:List Str} {sp:Sp} {ni:List V} {ds:List Value} {E:XK} {x m:Str} {p pos apos:Pos} {e o:Expr} {es:List Expr} {ta:TE} {t:TA}
theorem Ho {pins:List (Addr×Obj)} {σ:St} {H:Hp} {s:Shared} {Q:VK} {us:List Value} {vs:List V} (F:aY X.prog X.w X.K X.mg X.base CX k f fd ps sp) (hr:gU k X.A) (hb:Binds X.K fd ps ds) (hd:Vals ni ds) (hx:Passes CX X E)
  (I:Inv X pins σ H s) (r:Vals vs us) (h:sp (vs++ni) H Q E):wpAny (model X.prog X.w) X.A (call (.ref f) us) (EP X pins σ Q) X.xe s:=by
 have r2:Vals (vs++ni) (us++ds):=r.append hd
 have hl:(us++ds).length=ps.length:=by rw[<- r2.length];exact F.len _ _ _ _ h
 refine wpAny_call (codeAny_mono (F.run X.A X.stack s H ⟨us,[]⟩ (us++ds) (vs++ni) Q E hr I.Sv (hb s us I.sG hl) r2 h) fun r s' hq=>?_)
 cases r with
 | error e=>exact hx pins σ H s e s' I hq
 | ok fl=>
  cases fl with
  | ret u=>exact I.after hq
  | next=>exact False.elim hq
  | brk=>exact False.elim hq
  | cont=>exact False.elim hq
theorem aA (F:aY X.prog X.w X.K X.mg X.base CX k f fd ps sp) (hr:gU k X.A) (hg:Gl X x) (hm:X.mg x=some (.ref f)) (hk:W.keepIn X.K (.ref f)=true) (hb:Binds X.K fd ps ds) (hd:Vals ni ds) (hx:Passes CX X E)
  (ha:PA X (e::es) t) (DD:(x==("__debug__":Str))=false:=by decide) (he:starEach (e::es) X.env=(false,eval e X.env)::starEach es X.env:=by rfl) (gS:(backTo pos (starEach es X.env)).any (·.1)=false:=by rfl) :
  PE X (.Call (.Name x p) (e::es) [] pos) (tCall sp ni E t):=by
 intro pins s σ H Q I h
 refine wpAny_Call_Name_kw (Bp I hg hm ?_ DD)
 refine W.callWith_K (h₀:=X.base) I.ok.mod.Mm hk (bH (ha pos pins s σ H _ I h) fun us s1 ⟨vs,H1,I1,r,q⟩=>⟨I1.sG,?_⟩) he gS
 exact Ho F hr hb hd hx I1 r q
theorem JZ {pl:Sem Bool} (he:PE X o ta) (c:qe X.K C) (hm:Meth X.K C m f) (F:aY X.prog X.w X.K X.mg X.base CX k f fd ps sp) (hr:gU k X.A) (hb:Binds X.K fd ps ds) (hd:Vals ni ds) (hx:Passes CX X E) (ha:PA X (e::es) t)
  (J0:starEach (e::es) X.env=(false,eval e X.env)::starEach es X.env:=by rfl) (gS:(backTo pos (starEach es X.env)).any (·.1)=false:=by rfl)
  (ht:eval (.Call (.Attribute o m apos) (e::es) [] pos) X.env=(do
   let ov <- eval o X.env
   standAt apos.atName
   let (f,first) <- holding [ov] (getMethod ov m pl)
   callWith pos f first (backTo pos (starEach (e::es) X.env)) (backToKw pos (keywordEach [] X.env))):=by rfl) :
  PE X (.Call (.Attribute o m apos) (e::es) [] pos) (QA C m sp ni E ta t):=by
 intro pins s σ H Q I h
 refine W.methodCall_KW (pl:=pl) (bH (he pins s σ H _ I h) fun u s1 ⟨x,H1,I1,rx,a,dx,fs,ex,ea,l,q⟩=>?_) ht
 subst ex
 obtain rfl:u=Value.ref a:=rx
 refine DB I1 ea c hm l ?_
 refine W.callWith_K (first:=[.ref a]) (h₀:=X.base) I.ok.mod.Mm hm.kp (bH (ha pos pins s1 σ H1 _ I1 q) fun us s2 ⟨vs,H2,I2,r,q2⟩=>⟨I2.sG,?_⟩) J0 gS
 exact Ho (us:=.ref a::us) (vs:=.ref a::vs) F hr hb hd hx I2 (.cons rfl r) q2
theorem gi {pl:Sem Bool} (he:PE X o ta) (c:qe X.K C) (hm:Meth X.K C m f) (F:aY X.prog X.w X.K X.mg X.base CX k f fd ps sp) (hr:gU k X.A) (hb:Binds X.K fd ps ds) (hd:Vals ni ds) (hx:Passes CX X E)
  (ht:eval (.Call (.Attribute o m apos) [] [] pos) X.env=(do
   let ov <- eval o X.env
   standAt apos.atName
   let (f,first) <- holding [ov] (getMethod ov m pl)
   callWith pos f first (backTo pos (starEach [] X.env)) (backToKw pos (keywordEach [] X.env))):=by rfl) :
  PE X (.Call (.Attribute o m apos) [] [] pos) (QA C m sp ni E ta ON):=by
 intro pins s σ H Q I h
 refine W.methodCall_KW (pl:=pl) (bH (he pins s σ H _ I h) fun u s1 ⟨x,H1,I1,rx,a,dx,fs,ex,ea,l,q⟩=>?_) ht
 subst ex
 obtain rfl:u=Value.ref a:=rx
 refine DB I1 ea c hm l ?_
 exact W.callWith_K0 (first:=[.ref a]) I1.sG hm.kp (Ho (us:=[.ref a]) (vs:=[.ref a]) F hr hb hd hx I1 (.cons rfl .nil) q)
structure Mk (K:W.Frag) (C f:Addr):Prop where
 makes:W.makesIn K C=true
 init:W.findIn K (.ref C) "__init__"=some (some (.ref f))
 fn:W.isFn K (.ref f)=true
 kp:W.keepIn K (.ref C)=true
theorem Hq {pins:List (Addr×Obj)} {σ:St} {H:Hp} {s:Shared} {Q:VK} {us:List Value} {vs:List V} (M:Mk X.K C f) (F:aY X.prog X.w X.K X.mg X.base CX k f fd ps sp) (hr:gU (k+1) X.A) (hb:Binds X.K fd ps ds) (hd:Vals ni ds)
  (hx:Passes CX X E) (I:Inv X pins σ H s) (r:Vals vs us)
  (h:∀x dx,H x=none->H dx=none->dx≠x->sp (.ref x::(vs++ni)) (upd (upd H dx (.own x)) x (.ins C dx [])) (fun v H2=>v = .bE/\Q (.ref x) H2) E) :
  wpAny (model X.prog X.w) X.A (call (.ref C) us) (EP X pins σ Q) X.xe s:=by
 have hq:=h (s.heap.objs.size+1) s.heap.objs.size (I.a9.fresh (Nat.le_succ _)) (I.a9.fresh (Nat.le_refl _)) (Nat.ne_of_lt (Nat.lt_succ_self _))
 have I2:=Inv.made (C:=C) I
 have r2:Vals (V.ref (s.heap.objs.size+1)::(vs++ni)) (Value.ref (s.heap.objs.size+1)::(us++ds)):=.cons rfl (r.append hd)
 have hl:(Value.ref (s.heap.objs.size+1)::us++ds).length=ps.length:=by
  have e:=r2.length
  rw[F.len _ _ _ _ hq] at e
  exact e.symm
 refine wpAny_call (OM (f:=f) I.sG M.makes M.init (beq_iff_eq.mp M.fn) (codeAny_mono (F.run _ X.stack _ _ ⟨Value.ref (s.heap.objs.size+1)::us,[]⟩ (Value.ref (s.heap.objs.size+1)::(us++ds)) _ _ E (hr.make C us [])
  (I2.Sv.make C us []) (hb _ (Value.ref (s.heap.objs.size+1)::us) I2.sG hl) r2 hq) fun r s' rn=>?_))
 cases r with
 | error e=>exact hx pins σ _ _ e s' I2 rn
 | ok fl=>
  cases fl with
  | ret u=>
   obtain⟨v,H',I3,rv,ev,q3⟩:=I2.after rn
   subst ev
   exact⟨rv,⟨V.ref (s.heap.objs.size+1),H',I3,rfl,q3⟩⟩
  | next=>exact False.elim rn
  | brk=>exact False.elim rn
  | cont=>exact False.elim rn
theorem rJ (M:Mk X.K C f) (F:aY X.prog X.w X.K X.mg X.base CX k f fd ps sp) (hr:gU (k+1) X.A) (hg:Gl X x) (hm:X.mg x=some (.ref C)) (hb:Binds X.K fd ps ds) (hd:Vals ni ds) (hx:Passes CX X E)
  (ha:PA X (e::es) t) (DD:(x==("__debug__":Str))=false:=by decide) (he:starEach (e::es) X.env=(false,eval e X.env)::starEach es X.env:=by rfl) (gS:(backTo pos (starEach es X.env)).any (·.1)=false:=by rfl) :
  PE X (.Call (.Name x p) (e::es) [] pos) (QB C sp ni E t):=by
 intro pins s σ H Q I h
 refine wpAny_Call_Name_kw (Bp I hg hm ?_ DD)
 refine W.callWith_K (h₀:=X.base) I.ok.mod.Mm M.kp (bH (ha pos pins s σ H _ I h) fun us s1 ⟨vs,H1,I1,r,q⟩=>⟨I1.sG,?_⟩) he gS
 exact Hq M F hr hb hd hx I1 r q
theorem OO (M:Mk X.K C f) (F:aY X.prog X.w X.K X.mg X.base CX k f fd ps sp) (hr:gU (k+1) X.A) (hg:Gl X x) (hm:X.mg x=some (.ref C)) (hb:Binds X.K fd ps ds) (hd:Vals ni ds) (hx:Passes CX X E)
  (DD:(x==("__debug__":Str))=false:=by decide):PE X (.Call (.Name x p) [] [] pos) (QB C sp ni E ON):=by
 intro pins s σ H Q I h
 refine wpAny_Call_Name_kw (Bp I hg hm ?_ DD)
 exact W.callWith_K0 I.sG M.kp (Hq (us:=[]) M F hr hb hd hx I .nil h)
end
structure aJ (N P:List Str) (sc:Scope):Prop where
 kind:sc.kind = .function
 co:sc.isCoroutine=false
 gen:sc.isGenerator=false
 nd:N.Nodup
 pre:N.take P.length=P
 par:∀x∈P,sc.names.lookup x=some .local\/sc.names.lookup x=some .cell
 Sx:∀y∈sc.names,y.2 ≠ .free
theorem FO {kindOf:Str->Option NameKind} {x:Str}:∀{binds:List (Str×Value)} {m:Str->Option Value},(∀v,(x,v)∉binds)->bindL kindOf binds m x=m x
 | [],_,_=>rfl
 | (n,v)::r,m,h=>by
  unfold bindL
  rw[FO fun w hw=>h w (mem_cons_of_mem _ hw)]
  split
  ·have:x≠n:=by rintro rfl;exact h v List.mem_cons_self
   simp[this]
  ·rfl
theorem FP {kindOf:Str->Option NameKind} {x:Str}:∀{binds:List (Str×Value)} {m:Str->Option Value},(∀v,(x,v)∉binds)->bindC kindOf binds m x=m x
 | [],_,_=>rfl
 | (n,v)::r,m,h=>by
  unfold bindC
  rw[FP fun w hw=>h w (mem_cons_of_mem _ hw)]
  split
  ·rfl
  ·have:x≠n:=by rintro rfl;exact h v List.mem_cons_self
   simp[this]
theorem FQ {kindOf:Str->Option NameKind} {x:Str} {v:Value}:∀{P:List Str} {vs:List Value} {i:Nat} {m:Str->Option Value},P.Nodup->P[i]?=some x->vs[i]?=some v->kindOf x=some .local->
  bindL kindOf (P.zip vs) m x=some v
 | [],_,_,_,_,h,_,_=>by simp at h
 | _::_,[],_,_,_,_,h,_=>by simp at h
 | p::P,w::vs,0,m,nd,h1,h2,hk=>by
  simp at h1 h2;subst h1;subst h2
  show bindL kindOf ((p,w)::P.zip vs) m p=_
  unfold bindL
  rw[FO fun v hv=>(List.nodup_cons.mp nd).1 (List.of_mem_zip hv).1,if_pos hk]
  simp
 | p::P,w::vs,i+1,m,nd,h1,h2,hk=>by
  show bindL kindOf ((p,w)::P.zip vs) m x=_
  unfold bindL
  exact FQ (i:=i) (List.nodup_cons.mp nd).2 (by simpa using h1) (by simpa using h2) hk
theorem FR {kindOf:Str->Option NameKind} {x:Str} {v:Value}:∀{P:List Str} {vs:List Value} {i:Nat} {m:Str->Option Value},P.Nodup->P[i]?=some x->vs[i]?=some v->kindOf x≠some .local->
  bindC kindOf (P.zip vs) m x=some v
 | [],_,_,_,_,h,_,_=>by simp at h
 | _::_,[],_,_,_,_,h,_=>by simp at h
 | p::P,w::vs,0,m,nd,h1,h2,hk=>by
  simp at h1 h2;subst h1;subst h2
  show bindC kindOf ((p,w)::P.zip vs) m p=_
  unfold bindC
  rw[FP fun v hv=>(List.nodup_cons.mp nd).1 (List.of_mem_zip hv).1,if_neg hk]
  simp
 | p::P,w::vs,i+1,m,nd,h1,h2,hk=>by
  show bindC kindOf ((p,w)::P.zip vs) m x=_
  unfold bindC
  exact FR (i:=i) (List.nodup_cons.mp nd).2 (by simpa using h1) (by simpa using h2) hk
def start (N:List Str) (vs:List V):St:=vs.map some++List.replicate (N.length-vs.length) none
def ER (CX:zX) (P:Program) (w:World) (K:W.Frag) (mg:Str->Option Value) (base:Heap) (N:List Str) (qual:Str) (scope:Scope) (f:Addr) (cd:Value) (A:Around) (outer:List Env) (s:Shared) (H:Hp) (E:XK):Cx where
 prog:=P
 w:=w
 K:=K
 mg:=mg
 base:=base
 A:=A.deeper (envOfC qual scope s.heap.objs.size f cd)
 N:=N
 pJ:=s
 Mn:=H
 env:=envOfC qual scope s.heap.objs.size f cd
 outer:=outer
 stack:=envOfC qual scope s.heap.objs.size f cd::outer
 ex:=[]
 calm:=true
 fn:=fun _=>true
 pn:=[]
 xe:=fun e s'=>wpAny (model P w) (A.deeper (envOfC qual scope s.heap.objs.size f cd)) (leaving (envOfC qual scope s.heap.objs.size f cd) e) (fun _ MB=>CX outer H s E e MB) (fun e' MB=>CX outer H s E e' MB) s'
theorem Hr {sc:Scope} {n:Nat} {x:Str} (h:sc.names.lookup x=some .cell):∃c,(cellsFrom n sc.names []).lookup x=some c:=by
 have q:=W.cellsFrom_some sc.names n [] (.inl h)
 exact Option.isSome_iff_exists.mp q
theorem MC {CX:zX} {P:Program} {w:World} {K:W.Frag} {mg:Str->Option Value} {base:Heap} {N ps:List Str} {qual:Str} {scope:Scope} {f:Addr} {cd:Value} {A:Around} {outer:List Env} {s s1:Shared} {H:Hp} {E:XK} {us:List Value} {vs:List V}
  (S:aJ N ps scope) (hd:A.handled=none) (e0:CK P w K mg base A outer s H) (hl:vs.length=ps.length) (r:Vals vs us)
  (x:InCallC s s.heap.objs.size (bindL (envOfC qual scope s.heap.objs.size f cd).kindOf (ps.zip us) fun _=>none) (cellsFrom (s.heap.objs.size+1) scope.names []) (bindC (envOfC qual scope s.heap.objs.size f cd).kindOf (ps.zip us) fun _=>none) s1) :
  Inv (ER CX P w K mg base N qual scope f cd A outer s H E) [] (start N vs) H s1:=by
 have gS:ps.length<=N.length:=by have:=congrArg List.length S.pre;rw[length_take] at this;omega
 obtain⟨h1,tk,rfl,hk⟩:=x.done
 have J1:∀b:Addr,b∉(ER CX P w K mg base N qual scope f cd A outer s H E).ex:=fun b z=>absurd (show b∈([]:List Addr) from z) (by simp)
 refine⟨⟨e0.mod,S.kind,rfl,rfl,Nat.le_refl _,fun y z c h1 h2=>?_,fun y hy=>?_,fun y c _ h=>?_,fun _=>hd,Around.frames_deeper e0.frames,.inr ⟨rfl,rfl⟩,fun b z=>absurd z (J1 b),e0.bs,e0.Du,fun b _ _=>J1 b,fun b z=>absurd z (J1 b),e0.tF,e0.Hc⟩,
  rfl,e0.bare,Un.kept hk,⟨_,x.toInCall.ns,fun i y v h1 h2 h3=>?_⟩,fun y c h=>⟨_,x.cell y c h⟩,e0.a9.fresh (Nat.le_refl _),fun y c h=>?_,fun p hp=>absurd (show p∈([]:List (Addr×Obj)) from hp) (by simp),e0.a9.kept hk,?_⟩
 ·exact name_of_addr x.apart (PySem.mem_of_lookup h1) (PySem.mem_of_lookup h2)
 ·have hy:scope.names.lookup y=some .cell\/scope.names.lookup y=some .free:=hy
  rcases hy with hy | hy
  ·exact Hr hy
  ·exact absurd rfl (S.Sx _ (PySem.mem_of_lookup hy))
 ·exact Nat.le_of_lt (x.above y c (PySem.mem_of_lookup h))
 ·have hi:i<vs.length:=by
   unfold start at h2
   by_cases hi:i<vs.length
   ·exact hi
   ·rw[List.getElem?_append_right (by simpa using hi)] at h2
    rw[List.getElem?_replicate] at h2
    split at h2 <;> cases h2
  have ha:vs[i]?=some v:=by
   unfold start at h2
   rw[List.getElem?_append_left (by simpa using hi),getElem?_map] at h2
   cases e:vs[i]? with
   | none=>rw[e] at h2;cases h2
   | some a=>rw[e] at h2;cases h2;rfl
  obtain⟨u,hu,rv⟩:=r.get ha
  have hp:ps[i]?=some y:=by
   rw[<- S.pre,List.getElem?_take_of_lt (by omega)];exact h1
  have ndP:ps.Nodup:=by rw[<- S.pre];exact S.nd.sublist (List.take_sublist _ _)
  refine⟨u,rv,?_⟩
  rcases S.par y (mem_of_getElem? hp) with k | k
  ·exact .inl ⟨k,FQ ndP hp hu k⟩
  ·obtain⟨c,e⟩:=Hr (n:=s.heap.objs.size+1) k
   refine .inr ⟨.inl k,c,e,?_⟩
   have q:=x.cell y c e
   rw[FR ndP hp hu (by show scope.names.lookup y≠_;rw[k];decide)] at q
   exact q
 ·exact e0.a9.fresh (Nat.le_of_lt (x.above y c (PySem.mem_of_lookup h)))
 ·unfold start
  show _=N.length
  rw[length_append,length_map,length_replicate]
  omega
theorem fn_of {CX:zX} {P:Program} {w:World} {K:W.Frag} {mg:Str->Option Value} {base:Heap} {k:Nat} {f:Addr} {name qual:Str} {params:Arguments} {body:List Stmt} {scope:Scope} {dV kV doc pm bg ct oc:Value} {an od:Option Addr}
  {zY:Array (Option Value)} {N ps:List Str} {sp:Sp} (lk:K.lookup f=some ⟨oc,od,.func (W.fnOf name qual params body scope dV kV doc pm an bg ct),zY⟩) (wc:W.codeIn K bg qual=true) (S:aJ N ps scope)
  (len:∀vs H Q E,sp vs H Q E->vs.length=ps.length)
  (Lk:∀(A:Around) (outer:List Env) (s:Shared) (H:Hp) (vs:List V) (Q:VK) (E:XK),gU k (A.deeper (envOfC qual scope s.heap.objs.size f bg))->sp vs H Q E->
   ∃t,xm (ER CX P w K mg base N qual scope f bg A outer s H E) body t/\t { nx:=fun _ H'=>Q .bE H',rt:=Q } (start N vs) H) :
  aY P w K mg base CX (k+1) f (W.fnOf name qual params body scope dV kV doc pm an bg ct) ps sp:=by
 refine⟨len,fun A outer s H args us vs Q E hr e0 hb r Ca=>?_⟩
 have hl:=len _ _ _ _ Ca
 have KX:K.In s.heap:=e0.mod.Mm.keeps fun b o e=>(e0.bs b o e).1
 have lim:s.heap.NoLimit:=e0.mod.nolimit.keeps fun b o e=>(e0.bs b o e).1
 have hkind:∀y∈ps.zip us,scope.names.lookup y.1=some .local\/(scope.names.lookup y.1=some .cell/\((cellsFrom (s.heap.objs.size+1) scope.names []).lookup y.1).isSome=true):=fun ⟨n,v⟩ hy=>by
  rcases S.par n (List.of_mem_zip hy).1 with q | q
  ·exact .inl q
  ·exact .inr ⟨q,W.cellsFrom_some _ _ _ (.inl q)⟩
 refine codeAny_call_function hr.depth (KX _ _ lk) rfl S.co S.gen rfl (W.codeRec_of KX wc) (hb _ _ _ _ ?_)
 refine wpAny_newFunctionEnv_cells S.kind hkind fun env he s1 x=>?_
 subst he
 refine⟨lim.keeps x.toInCall.keep,codeAny_func ?_⟩
 obtain⟨t,ht,hq⟩:=Lk A outer s H vs Q E (hr.deeper _) Ca
 have I:Inv (ER CX P w K mg base N qual scope f bg A outer s H E) [] (start N vs) H s1:=MC S hr.hd e0 hl r x
 refine wpAny_mono (ht [] s1 (start N vs) H _ I hq) (fun fl s' hs=>?_) fun e s' hs=>hs
 have fin:∀{σ':St} {H':Hp} {v:V} {u:Value},Inv (ER CX P w K mg base N qual scope f bg A outer s H E) [] σ' H' s'->RelV v u->Q v H'->CE outer P w H s Q u s':=
  fun {σ' H' v u} J rv q=>⟨v,H',J.os,J.bare,J.base,J.a9,rv,q⟩
 cases fl with
 | ret u=>
  obtain⟨v,σ',H',J,rv,q⟩:=hs
  exact fin J rv q
 | next=>
  obtain⟨σ',H',J,q⟩:=hs
  exact fin (v:=V.bE) (u:=Value.none) J rfl q
 | brk=>
  obtain⟨_,_,_,q⟩:=hs
  exact False.elim q
 | cont=>
  obtain⟨_,_,_,q⟩:=hs
  exact False.elim q
section
variable {X:Cx} {x:Str} {p pos:Pos} {e:Expr} {es:List Expr} {t:TA} {id T:String} {r:List V->Hp->VK->Prop}
def tCB (r:List V->Hp->VK->Prop) (t:TA):TE:=fun σ H Q=>t σ H fun vs H1=>r vs H1 Q
theorem bX (hc:ym X (.builtin id) r) (hg:Gl X x) (hm:X.mg x=none) (hv:bootBuiltins x=some (.builtin id)) (ha:PA X (e::es) t) (hn:x ≠ "__name__":=by decide) (DD:(x==("__debug__":Str))=false:=by decide)
  (he:starEach (e::es) X.env=(false,eval e X.env)::starEach es X.env:=by rfl) (gS:(backTo pos (starEach es X.env)).any (·.1)=false:=by rfl):PE X (.Call (.Name x p) (e::es) [] pos) (tCB r t):=by
 intro pins s σ H Q I h
 refine wpAny_Call_Name_kw (sH I hg hm hv ?_ hn DD)
 exact PyProof.Rows.callWith_builtin1 (bH (ha pos pins s σ H _ I h) fun us s1 ⟨vs,H1,I1,r1,q1⟩=>hc pins s1 σ H1 vs us Q I1 r1 q1) he gS
theorem FT (hc:ym X (.type T) r) (hg:Gl X x) (hm:X.mg x=none) (hv:bootBuiltins x=some (.type T)) (ha:PA X (e::es) t) (hn:x ≠ "__name__":=by decide) (DD:(x==("__debug__":Str))=false:=by decide)
  (he:starEach (e::es) X.env=(false,eval e X.env)::starEach es X.env:=by rfl) (gS:(backTo pos (starEach es X.env)).any (·.1)=false:=by rfl):PE X (.Call (.Name x p) (e::es) [] pos) (tCB r t):=by
 intro pins s σ H Q I h
 refine wpAny_Call_Name_kw (sH I hg hm hv ?_ hn DD)
 exact PyProof.Rows.callWith_type1 (bH (ha pos pins s σ H _ I h) fun us s1 ⟨vs,H1,I1,r1,q1⟩=>hc pins s1 σ H1 vs us Q I1 r1 q1) he gS
end
end L2
namespace HT
open PySem PyProof.Rows
section
variable {prog:Program} {w:World} {A:Around} {E:Value->Shared->Prop} {s:Shared}
def cV (n d:Nat):Option Int->Nat
 | none=>d
 | some v=>if v<0 then (v+(n:Int)).toNat else min v.toNat n
theorem OP (n d:Nat):cV n d none=d:=rfl
theorem Br (n d k:Nat):cV n d (some (k:Int))=min k n:=by
 show (if (k:Int)<0 then ((k:Int)+(n:Int)).toNat else min (k:Int).toNat n)=min k n
 rw[if_neg (by omega),Int.toNat_natCast]
theorem Sy (n d:Nat) (hd:d<=n) (o:Option Int):cV n d o<=n:=by
 cases o with
 | none=>exact hd
 | some v=>
  show (if v<0 then (v+(n:Int)).toNat else min v.toNat n)<=n
  by_cases hv:v<0
  ·rw[if_pos hv];omega
  ·rw[if_neg hv];exact Nat.min_le_right _ _
theorem J2 (v:Int) (n d:Nat):(if v<0 then max (v+(n:Int)) 0 else min v (n:Int))=((cV n d (some v):Nat):Int):=by
 show (if v<0 then max (v+(n:Int)) 0 else min v (n:Int))=(((if v<0 then (v+(n:Int)).toNat else min v.toNat n):Nat):Int)
 by_cases hv:v<0
 ·simp only[if_pos hv];omega
 ·simp only[if_neg hv];omega
theorem Ll (lo hi:Option Int) (n:Nat):Builtin.Slice.sliceAdjust lo hi 1 (n:Int)=(((cV n 0 lo:Nat):Int),((cV n n hi:Nat):Int)):=by
 have h1:¬((1:Int)<0):=by omega
 unfold Builtin.Slice.sliceAdjust
 simp only[h1,if_false]
 refine Prod.ext ?_ ?_
 ·cases lo with
  | none=>rfl
  | some v=>exact J2 v n 0
 ·cases hi with
  | none=>rfl
  | some v=>exact J2 v n n
theorem Lm (i j:Nat):Builtin.Slice.slicePlaces (i:Int) (j:Int) 1=j-i:=by
 unfold Builtin.Slice.slicePlaces
 have h1:(1:Int) > 0:=by omega
 simp only[h1,if_true,Int.ediv_one]
 split <;> omega
theorem DE {v:Value} {o:Option Int} {Q:Option Int->Shared->Prop} (p:IsPart v o) (h:Q o s):wpAny (model prog w) A (Builtin.Slice.slicePartIndex v) Q E s:=by
 cases p with
 | none=>exact slicePart_none h
 | int i t=>exact slicePart_int h
theorem CL {sl:Addr} {vl vu:Value} {lo hi:Option Int} {n:Nat} {Q:Int×Int×Nat->Shared->Prop} (hs:s.heap.IsSliceOf sl vl vu .none) (pl:IsPart vl lo) (pu:IsPart vu hi)
  (h:Q (((cV n 0 lo:Nat):Int),1,cV n n hi-cV n 0 lo) s):wpAny (model prog w) A (Builtin.Slice.sliceApplied (.ref sl) (pure (n:Int))) Q E s:=by
 obtain⟨os,MD,Hs,QC⟩:=id hs
 unfold Builtin.Slice.sliceApplied Builtin.Slice.sliceFields
 refine wpAny_bind (wpAny_bind (wpAny_field MD QC (x:=vl) rfl (wpAny_bind (wpAny_field MD QC (x:=vu) rfl (wpAny_bind (wpAny_field MD QC (x:=.none) rfl (wpAny_pure ?_)))))))
 refine wpAny_bind (slicePart_none ?_)
 show wpAny _ _ (if ((1:Int)==0)=true then _ else _) _ _ s
 rw[if_neg (by decide)]
 refine wpAny_bind (DE pl (wpAny_bind (DE pu (wpAny_bind (wpAny_pure ?_)))))
 show wpAny _ _ (match Builtin.Slice.sliceAdjust lo hi 1 (n:Int) with | (lo,hi)=>pure (lo,(1:Int),Builtin.Slice.slicePlaces lo hi 1)) _ _ s
 rw[Ll lo hi n]
 show wpAny _ _ (pure (((cV n 0 lo:Nat):Int),(1:Int),Builtin.Slice.slicePlaces ((cV n 0 lo:Nat):Int) ((cV n n hi:Nat):Int) 1)) _ _ s
 rw[Lm]
 exact wpAny_pure h
theorem OQ (xs:Array Value) (i k:Nat):((List.range k).filterMap fun (m:Nat)=>xs[((i:Int)+(m:Int)*1).toNat]?).toArray=((xs.toList.drop i).take k).toArray:=by
 have e:(fun (m:Nat)=>xs[((i:Int)+(m:Int)*1).toNat]?)=fun m=>xs[i+m]?:=by
  funext m
  have:((i:Int)+(m:Int)*1).toNat=i+m:=by omega
  rw[this]
 rw[e]
 have:=pick_run xs i k
 rw[List.filterMap_map] at this
 have e2:((fun x=>xs[x]?)∘fun x=>i+x)=fun m=>xs[i+m]?:=rfl
 rw[e2] at this
 rw[this]
theorem BS {t sl:Addr} {items:Array Value} {vl vu:Value} {lo hi:Option Int} {Q:Value->Shared->Prop} (ht:IsTup s.heap t items) (hs:s.heap.IsSliceOf sl vl vu .none) (pl:IsPart vl lo) (pu:IsPart vu hi)
  (hw:¬(cV items.size 0 lo=0/\cV items.size items.size hi=items.size))
  (h:Q (.ref s.heap.objs.size) { s with heap:=s.heap.push { cls:=.type "tuple",data:=.seq ((items.toList.drop (cV items.size 0 lo)).take (cV items.size items.size hi-cV items.size 0 lo)).toArray } })
  (hsz:items.size<=sizeLine):wpAny (model prog w) A (getItem (.ref t) (.ref sl)) Q E s:=by
 have G5:sizeOk (.seq ((items.toList.drop (cV items.size 0 lo)).take (cV items.size items.size hi-cV items.size 0 lo)).toArray):=by
  show ((items.toList.drop (cV items.size 0 lo)).take (cV items.size items.size hi-cV items.size 0 lo)).toArray.size<=sizeLine
  rw[size_toArray,length_take,List.length_drop,Array.length_toList]
  omega
 have hj:cV items.size items.size hi<=items.size:=Sy _ _ (Nat.le_refl _) hi
 obtain⟨os,MD,Hs,QC⟩:=id hs
 have hTs:s.TypeIs (.ref sl) "slice":=⟨os,MD,Hs⟩
 unfold getItem
 try with_reducible refine wpAny_holding ?_
 first | refine wpAny_bind (wpAny_pure ?_) | skip
 refine wpAny_bind (wpAny_sequenceKey ht.typeIs (by decide) ?_)
 refine wpAny_bind (wpAny_callSpecial?_slot (name:=Str.ofString "__getitem__") ht.typeIs PyProof.Rows.slot_tuple_getitem
  (wpAny_call_entry PyProof.Rows.slot_tuple_getitem ht.typeIs entry_tuple_getitem ?_ (args_tuple_getitem _ _)))
 show wpAny _ _ (Builtin.Tuple.tupleItemsOf (.ref t) >>= _) _ _ s
 refine wpAny_bind (tupleItemsOf_ ht ?_)
 refine wpAny_bind (wpAny_typeOf hTs ?_)
 rw[if_pos (by decide)]
 refine wpAny_bind (CL hs pl pu ?_)
 have QD:¬((((cV items.size 0 lo:Nat):Int)==0&&(1:Int)==1&&(cV items.size items.size hi-cV items.size 0 lo)==items.size)=true):=by
  intro q
  rw[Bool.and_eq_true,Bool.and_eq_true] at q
  have q1:((cV items.size 0 lo:Nat):Int)=0:=eq_of_beq q.1.1
  have q2:cV items.size items.size hi-cV items.size 0 lo=items.size:=eq_of_beq q.2
  exact hw ⟨by omega,by omega⟩
 show wpAny _ _ (if (((cV items.size 0 lo:Nat):Int)==0&&(1:Int)==1&&(cV items.size items.size hi-cV items.size 0 lo)==items.size)=true then _ else _) _ _ s
 rw[if_neg QD,OQ]
 first
  | exact wpAny_bind (m:=Builtin.Tuple.tupleExact _) (wpAny_newObj_type (wpAny_pure ⟨_,rfl,wpAny_pure h⟩) G5)
  | exact wpAny_bind (m:=Builtin.Tuple.tupleExact _) (wpAny_newObj_type (wpAny_bind (wpAny_pure (wpAny_pure ⟨_,rfl,wpAny_pure h⟩))) G5)
  | exact wpAny_bind (wpAny_bind (m:=Builtin.Tuple.tupleExact _) (wpAny_newObj_type (wpAny_pure (wpAny_pure ⟨_,rfl,wpAny_pure h⟩)) G5))
  | exact wpAny_bind (wpAny_bind (m:=Builtin.Tuple.tupleExact _) (wpAny_newObj_type (wpAny_pure ⟨_,rfl,wpAny_pure h⟩) G5))
end
end HT
namespace L2
open PySem PySem.Spec PyProof.Rows
abbrev TO:=St->Hp->(Option Int->Hp->Prop)->Prop
def PO (X:Cx) (e:Option Expr) (t:TO):Prop:=
 ∀(pins:List (Addr×Obj)) (s:Shared) (σ:St) (H:Hp) (Q:Option Int->Hp->Prop),Inv X pins σ H s->t σ H Q->
  wpAny (model X.prog X.w) X.A (evalPart e X.env) (fun u s'=>∃o H',Inv X pins σ H' s'/\IsPart u o/\Q o H') X.xe s
def RC:TO:=fun _ H Q=>Q none H
def tPart (t:TE):TO:=fun σ H Q=>t σ H fun x H1=>∃i,x = .int i/\Q (some i) H1
section
variable {X:Cx} {e:Expr} {te:TE} {lo hi:Option Expr} {tl th:TO} {pos p2:Pos}
theorem J3:PO X none RC:=by
 intro pins s σ H Q I h
 rw[evalPart_none]
 exact wpAny_pure ⟨none,H,I,.none,h⟩
theorem Bs (h:PE X e te):PO X (some e) (tPart te):=by
 intro pins s σ H Q I hw
 rw[evalPart_some]
 refine bH (h pins s σ H _ I hw) fun u s1 ⟨x,H1,I1,r1,q1⟩=>?_
 obtain⟨i,rfl,q⟩:=q1
 obtain⟨t,rfl⟩:=r1
 exact⟨some i,H1,I1,.int i t,q⟩
def Sz (X:Cx) (r:V->Option Int->Option Int->Hp->VK->Prop):Prop:=
 ∀(pins:List (Addr×Obj)) (s:Shared) (σ:St) (H:Hp) (x:V) (v vl vu:Value) (lo hi:Option Int) (sl:Addr) (Q:VK),Inv X pins σ H s->RelV x v->s.heap.IsSliceOf sl vl vu .none->IsPart vl lo->IsPart vu hi->r x lo hi H Q->
  ∃T id,typeLookup (.type T) "__getitem__"=pure (some (.builtin id))/\s.TypeIs v T/\wpAny (model X.prog X.w) X.A (getItem v (.ref sl)) (EP X pins σ Q) X.xe s
def tSl (r:V->Option Int->Option Int->Hp->VK->Prop) (te:TE) (tl th:TO):TE:=fun σ H Q=>te σ H fun x H1=>tl σ H1 fun l H2=>th σ H2 fun u H3=>r x l u H3 Q
theorem CM {r:V->Option Int->Option Int->Hp->VK->Prop} (hr:Sz X r) (he:PE X e te) (hl:PO X lo tl) (hu:PO X hi th):PE X (.Subscript e (.Slice lo hi none p2) pos) (tSl r te tl th):=by
 intro pins s σ H Q I h
 refine Subscript_ (bH (he pins s σ H _ I h) fun v s1 ⟨x,H1,I1,r1,q1⟩=>?_)
 refine wpAny_Slice (bH (hl pins s1 σ H1 _ I1 q1) fun vl s2 ⟨l,H2,I2,pl,q2⟩=>bH (hu pins s2 σ H2 _ I2 q2) fun vu s3 ⟨u,H3,I3,pu,q3⟩=>?_)
 rw[evalPart_none]
 refine wpAny_pure ?_
 have I4:Inv X pins σ H3 { s3 with heap:=s3.heap.push { cls:=.type "slice",data:=.fields #[vl,vu,.none] } }:=I3.kept (t':=s3.toks) fun b ob q=>Heap.get?_push_of_some _ q
 obtain⟨T,id,hT,ht,hg⟩:=hr pins { s3 with heap:=s3.heap.push { cls:=.type "slice",data:=.fields #[vl,vu,.none] } } σ H3 x v vl vu l u s3.heap.objs.size Q I4 r1 (Heap.IsSliceOf.new ..) pl pu q3
 show wpAny (model X.prog X.w) X.A (subscriptTail e (.Slice lo hi none p2) v (.ref s3.heap.objs.size)) (EP X pins σ Q) X.xe { s3 with heap:=s3.heap.push { cls:=.type "slice",data:=.fields #[vl,vu,.none] } }
 exact tail_any (ops:=[.ref s3.heap.objs.size,v]) ht hT hg (by with_unfolding_all rfl)
def tG (xs:List V) (lo hi:Option Int):List V:=(xs.drop (HT.cV xs.length 0 lo)).take (HT.cV xs.length xs.length hi-HT.cV xs.length 0 lo)
theorem Cb (xs:List V) (lo hi:Option Int):(tG xs lo hi).length<=xs.length:=by
 unfold tG
 rw[length_take,List.length_drop]
 omega
def rSlT (K:W.Frag):V->Option Int->Option Int->Hp->VK->Prop:=fun x lo hi H Q=>∃a xs,x = .ref a/\mY K H a xs/\
 ¬(HT.cV xs.length 0 lo=0/\HT.cV xs.length xs.length hi=xs.length)/\∀p,H p=none->Q (.ref p) (upd H p (.tup (tG xs lo hi)))
theorem SA:Sz X (rSlT X.K):=by
 intro pins s σ H x v vl vu lo hi sl Q I rx hs pl pu h
 obtain⟨a,xs,rfl,hx,hw,q⟩:=h
 cases rx
 obtain⟨aL,r,ht,hz⟩:=I.tuple hx
 have hlen:aL.toArray.size=xs.length:=by rw[size_toArray];exact r.length.symm
 refine⟨"tuple",_,PyProof.Rows.slot_tuple_getitem.lookup,ht.typeIs,?_⟩
 refine HT.BS ht hs pl pu (by rw[hlen];exact hw) ?_ (by rw[hlen];exact hz)
 rw[hlen]
 refine⟨.ref s.heap.objs.size,_,I.laid (t':=s.toks) (o:=.tup (tG xs lo hi)) (fun b ob q=>Heap.get?_push_of_some _ q) (Nat.le_refl _) ?_,rfl,q _ (I.a9.fresh (Nat.le_refl _))⟩
 exact⟨Nat.le_trans (Cb xs lo hi) hz,_,(r.drop (HT.cV xs.length 0 lo)).take (HT.cV xs.length xs.length hi-HT.cV xs.length 0 lo),IsTup.new _ _⟩
end
def zZ (n:Nat) (i:Int):Option Nat:=if 0<=i then (if i<n then some i.toNat else none) else if -(n:Int)<=i then some (i+n).toNat else none
def z0 {α:Type} (xs:List α) (i:Int):Option α:=(zZ xs.length i).bind fun j=>xs[j]?
theorem J4 {n:Nat} {i:Int} {j:Nat} (h:zZ n i=some j):seqIndex? i n=some j/\j<n/\-(n:Int)<=i/\i<n:=by
 unfold zZ at h
 by_cases h0:0<=i
 ·rw[if_pos h0] at h
  by_cases h1:i<n
  ·rw[if_pos h1] at h
   have e:i.toNat=j:=Option.some.inj h
   exact⟨by rw[seqIndex_of h0 h1,e],by omega,by omega,h1⟩
  ·rw[if_neg h1] at h;cases h
 ·rw[if_neg h0] at h
  by_cases h1:-(n:Int)<=i
  ·rw[if_pos h1] at h
   have e:(i+n).toNat=j:=Option.some.inj h
   exact⟨by rw[seqIndex_neg (by omega) h1,e],by omega,h1,by omega⟩
  ·rw[if_neg h1] at h;cases h
theorem J5 {α:Type} {xs:List α} {i:Int} {v:α} (h:z0 xs i=some v):∃j,seqIndex? i xs.length=some j/\xs[j]?=some v/\j<xs.length/\-(xs.length:Int)<=i/\i<xs.length:=by
 unfold z0 at h
 cases e:zZ xs.length i with
 | none=>rw[e] at h;cases h
 | some j=>
  rw[e] at h
  obtain⟨h1,h2,h3,h4⟩:=J4 e
  exact⟨j,h1,h,h2,h3,h4⟩
theorem a_ {α:Type} {xs:List α} {j:Nat} {v:α} (h:xs[j]?=some v):z0 xs (j:Int)=some v:=by
 have hj:j<xs.length:=(List.getElem?_eq_some_iff.mp h).1
 have e:zZ xs.length (j:Int)=some j:=by
  unfold zZ
  rw[if_pos (by omega),if_pos (by omega)];simp
 unfold z0;rw[e];exact h
def RD (b:Expr):Prop:=∀o i,subscripted b false o i=operate [o,i] (getItem o i)
def QE (X:Cx) (r:R2):Prop:=
 ∀(value slice:Expr) (pins:List (Addr×Obj)) (s:Shared) (σ:St) (H:Hp) (x y:V) (v u:Value) (Q:VK),Inv X pins σ H s->RelV x v->RelV y u->r x y H Q->
  subscripted slice false v u=operate [v,u] (getItem v u)->wpAny (model X.prog X.w) X.A (subscriptTail value slice v u) (EP X pins σ Q) X.xe s
def MtR (X:Cx) (id:String) (r:V->List V->Hp->VK->Prop):Prop:=
 ∀(pins:List (Addr×Obj)) (s:Shared) (σ:St) (H:Hp) (x:V) (xs:List V) (v:Value) (us:List Value) (Q:VK),Inv X pins σ H s->RelV x v->Vals xs us->r x xs H Q->
  wpAny (model X.prog X.w) X.A (call (.builtin id) (v::us)) (EP X pins σ Q) X.xe s
section
variable {X:Cx} {a b:Expr} {ta tb:TE} {pos:Pos}
theorem bf {r:R2} (hr:QE X r) (ha:PE X a ta) (hb:PE X b tb) (hs:RD b):PE X (.Subscript a b pos) (Qy r ta tb):=by
 intro pins s σ H Q I h
 exact Subscript_ (OI ha hb I h fun v u s2 x y H2 I2 rx ry q=>hr a b pins s2 σ H2 x y v u Q I2 rx ry q (hs _ _))
def SD (K:W.Frag):R2:=fun x y H Q=>∃p xs i v,x = .ref p/\y = .int i/\aE K H p xs/\z0 xs i=some v/\Q v H
def rIxT (K:W.Frag):R2:=fun x y H Q=>∃p xs i v,x = .ref p/\y = .int i/\mY K H p xs/\z0 xs i=some v/\Q v H
theorem aN:QE X (SD X.K):=by
 intro value slice pins s σ H x y v u Q I rx ry h hs
 obtain⟨p,xs,i,z,rfl,rfl,hq,he,q⟩:=h
 cases rx
 obtain⟨t,rfl⟩:=ry
 obtain⟨aL,r,pl,hz⟩:=I.list hq
 obtain⟨j,h1,h2,h3,h4,h5⟩:=J5 he
 obtain⟨w,ew,z4⟩:=r.get h2
 have hl:=r.length
 have hn:=DA
 have fin:EP X pins σ Q w s:=⟨z,H,I,z4,q⟩
 by_cases h0:0<=i
 ·have hj:i.toNat=j:=by
   rw[seqIndex_of h0 h5] at h1
   exact Option.some.inj h1
  exact item_listR pl.isList h0 (by omega) (by rw[hj];simpa using ew) fin hs
 ·have hj:(i+(aL.toArray.size:Int)).toNat=j:=by
   rw[seqIndex_neg (by omega) h4] at h1
   rw[size_toArray,<- hl]
   exact Option.some.inj h1
  exact subscriptTail_builtinR (x:=w) pl.isList.typeIs slot_list_getitem.lookup
   (wpAny_getItem_list_neg (Q:=fun r s'=>r=w/\EP X pins σ Q r s') pl.isList (by omega) (by rw[size_toArray] <;> omega) (by omega) (by rw[hj];simpa using ew) ⟨rfl,fin⟩) hs
theorem SE:QE X (rIxT X.K):=by
 intro value slice pins s σ H x y v u Q I rx ry h hs
 obtain⟨p,xs,i,z,rfl,rfl,hq,he,q⟩:=h
 cases rx
 obtain⟨t,rfl⟩:=ry
 obtain⟨aL,r,pl,hz⟩:=I.tuple hq
 obtain⟨j,h1,h2,h3,h4,h5⟩:=J5 he
 obtain⟨w,ew,z4⟩:=r.get h2
 have hl:=r.length
 have hn:=DA
 have fin:EP X pins σ Q w s:=⟨z,H,I,z4,q⟩
 exact subscriptTail_builtinR (x:=w) pl.typeIs slot_tuple_getitem.lookup
  (getItem_tuple (j:=j) (Q:=fun r s'=>r=w/\EP X pins σ Q r s') pl (by omega) (by omega) (by rw[size_toArray,<- hl];exact h1) (by simpa using ew) ⟨rfl,fin⟩) hs
theorem Ln (aL:List Value) (n j:Nat) (u:Value):Obj.mapSeq (·.setIfInBounds j u) { cls:=.type "list",data:=.seq aL.toArray n }={ cls:=.type "list",data:=.seq (aL.set j u).toArray n }:=by
 simp[Obj.mapSeq]
theorem Inv.lst {pins:List (Addr×Obj)} {σ:St} {H:Hp} {s:Shared} {p:Addr} {xs:List V} (I:Inv X pins σ H s) (h:H p=some (.lst xs)) :
  ∃(aL:List Value) (n:Nat),Vals xs aL/\s.heap.get? p=some { cls:=.type "list",data:=.seq aL.toArray n }/\xs.length<=sizeLine:=by
 obtain⟨z,aL,n,r,e⟩:=I.a9 p _ h
 exact⟨aL,n,r,e,z⟩
theorem Inv.SF {pins:List (Addr×Obj)} {σ:St} {H:Hp} {s:Shared} {p:Addr} {xs ys:List V} {aL qd:List Value} {n n':Nat} {f:Obj->Obj} (I:Inv X pins σ H s) (h:H p=some (.lst xs))
  (ho:s.heap.get? p=some { cls:=.type "list",data:=.seq aL.toArray n }) (hf:f { cls:=.type "list",data:=.seq aL.toArray n }={ cls:=.type "list",data:=.seq qd.toArray n' }) (r:Vals ys qd) (hz:ys.length<=sizeLine) (t:Nat) :
  Inv X pins σ (upd H p (.lst ys)) { s with heap:=s.heap.update p f,toks:=t }:=by
 have e:(s.heap.update p f).get? p=some { cls:=.type "list",data:=.seq qd.toArray n' }:=by
  rw[Heap.get?_update_self f ho (by rw[hf] <;> rfl),hf]
 refine I.write (x:=p) (e:=p) (by rw[h];trivial) (.inl rfl) (fun b u hb q=>(Heap.get?_update_other _ _ (Ne.symm hb)).trans q) ⟨_,e⟩ ?_
 exact⟨hz,qd,n',r,e⟩
def rSetL:V->V->V->Hp->(Hp->Prop)->Prop:=fun o i v H Q=>∃p xs k j,o = .ref p/\i = .int k/\H p=some (.lst xs)/\zZ xs.length k=some j/\Q (upd H p (.lst (xs.set j v)))
theorem set_list:Sh X rSetL:=by
 intro pins s σ H o i v ov iv u Q I ro ri rv h
 obtain⟨p,xs,k,j,rfl,rfl,hp,hj,q⟩:=h
 cases ro
 obtain⟨t,rfl⟩:=ri
 obtain⟨aL,n,r,ho,hz⟩:=I.lst hp
 obtain⟨h1,h2,h3,h4⟩:=J4 hj
 have hl:=r.length
 have hn:=DA
 have I':Inv X pins σ (upd H p (.lst (xs.set j v))) { s with heap:=s.heap.update p (Obj.mapSeq (·.setIfInBounds j u)) }:=
  I.SF hp ho (Ln aL n j u) (r.set rv j) (by rw[length_set];exact hz) s.toks
 by_cases h0:0<=k
 ·have hk:k.toNat=j:=by
   rw[seqIndex_of h0 h4] at h1
   exact Option.some.inj h1
  exact W.ki_setAt ho h0 (by omega) (by rw[size_toArray,<- hl];exact h4) (by rw[hk];exact⟨_,I',q⟩)
 ·have hk:(k+(aL.toArray.size:Int)).toNat=j:=by
   rw[seqIndex_neg (by omega) h3] at h1
   rw[size_toArray,<- hl]
   exact Option.some.inj h1
  exact W.ki_setBack ho (by omega) (by rw[size_toArray,<- hl];exact h3) (by omega) (by rw[hk];exact⟨_,I',q⟩)
theorem Ht (lo hi:Option Int) (n:Nat):(sliceBounds lo hi none n).1=((HT.cV n 0 lo:Nat):Int)/\(sliceBounds lo hi none n).2.1=((HT.cV n n hi:Nat):Int)/\(sliceBounds lo hi none n).2.2=1:=by
 refine⟨?_,?_,rfl⟩
 ·cases lo with
  | none=>simp[sliceBounds,HT.cV]
  | some i=>
   simp only[sliceBounds,HT.cV,Option.getD_none,show (1:Int) > 0 by decide,if_true]
   by_cases h:i<0
   ·simp only[h,if_true] <;> omega
   ·simp only[h,if_false] <;> omega
 ·cases hi with
  | none=>simp[sliceBounds,HT.cV]
  | some i=>
   simp only[sliceBounds,HT.cV,Option.getD_none,show (1:Int) > 0 by decide,if_true]
   by_cases h:i<0
   ·simp only[h,if_true] <;> omega
   ·simp only[h,if_false] <;> omega
theorem Gx (aL:List Value) (lo hi:Option Int):slicePick aL.toArray lo hi none=((aL.drop (HT.cV aL.length 0 lo)).take (HT.cV aL.length aL.length hi-HT.cV aL.length 0 lo)).toArray:=by
 obtain⟨h1,h2,h3⟩:=Ht lo hi aL.toArray.size
 unfold slicePick
 rw[h1,h2,h3]
 simp only[sliceRange_one,pick_run,size_toArray] <;> rfl
def rSlL (K:W.Frag):V->Option Int->Option Int->Hp->VK->Prop:=fun x lo hi H Q=>∃a xs,x = .ref a/\aE K H a xs/\∀p,H p=none->Q (.ref p) (upd H p (.lst (tG xs lo hi)))
theorem J6:Sz X (rSlL X.K):=by
 intro pins s σ H x v vl vu lo hi sl Q I rx hs pl pu h
 obtain⟨a,xs,rfl,hx,q⟩:=h
 cases rx
 obtain⟨aL,r,ht,hz⟩:=I.list hx
 have hlen:=r.length
 refine⟨"list",_,slot_list_getitem.lookup,ht.isList.typeIs,?_⟩
 refine wpAny_getItem_list_slice ht.isList hs pl pu .none (by simp) ?_ (by rw[size_toArray] <;> omega)
 rw[Gx,<- hlen]
 refine⟨.ref s.heap.objs.size,_,I.laid (t':=s.toks) (o:=.lst (tG xs lo hi)) (fun b ob q=>Heap.get?_push_of_some _ q) (Nat.le_refl _) ?_,rfl,q _ (I.a9.fresh (Nat.le_refl _))⟩
 exact⟨Nat.le_trans (Cb xs lo hi) hz,_,0,(r.drop (HT.cV xs.length 0 lo)).take (HT.cV xs.length xs.length hi-HT.cV xs.length 0 lo),Heap.get?_push_size _ rfl⟩
def uv:V->Bool
 | .bE=>true
 | .bl _=>true
 | .int _=>true
 | .str _=>true
 | _=>false
def DF:V->V->Bool
 | .bE,.bE=>true
 | .bl a,.bl b=>a==b
 | .bl a,.int b=>(if a then 1 else 0)==b
 | .int a,.bl b=>a==(if b then 1 else 0)
 | .int a,.int b=>a==b
 | .str a,.str b=>a==b
 | _,_=>false
theorem SG {A:Around} {s:Shared} {y x:V} {u v:Value} (ry:RelV y u) (rx:RelV x v) (fy:uv y=true) (fx:uv x=true):SeqAt.EqAt A s u v (DF y x):=by
 cases y with
 | bE=>
  cases ry
  cases x with
  | bE=>cases rx;exact SeqAt.EqAt.same _
  | bl b=>cases rx;exact SeqAt.EqAt.none_bool b
  | int b=>obtain⟨t,rfl⟩:=rx;exact SeqAt.EqAt.none_int b t
  | str b=>obtain⟨t,rfl⟩:=rx;exact SeqAt.EqAt.none_str b t
  | _=>exact absurd (show false=true from fx) Bool.false_ne_true
 | bl a=>
  cases ry
  cases x with
  | bE=>cases rx;exact SeqAt.EqAt.bool_none a
  | bl b=>cases rx;exact SeqAt.EqAt.bool_bool a b
  | int b=>obtain⟨t,rfl⟩:=rx;exact SeqAt.EqAt.bool_int a b t
  | str b=>obtain⟨t,rfl⟩:=rx;exact SeqAt.EqAt.bool_str a b t
  | _=>exact absurd (show false=true from fx) Bool.false_ne_true
 | int a=>
  obtain⟨t',rfl⟩:=ry
  cases x with
  | bE=>cases rx;exact SeqAt.EqAt.int_none a t'
  | bl b=>cases rx;exact SeqAt.EqAt.int_bool a t' b
  | int b=>obtain⟨t,rfl⟩:=rx;exact SeqAt.EqAt.int_int a t' b t
  | str b=>obtain⟨t,rfl⟩:=rx;exact SeqAt.EqAt.int_str a t' b t
  | _=>exact absurd (show false=true from fx) Bool.false_ne_true
 | str a=>
  obtain⟨t',rfl⟩:=ry
  cases x with
  | bE=>cases rx;exact SeqAt.EqAt.str_none a t'
  | bl b=>cases rx;exact SeqAt.EqAt.str_bool a t' b
  | int b=>obtain⟨t,rfl⟩:=rx;exact SeqAt.EqAt.str_int a t' b t
  | str b=>obtain⟨t,rfl⟩:=rx;exact SeqAt.EqAt.str_str a t' b t
  | _=>exact absurd (show false=true from fx) Bool.false_ne_true
 | _=>exact absurd (show false=true from fy) Bool.false_ne_true
def vc (x:V) (u:Value):Bool:=match u with
 | .none=>DF .bE x
 | .bool b=>DF (.bl b) x
 | .int i _=>DF (.int i) x
 | .str z _=>DF (.str z) x
 | _=>false
theorem ME {x y:V} {u:Value} (r:RelV y u) (f:uv y=true):vc x u=DF y x:=by
 cases y with
 | bE=>cases r;rfl
 | bl b=>cases r;rfl
 | int i=>obtain⟨t,rfl⟩:=r;rfl
 | str z=>obtain⟨t,rfl⟩:=r;rfl
 | _=>exact absurd (show false=true from f) Bool.false_ne_true
theorem xo {x:V}:∀{xs:List V} {us:List Value},Vals xs us->xs.all uv=true->us.any (vc x)=xs.any fun y=>DF y x
 | _,_,.nil,_=>rfl
 | y::xs,u::us,.cons r t,f=>by
  rw[List.all_cons,Bool.and_eq_true] at f
  rw[List.any_cons,List.any_cons,ME r f.1,xo t f.2]
theorem vd {A:Around} {s:Shared} {x:V} {v:Value} (rx:RelV x v) (fx:uv x=true):∀{xs:List V} {us:List Value},Vals xs us->xs.all uv=true->∀u∈us,SeqAt.EqAt A s u v (vc x u)
 | _,_,.nil,_=>fun u hu=>by cases hu
 | y::xs,u::us,.cons r t,f=>fun u' hu=>by
  rw[List.all_cons,Bool.and_eq_true] at f
  rcases mem_cons.mp hu with rfl | hu
  ·rw[ME r f.1];exact SG r rx f.1 fx
  ·exact vd rx fx t f.2 u' hu
def rp (x:V) (xs:List V):Bool:=xs.any fun y=>DF y x
def SH (K:W.Frag) (neg:Bool):R2:=fun x y H Q=>∃p xs,y = .ref p/\(aE K H p xs\/mY K H p xs)/\uv x=true/\xs.all uv=true/\Q (.bl (if neg then !rp x xs else rp x xs)) H
theorem MF:oG X (compareOp .In) (SH X.K false):=by
 intro pins s σ H x y v u Q I rx ry h
 obtain⟨p,xs,rfl,hq,fx,fs,q⟩:=h
 cases ry
 rcases hq with hq | hq
 ·obtain⟨aL,r,pl,hz⟩:=I.list hq
  refine SeqAt.in_listAt (vc x) pl.isList (fun w hw=>vd rx fx r fs w (by simpa using hw)) ⟨.bl _,H,I,rfl,?_⟩
  rw[show aL.toArray.any (vc x)=aL.any (vc x) by simp,xo r fs]
  exact q
 ·obtain⟨aL,r,pl,hz⟩:=I.tuple hq
  refine SeqAt.in_tupleAt (vc x) pl (fun w hw=>vd rx fx r fs w (by simpa using hw)) ⟨.bl _,H,I,rfl,?_⟩
  rw[show aL.toArray.any (vc x)=aL.any (vc x) by simp,xo r fs]
  exact q
theorem z5:oG X (compareOp .NotIn) (SH X.K true):=by
 intro pins s σ H x y v u Q I rx ry h
 obtain⟨p,xs,rfl,hq,fx,fs,q⟩:=h
 cases ry
 rcases hq with hq | hq
 ·obtain⟨aL,r,pl,hz⟩:=I.list hq
  refine SeqAt.notIn_listAt (vc x) pl.isList (fun w hw=>vd rx fx r fs w (by simpa using hw)) ⟨.bl _,H,I,rfl,?_⟩
  rw[show aL.toArray.any (vc x)=aL.any (vc x) by simp,xo r fs]
  exact q
 ·obtain⟨aL,r,pl,hz⟩:=I.tuple hq
  refine SeqAt.notIn_tupleAt (vc x) pl (fun w hw=>vd rx fx r fs w (by simpa using hw)) ⟨.bl _,H,I,rfl,?_⟩
  rw[show aL.toArray.any (vc x)=aL.any (vc x) by simp,xo r fs]
  exact q
theorem bx:ym X (.builtin "len") (fun xs H Q=>∃p ys,xs=[.ref p]/\(aE X.K H p ys\/mY X.K H p ys)/\Q (.int ys.length) H):=by
 intro pins s σ H xs us Q I r h
 obtain⟨p,ys,rfl,hq,q⟩:=h
 obtain⟨u,rfl,rx⟩:=vals1 r
 cases rx
 have hn:=DA
 rcases hq with hq | hq
 ·obtain⟨aL,r',pl,hz⟩:=I.list hq
  have hlen:=r'.length
  exact Calls.call_len_list pl.isList (by simp only[size_toArray] <;> omega) ⟨.int ys.length,H,I.tok _,⟨s.toks+1,by rw[size_toArray,hlen]⟩,q⟩
 ·obtain⟨aL,r',pl,hz⟩:=I.tuple hq
  have hlen:=r'.length
  exact len_tuple pl (by simp only[size_toArray] <;> omega) ⟨.int ys.length,H,I.tok _,⟨s.toks+1,by rw[size_toArray,hlen]⟩,q⟩
def tyV (K:W.Frag) (T:String) (x:V) (H:Hp):Prop:=match x with
 | .str _=>T="str"
 | .int _=>T="int"
 | .ref p=>(T="list"/\∃xs,aE K H p xs)\/(T="tuple"/\∃o,K.lookup p=some o/\o.cls = .type "tuple"/\o.dict=none)\/
   (T="dict"/\((∃kvs,H p=some (.dK kvs))\/∃kvs,H p=some (.dT kvs)))\/(T="set"/\∃S n,H p=some (.set S n))
 | _=>False
theorem SI {pins:List (Addr×Obj)} {σ:St} {H:Hp} {s:Shared} {T:String} {x:V} {v:Value} (I:Inv X pins σ H s) (r:RelV x v) (ty:tyV X.K T x H) :
  s.TypeIs v T/\∀a,v = .ref a->∃ob,s.heap.get? a=some ob/\ob.dict=none:=by
 cases x with
 | str z=>
  obtain⟨t,rfl⟩:=r
  cases (show T="str" from ty)
  exact⟨typeIs_str s z t,fun _ e=>nomatch e⟩
 | int i=>
  obtain⟨t,rfl⟩:=r
  cases (show T="int" from ty)
  exact⟨typeIs_int s i t,fun _ e=>nomatch e⟩
 | ref p=>
  cases r
  rcases ty with ⟨rfl,xs,hq⟩|⟨rfl,o,hk,hc,hd⟩|⟨rfl,hk⟩|⟨rfl,S,n,hk⟩
  ·obtain⟨aL,_,pl,_⟩:=I.list hq
   refine⟨pl.isList.typeIs,fun a e=>?_⟩
   cases e
   obtain⟨o,n,e,c,hd,_⟩:=pl
   exact⟨o,e,hd⟩
  ·refine⟨⟨o,I.sG p o hk,hc⟩,fun a e=>?_⟩
   cases e
   exact⟨o,I.sG _ o hk,hd⟩
  ·have z:∃o,s.heap.get? p=some o/\o.ExactDict:=by
    rcases hk with ⟨kvs,hk⟩|⟨kvs,hk⟩
    ·obtain⟨_,_,_,_,o,_,_,e,ex,_⟩:=I.a9 p _ hk
     exact⟨o,e,ex⟩
    ·obtain⟨_,_,_,_,o,_,_,e,ex,_⟩:=I.a9 p _ hk
     exact⟨o,e,ex⟩
   obtain⟨o,e,ex⟩:=z
   refine⟨⟨o,e,ex.1⟩,fun a e2=>?_⟩
   cases e2
   exact⟨o,e,ex.2.1⟩
  ·obtain⟨o,_,_,_,e,ex,_⟩:=I.a9 p _ hk
   refine⟨⟨o,e,ex.1⟩,fun a e2=>?_⟩
   cases e2
   exact⟨o,e,ex.2.1⟩
 | _=>exact False.elim ty
def tBM (K:W.Frag) (T:String) (r:V->List V->Hp->VK->Prop) (to:TE) (t:TA):TE:=fun σ H Q=>to σ H fun x H1=>tyV K T x H1/\t σ H1 fun xs H2=>r x xs H2 Q
variable {o e:Expr} {es:List Expr} {to:TE} {t:TA} {name:Str} {apos CN:Pos} {T id:String} {r:V->List V->Hp->VK->Prop}
theorem fG (pa:PlainAttrs T) (slot:Slot T name id) (hty:typeOf (.builtin id)=pure (.type "method_descriptor")) (hm:MtR X id r) (ho:PE X o to) (ha:PA X (e::es) t)
  (hbase:attributeBase o name X.env (eval o X.env)=eval o X.env:=by rfl)
  (OR:((backTo CN (starEach (e::es) X.env)).all (fun x=>!x.1)&&(backToKw CN (keywordEach [] X.env)).all (fun x=>x.1.isSome)
   && decide ((e::es).length+([]:List Keyword).length+(if ([]:List Keyword).isEmpty then 0 else 1)<30))=true:=by rfl)
  (hline:(apos.endLine==CN.line)=true:=by rfl) (hs:starEach (e::es) X.env=(false,eval e X.env)::starEach es X.env:=by rfl) (SJ:(backTo CN (starEach es X.env)).any (·.1)=false:=by rfl) :
  PE X (.Call (.Attribute o name apos) (e::es) [] CN) (tBM X.K T r to t):=by
 intro pins s σ H Q I h
 refine wpAny_Call_method_late hbase OR hline rfl (bH (ho pins s σ H _ I h) fun v s1 ⟨x,H1,I1,r1,ty,q1⟩=>?_)
 obtain⟨h1,h2⟩:=SI I1 r1 ty
 refine⟨T,id,pa,slot,hty,h1,h2,?_⟩
 have hA:=ha CN pins s1 σ H1 _ I1 q1
 rw[hs] at hA ⊢
 refine Calls.callWith_builtin (by show (false||(backTo CN (starEach es X.env)).any (·.1))=false;rw[SJ] <;> rfl) (Calls.evalArgs_plain ?_)
 exact bH hA fun us s2 ⟨vs,H2,I2,r2,q2⟩=>hm pins s2 σ H2 x vs v us Q I2 r1 r2 q2
end
def MtM (X:Cx) (id:String) (r:V->List V->Hp->VK->Prop):Prop:=
 ∀(pins:List (Addr×Obj)) (s:Shared) (σ:St) (H:Hp) (x:V) (xs:List V) (v:Value) (us:List Value) (Q:VK),Inv X pins σ H s->RelV x v->Vals xs us->r x xs H Q->
  wpAny (model X.prog X.w) X.A (call (.builtin id) (v::us)) (EP X pins σ Q) X.xe s
theorem Vals.one:∀{x:V} {us:List Value},Vals [x] us->∃u,us=[u]/\RelV x u
 | _,_,.cons r .nil=>⟨_,rfl,r⟩
theorem Vals.rep {xs:List V} {us:List Value} (h:Vals xs us):∀k:Nat,Vals (List.replicate k xs).flatten (List.replicate k us).flatten
 | 0=>.nil
 | k+1=>by
  rw[List.replicate_succ,List.replicate_succ,List.flatten_cons,List.flatten_cons]
  exact Vals.append h (Vals.rep h k)
theorem foldl_rep (aL:List Value):∀(k:Nat) (acc:List Value),
  List.foldl (fun x1 x2=>x1++x2) acc.toArray (List.replicate k aL.toArray)=(acc++(List.replicate k aL).flatten).toArray
 | 0,acc=>by simp
 | k+1,acc=>by
  have e:acc.toArray++aL.toArray=(acc++aL).toArray:=by simp
  have e2:(acc++aL)++(List.replicate k aL).flatten=acc++(List.replicate (k+1) aL).flatten:=by
   rw[List.replicate_succ,List.flatten_cons,append_assoc]
  rw[<- e2,<- foldl_rep aL k (acc++aL),<- e,List.replicate_succ,List.foldl_cons]
section
variable {X:Cx} {pins:List (Addr×Obj)} {σ:St} {H:Hp} {s:Shared} {l b:Addr} {xs ys zs:List V}
theorem Inv.SK {aL qd:List Value} {n:Nat} {f:Array Value->Array Value} {t':Nat} (I:Inv X pins σ H s) (hH:H l=some (.lst xs))
  (e:s.heap.get? l=some { cls:=.type "list",data:=.seq aL.toArray n }) (hf:f aL.toArray=qd.toArray) (hv:Vals ys qd) (hz:ys.length<=sizeLine) :
  Inv X pins σ (upd H l (.lst ys)) { s with heap:=s.heap.update l (Obj.mapSeq f),toks:=t' }:=by
 have q:=PySem.IsL.update e f
 rw[hf] at q
 refine I.write (x:=l) (e:=l) (by rw[hH];exact trivial) (.inl rfl) (fun b' u hb hu=>(Heap.get?_update_other s.heap (Obj.mapSeq f) (Ne.symm hb)).trans hu) ⟨_,q⟩ ?_
 exact⟨hz,qd,_,hv,q⟩
theorem Inv.SM {aL:List Value} {t':Nat} (I:Inv X pins σ H s) (hv:Vals ys aL) (hz:ys.length<=sizeLine) :
  Inv X pins σ (upd H s.heap.objs.size (.lst ys)) { s with heap:=s.heap.push { cls:=.type "list",data:=.seq aL.toArray },toks:=t' }:=
 I.laid (fun _ _ q=>Heap.get?_push_of_some _ q) (Nat.le_refl _) ⟨hz,aL,0,hv,Heap.get?_push_size _ rfl⟩
theorem Inv.fresh (I:Inv X pins σ H s):H s.heap.objs.size=none:=I.a9.fresh (Nat.le_refl _)
theorem Inv.ES (I:Inv X pins σ H s) (hH:H l=some (.lst xs)):xs.length<=sizeLine/\∃(aL:List Value) (n:Nat),Vals xs aL/\xs.length=aL.length/\s.heap.get? l=some { cls:=.type "list",data:=.seq aL.toArray n }:=by
 obtain⟨z,aL,n,r,e⟩:=I.a9 l _ hH
 exact⟨z,aL,n,r,r.length,e⟩
theorem Hu {n:Nat} (h:n<=sizeLine):Builtin.List.listTooLong n=false:=by
 unfold Builtin.List.listTooLong
 exact decide_eq_false (by omega)
end
section
variable {X:Cx}
def RE:V->List V->Hp->VK->Prop:=fun x vs H Q=>∃l xs y,x = .ref l/\vs=[y]/\H l=some (.lst xs)/\xs.length<sizeLine/\Q .bE (upd H l (.lst (xs++[y])))
theorem dn:MtM X "list.append" RE:=by
 intro pins s σ H x vs v us Q I rx rv h
 obtain⟨l,xs,y,rfl,rfl,hH,hz,q⟩:=h
 cases rx
 obtain⟨u,rfl,ru⟩:=rv.one
 obtain⟨z,aL,n,r,hl,e⟩:=I.ES hH
 refine call_meets F.slot_list_append ⟨_,e,rfl⟩ F.entry_list_append (F.args_list_append_2 _ _) (PySem.list_append l aL.toArray n u (by rw[size_toArray];omega)) ⟨e,?_⟩
 refine⟨.bE,_,I.SK (qd:=aL++[u]) hH e (by simp) (r.append (.cons ru .nil)) ?_,rfl,q⟩
 rw[length_append,List.length_singleton]
 omega
def RF:V->List V->Hp->VK->Prop:=fun x vs H Q=>∃l b xs zs,x = .ref l/\vs=[.ref b]/\H l=some (.lst xs)/\H b=some (.lst zs)/\xs.length+zs.length<=sizeLine/\Q .bE (upd H l (.lst (xs++zs)))
theorem lL:MtM X "list.extend" RF:=by
 intro pins s σ H x vs v us Q I rx rv h
 obtain⟨l,b,xs,zs,rfl,rfl,hH,hB,hz,q⟩:=h
 cases rx
 obtain⟨u,rfl,ru⟩:=rv.one
 cases ru
 obtain⟨z,aL,n,r,hl,e⟩:=I.ES hH
 obtain⟨z2,CO,n2,r2,jo,e2⟩:=I.ES hB
 have hsz:aL.toArray.size+CO.toArray.size<=sizeLine:=by rw[size_toArray,size_toArray];omega
 have Lo:¬(!aL.toArray.isEmpty&&Builtin.List.listTooLong (aL.toArray.size+CO.toArray.size))=true:=by
  rw[Hu hsz,Bool.and_false]
  exact Bool.false_ne_true
 refine call_meets F.slot_list_extend ⟨_,e,rfl⟩ F.entry_list_extend (F.args_list_extend_2 _ _)
  (AutoSeq1.list_extend_list_list_0 l aL.toArray n b CO.toArray n2 Lo (by rw[size_toArray];omega) (by omega)) ⟨e,e2,?_⟩
 refine⟨.bE,_,I.SK (qd:=aL++CO) hH e (by simp) (r.append r2) ?_,rfl,q⟩
 rw[length_append]
 omega
def rCat:R2:=fun x y H Q=>∃l b xs zs,x = .ref l/\y = .ref b/\H l=some (.lst xs)/\H b=some (.lst zs)/\xs.length+zs.length<=sizeLine/\∀p,H p=none->Q (.ref p) (upd H p (.lst (xs++zs)))
theorem sJ:oG X (binaryOp .Add) rCat:=by
 intro pins s σ H x y v u Q I rx ry h
 obtain⟨l,b,xs,zs,rfl,rfl,hH,hB,hz,q⟩:=h
 cases rx
 cases ry
 obtain⟨z,aL,n,r,hl,e⟩:=I.ES hH
 obtain⟨z2,CO,n2,r2,jo,e2⟩:=I.ES hB
 refine PySem.P.add_list e e2 ?_ (by rw[size_toArray,size_toArray];omega)
 have ea:aL.toArray++CO.toArray=(aL++CO).toArray:=by simp
 rw[ea]
 exact⟨.ref _,_,I.SM (t':=s.toks) (r.append r2) (by rw[length_append];omega),rfl,q _ I.fresh⟩
def rRep:R2:=fun x y H Q=>∃l k xs,x = .ref l/\y = .int k/\H l=some (.lst xs)/\-(2 ^ 63)<=k/\k<2 ^ 63/\xs.length*k.toNat<=sizeLine/\
 ∀p,H p=none->Q (.ref p) (upd H p (.lst (List.replicate k.toNat xs).flatten))
theorem len_rep {α:Type} (xs:List α) (k:Nat):(List.replicate k xs).flatten.length=k*xs.length:=by
 induction k with
 | zero=>simp
 | succ k ih=>rw[List.replicate_succ,List.flatten_cons,length_append,ih,Nat.succ_mul,Nat.add_comm]
theorem z6:oG X (binaryOp .Mult) rRep:=by
 intro pins s σ H x y v u Q I rx ry h
 obtain⟨l,k,xs,rfl,rfl,hH,h1,h2,hz,q⟩:=h
 cases rx
 obtain⟨t,rfl⟩:=ry
 obtain⟨z,aL,n,r,hl,e⟩:=I.ES hH
 have hlen:aL.toArray.size*k.toNat<=sizeLine:=by rw[size_toArray,<- hl];exact hz
 have hcap:¬aL.toArray.size*k.toNat > (2 ^ 63-1) / 8:=by
  have:(sizeLine:Nat)<=(2 ^ 63-1) / 8:=by decide
  omega
 have hfit:¬(!Builtin.List.listFitsIndex k)=true:=by
  rw[fitsIndex_both h1 h2]
  exact Bool.false_ne_true
 have Lo:¬Builtin.List.listTooLong (aL.toArray.size*k.toNat)=true:=by
  rw[Hu hlen]
  exact Bool.false_ne_true
 have Hv:List.foldl (fun x1 x2=>x1++x2) #[] (List.replicate (if aL.toArray.isEmpty=true then 0 else k.toNat) aL.toArray)=(List.replicate k.toNat aL).flatten.toArray:=by
  have f0:∀m:Nat,List.foldl (fun x1 x2=>x1++x2) #[] (List.replicate m aL.toArray)=(List.replicate m aL).flatten.toArray:=fun m=>by
   have:=foldl_rep aL m []
   rw[List.nil_append] at this
   exact this
  rw[f0]
  cases aL with
  | nil=>simp
  | cons a r'=>rw[if_neg (by simp)]
 refine wpAny_binaryOp_repeat_ref (T:="list") (U:="int") (by decide) ⟨_,e,rfl⟩ (fun s'=>typeIs_int s' k t) noFill_list_mul F.fills_int_mul F.slot_int_rmul repeat_list F.slot_int_index.lookup
  (call_meets F.slot_int_rmul (typeIs_int s k t) F.entry_int_rmul (F.args_int_rmul_2 _ _) (int___rmul___int_list k t l aL.toArray n)
   ⟨e,rfl,⟨_,e,rfl⟩,call_meets F.slot_list_mul ⟨_,e,rfl⟩ F.entry_list_mul (F.args_list_mul_2 _ _) (AutoListH.list___mul___list_int_3 l aL.toArray n k t hfit hcap Lo) ⟨e,?_⟩⟩)
 rw[Hv]
 exact⟨.ref _,_,I.SM (t':=s.toks) (r.rep k.toNat) (by rw[len_rep,Nat.mul_comm];exact hz),rfl,q _ I.fresh⟩
end
theorem Vals.ints:∀{ns:List Int} {us:List Value},Vals (ns.map V.int) us->IntsAre us ns
 | [],us,h=>by
  rw[List.map_nil] at h
  cases h
  exact IntsAre.nil
 | n::ns,us,h=>by
  rw[map_cons] at h
  cases h with
  | cons r t=>
   obtain⟨k,rfl⟩:=r
   exact IntsAre.cons n k (Vals.ints t)
theorem ve:∀{us:List Value} {ns:List Int},IntsAre us ns->Vals (ns.map V.int) us
 | _,_,.nil=>by rw[List.map_nil];exact Paired.nil
 | _,_,.cons n t h=>by rw[map_cons];exact Paired.cons (show RelV (V.int n) (Value.int n t) from ⟨t,rfl⟩) (ve h)
theorem Vals.SN {a:Addr} {us:List Value} (r:Vals [V.ref a] us):us=[Value.ref a]:=by
 cases r with
 | cons r t=>
  cases t
  cases r
  rfl
section
variable {prog:Program} {w:World} {A:Around} {E:Value->Shared->Prop} {s:Shared} {l:Addr} {aL:List Value} {ns:List Int} {Q:Value->Shared->Prop}
theorem RG (hh:A.handled=none) (hl:s.heap.IsList l aL.toArray) (hi:IntsAre aL ns)
  (h:∀h' tk t',(∀b o,s.heap.get? b=some o->h'.get? b=some o)->Q (.int ns.sum t') { s with heap:=h',toks:=tk }):wpAny (model prog w) A (call (.builtin "sum") [.ref l]) Q E s:=by
 obtain⟨xs,e⟩:=hi.allInts.items
 have hn:numsOf (intItems xs).toList=ns:=by rw[<- e];exact hi.numsOf
 rw[nums_intItems] at hn
 rw[e] at hl
 refine PySem.sum_intListG hh hl fun h' tk t' hk=>?_
 have:=h h' tk t' hk
 rw[preSum_eq,List.take_of_length_le (by simp),hn];exact this
end
section
variable {X:Cx}
def rSum (K:W.Frag):List V->Hp->VK->Prop:=fun vs H Q=>∃(a:Addr) (ns:List Int),vs=[V.ref a]/\aE K H a (ns.map V.int)/\Q (.int ns.sum) H
theorem SO (hc:X.calm=true):ym X (.builtin "sum") (rSum X.K):=by
 intro pins s σ H vs us Q I r h
 obtain⟨a,ns,rfl,hs,q⟩:=h
 obtain⟨aL,rv,hl,_⟩:=I.list hs
 rw[Vals.SN r]
 exact RG (I.ok.hd hc) hl.isList rv.ints fun h' tk t' hk=>⟨.int _,H,I.kept hk,⟨_,rfl⟩,q⟩
end
abbrev MG (h:Heap) (c:Addr) (v:Option Value):Prop:=h.IsCell c v
def relS (scope sc:Scope):Scope:=
 { scope with names:=scope.names.map fun (n,k)=>if (k == .free&&sc.kind == .function&&sc.names.lookup n==some .cell) then (n,.cell) else (n,k) }
def dO (cells:List (Str×Addr)):List (Str×NameKind)->List (Str×Addr)->List (Str×Addr)
 | [],acc=>acc
 | (n,k)::r,acc=>if k == .free then dO cells r ((n,(cells.lookup n).getD 0)::acc) else dO cells r acc
theorem z7 (env:Env) (f:Str×NameKind->List (Str×Addr)->Sem (ForInStep (List (Str×Addr))))
  (hf:∀n k c,f (n,k) c=if k == .free then (do let a <- cellOf env n;pure (.yield ((n,a)::c))) else pure (.yield c)) :
  ∀(names:List (Str×NameKind)) (acc:List (Str×Addr)),(∀y∈names,y.2 = .free->∃c,env.cells.lookup y.1=some c)->forIn names acc f=pure (dO env.cells names acc)
 | [],acc,_=>by rw[List.forIn_nil];rfl
 | (n,k)::r,acc,h=>by
  rw[List.forIn_cons,hf]
  have ih:=fun acc=>z7 env f hf r acc fun y hy=>h y (mem_cons_of_mem _ hy)
  unfold dO
  by_cases hk:(k==NameKind.free)=true
  ·rw[if_pos hk,if_pos hk]
   obtain⟨c,hc⟩:=h (n,k) List.mem_cons_self (by simpa using hk)
   have e:cellOf env n=pure c:=by unfold cellOf;rw[hc]
   rw[e]
   have e2:(env.cells.lookup n).getD 0=c:=by rw[hc];rfl
   rw[e2]
   exact ih _
  ·rw[if_neg hk,if_neg hk]
   exact ih _
theorem Lp {scope:Scope} {env:Env} (h:∀y∈scope.names,y.2 = .free->∃c,env.cells.lookup y.1=some c):closureFor scope env=pure (dO env.cells scope.names []):=by
 simp only[closureFor]
 rw[z7 env _ (fun n k c=>rfl) scope.names [] h]
 rfl
theorem mem_lookup {α:Type}:∀{l:List (Str×α)} {n:Str} {c:α},(n,c)∈l->∃c',l.lookup n=some c'
 | (k,v)::r,n,c,h=>by
  rw[List.lookup_cons]
  cases hb:n==k with
  | true=>exact⟨_,rfl⟩
  | false=>
   rcases mem_cons.mp h with e | h
   ·cases e;simp at hb
   ·exact mem_lookup h
theorem so {cells:List (Str×Addr)}:∀{names:List (Str×NameKind)} {acc:List (Str×Addr)} {n:Str} {c:Addr},(n,c)∈dO cells names acc->(n,c)∈acc\/((n,.free)∈names/\c=(cells.lookup n).getD 0)
 | [],_,_,_,h=>.inl h
 | (m,k)::r,acc,n,c,h=>by
  unfold dO at h
  split at h
  ·rename_i hk
   have hk:k = .free:=by simpa using hk
   rcases so h with h | ⟨h1,h2⟩
   ·rcases mem_cons.mp h with e | h
    ·cases e;exact .inr ⟨hk ▸ List.mem_cons_self,rfl⟩
    ·exact .inl h
   ·exact .inr ⟨mem_cons_of_mem _ h1,h2⟩
  ·rcases so h with h | ⟨h1,h2⟩
   ·exact .inl h
   ·exact .inr ⟨mem_cons_of_mem _ h1,h2⟩
theorem wL {cells:List (Str×Addr)}:∀{names:List (Str×NameKind)} {acc:List (Str×Addr)} {p:Str×Addr},p∈acc->p∈dO cells names acc
 | [],_,_,h=>h
 | (m,k)::r,acc,p,h=>by
  unfold dO
  split
  ·exact wL (mem_cons_of_mem _ h)
  ·exact wL h
theorem wM {cells:List (Str×Addr)}:∀{names:List (Str×NameKind)} {acc:List (Str×Addr)} {n:Str},(n,.free)∈names->(n,(cells.lookup n).getD 0)∈dO cells names acc
 | (m,k)::r,acc,n,h=>by
  unfold dO
  rcases mem_cons.mp h with e | h
  ·cases e
   exact wL List.mem_cons_self
  ·split
   ·exact wM h
   ·exact wM h
theorem sL:∀{names:List (Str×NameKind)} {h:Heap} {acc:List (Str×Addr)} {x:Str} {c:Addr},(x,c)∈cellsFrom h.objs.size names acc->
  (x,c)∈acc\/((x,.cell)∈names/\h.objs.size<=c/\MG (pushCells h names) c none)
 | [],_,_,_,_,h=>.inl h
 | (n,k)::r,h,acc,x,c,hm=>by
  unfold cellsFrom at hm
  unfold pushCells
  split at hm
  ·rename_i hk
   rw[if_pos hk]
   have hk:k = .cell:=by simpa using hk
   rw[<- Heap.size_push h { cls:=.type "cell",data:=.cell none }] at hm
   rcases sL hm with hm | ⟨h1,h2,h3⟩
   ·rcases mem_cons.mp hm with e | hm
    ·cases e
     exact .inr ⟨hk ▸ List.mem_cons_self,Nat.le_refl _,_,pushCells_keeps r _ _ _ (Heap.get?_push_size _ rfl),rfl⟩
    ·exact .inl hm
   ·rw[Heap.size_push] at h2
    exact .inr ⟨mem_cons_of_mem _ h1,Nat.le_of_succ_le h2,h3⟩
  ·rename_i hk
   rw[if_neg hk]
   rcases sL hm with hm | ⟨h1,h2,h3⟩
   ·exact .inl hm
   ·exact .inr ⟨mem_cons_of_mem _ h1,h2,h3⟩
theorem wd:∀{names:List (Str×NameKind)} {n:Nat} {acc:List (Str×Addr)} {p:Str×Addr},p∈acc->p∈cellsFrom n names acc
 | [],_,_,_,h=>h
 | (m,k)::r,n,acc,p,h=>by
  unfold cellsFrom
  split
  ·exact wd (mem_cons_of_mem _ h)
  ·exact wd h
theorem z8:∀{names:List (Str×NameKind)} {n:Nat} {acc:List (Str×Addr)} {x:Str},(x,.cell)∈names->∃c,(x,c)∈cellsFrom n names acc
 | (m,k)::r,n,acc,x,h=>by
  unfold cellsFrom
  rcases mem_cons.mp h with e | h
  ·cases e
   exact⟨n,wd List.mem_cons_self⟩
  ·split
   ·exact z8 h
   ·exact z8 h
theorem z9:∀{names:List (Str×NameKind)} {h:Heap} {acc:List (Str×Addr)} {x y:Str} {c:Addr},(∀p∈acc,p.2<h.objs.size)->(∀x y c,(x,c)∈acc->(y,c)∈acc->x=y)->
  (x,c)∈cellsFrom h.objs.size names acc->(y,c)∈cellsFrom h.objs.size names acc->x=y
 | [],_,_,_,_,_,_,hi,h1,h2=>hi _ _ _ h1 h2
 | (n,k)::r,h,acc,x,y,c,hl,hi,h1,h2=>by
  unfold cellsFrom at h1 h2
  split at h1
  ·rename_i hk
   rw[if_pos hk] at h2
   rw[<- Heap.size_push h { cls:=.type "cell",data:=.cell none }] at h1 h2
   refine z9 (h:=h.push _) (fun p hp=>?_) (fun x y c a b=>?_) h1 h2
   ·rw[Heap.size_push]
    rcases mem_cons.mp hp with rfl | hp
    ·exact Nat.lt_succ_self _
    ·exact Nat.lt_succ_of_lt (hl p hp)
   ·rcases mem_cons.mp a with e | a <;> rcases mem_cons.mp b with e' | b
    ·cases e;cases e';rfl
    ·cases e;exact absurd (hl _ b) (Nat.lt_irrefl _)
    ·cases e';exact absurd (hl _ a) (Nat.lt_irrefl _)
    ·exact hi _ _ _ a b
  ·rename_i hk
   rw[if_neg hk] at h2
   exact z9 hl hi h1 h2
theorem Jw {M:Model} {A:Around} {E:Value->Shared->Prop} {s:Shared} {scope:Scope} {globals:Addr} {closure:List (Str×Addr)} {qual:Str} {func:Option Addr} {code:Value} {around:Env} {builtins:Addr} {Q:Env->Shared->Prop}
  (h:Q (newEnv scope s.heap.objs.size globals (cellsFrom (s.heap.objs.size+1) scope.names closure) qual func code (some around) builtins)
   { s with heap:=pushCells (s.heap.push { cls:=.type "dict",data:=.dict #[] }) scope.names }) :
  wpAny M A (newFunctionEnv scope globals closure [] qual func code (some around) builtins) Q E s:=by
 simp only[newFunctionEnv,Option.isSome_some,if_true]
 refine wpAny_bind (wpAny_alloc ?_)
 refine wpAny_bind (wpAny_layCells _ (fun n k c=>rfl) scope.names closure _ _ ?_)
 rw[show ({ s with heap:=s.heap.push { cls:=.type "dict",data:=.dict #[] } }:Shared).heap.objs.size=s.heap.objs.size+1 from Heap.size_push ..]
 rw[List.forIn_nil]
 exact wpAny_bind (wpAny_pure (wpAny_pure h))
theorem wN {sc:Scope}:∀{names:List (Str×NameKind)} {x:Str} {k:NameKind},
  (names.map fun (n,k)=>if (k==NameKind.free&&sc.kind == .function&&sc.names.lookup n==some .cell) then (n,NameKind.cell) else (n,k)).lookup x=some k->
  ∃k',names.lookup x=some k'/\(k=k'\/(k' = .free/\k = .cell))
 | [],_,_,h=>by simp at h
 | (n,k₀)::r,x,k,h=>by
  have ih:=@wN sc r x k
  have h':List.lookup x ((if (k₀==NameKind.free&&sc.kind == .function&&sc.names.lookup n==some .cell)=true then (n,NameKind.cell) else (n,k₀))::(r.map _))=some k:=h
  cases hx:x==n with
  | true=>
   simp only[List.lookup_cons,hx]
   by_cases hc:(k₀==NameKind.free&&sc.kind == .function&&sc.names.lookup n==some .cell)=true
   ·rw[if_pos hc] at h'
    simp only[List.lookup_cons,hx] at h'
    cases h'
    simp only[Bool.and_eq_true,beq_iff_eq] at hc
    exact⟨k₀,rfl,.inr ⟨hc.1.1,rfl⟩⟩
   ·rw[if_neg hc] at h'
    simp only[List.lookup_cons,hx] at h'
    cases h'
    exact⟨_,rfl,.inl rfl⟩
  | false=>
   simp only[List.lookup_cons,hx]
   by_cases hc:(k₀==NameKind.free&&sc.kind == .function&&sc.names.lookup n==some .cell)=true
   ·rw[if_pos hc] at h'
    simp only[List.lookup_cons,hx] at h'
    exact ih h'
   ·rw[if_neg hc] at h'
    simp only[List.lookup_cons,hx] at h'
    exact ih h'
structure DG (N:List Str) (sc scope:Scope) (own:List (Str×Nat)):Prop where
 kind:scope.kind = .function
 uniq:∀y∈scope.names,scope.names.lookup y.1=some y.2
 ix:∀p∈own,N[p.2]?=some p.1
 free:∀y∈scope.names,y.2 = .free->sc.names.lookup y.1=some .cell\/sc.names.lookup y.1=some .free
 own:∀y∈scope.names,y.2 = .local\/y.2 = .cell->y.1∈own.map (·.1)\/y.1∉N
def wipe (σ:St):List Nat->St
 | []=>σ
 | v::vs=>(wipe σ vs).set v none
theorem wO (σ:St):∀vs:List Nat,(wipe σ vs).length=σ.length
 | []=>rfl
 | v::vs=>by unfold wipe;rw[length_set,wO σ vs]
theorem z_ {σ:St} {i:Nat} {x:V}:∀{vs:List Nat},(wipe σ vs)[i]?=some (some x)->σ[i]?=some (some x)/\i∉vs
 | [],h=>⟨h,by simp⟩
 | v::vs,h=>by
  unfold wipe at h
  by_cases hi:v=i
  ·subst hi
   by_cases hv:v<(wipe σ vs).length
   ·rw[List.getElem?_set_self hv] at h;cases h
   ·rw[List.getElem?_eq_none (by simpa using hv)] at h;cases h
  ·rw[List.getElem?_set_ne hi] at h
   obtain⟨h1,h2⟩:=z_ h
   exact⟨h1,by simp only[mem_cons,not_or];exact⟨fun e=>hi e.symm,h2⟩⟩
abbrev Cx.qf (X:Cx) (s:Shared) (H:Hp) (scope:Scope) (gb:Env) (fp:List Addr):Cx:={ X with pJ:=s,Mn:=H,env:=gb,outer:=X.stack,ex:=fp,fn:=fun x=>scope.names.lookup x==some .cell,pn:=[],xe:=fun _ _=>False }
section
variable {X:Cx} {pins:List (Addr×Obj)} {σ:St} {H:Hp} {s:Shared}
theorem Jx {scope:Scope} {own:List (Str×Nat)} {fp:List Addr} (I:Inv X pins σ H s) (ok:DG X.N X.env.scope scope own) (hN:X.N.Nodup) (J7:∀b∈fp,wK X pins H b/\b<s.heap.objs.size) :
  Inv (X.qf s H scope (compEnvC scope (cellsFrom (s.heap.objs.size+1) scope.names (dO X.env.cells scope.names [])) s.heap.objs.size X.env) fp) [] (wipe σ (own.map (·.2))) H { s with heap:=pushCells (s.heap.push { cls:=.type "dict",data:=.dict #[] }) scope.names }:=by
 have Bo:∀y∈scope.names,y.2 = .free->∃c,X.env.cells.lookup y.1=some c:=fun y hy e=>by
  rcases ok.free y hy e with k | k
  ·exact I.ok.has _ (.inl k)
  ·exact I.ok.has _ (.inr k)
 generalize DH:compEnvC scope (cellsFrom (s.heap.objs.size+1) scope.names (dO X.env.cells scope.names [])) s.heap.objs.size X.env=gb
 have kp:∀b o,s.heap.get? b=some o->(pushCells (s.heap.push { cls:=.type "dict",data:=.dict #[] }) scope.names).get? b=some o:=fun b o e=>pushCells_keeps _ _ _ _ (Heap.get?_push_of_some _ e)
 have hL:gb.locals=s.heap.objs.size:=by rw[<- DH];rfl
 have oV:gb.cells=cellsFrom (s.heap.objs.size+1) scope.names (dO X.env.cells scope.names []):=by rw[<- DH];rfl
 have SQ:gb.scope=relS scope X.env.scope:=by rw[<- DH];rfl
 rw[<- Heap.size_push s.heap { cls:=.type "dict",data:=.dict #[] }] at oV
 have cm:∀{y c},(y,c)∈dO X.env.cells scope.names []->X.env.cells.lookup y=some c/\c<s.heap.objs.size:=fun {y c} hm=>by
  rcases so hm with hm | ⟨h1,rfl⟩
  ·cases hm
  ·obtain⟨c,hc⟩:=Bo _ h1 rfl
   rw[hc]
   obtain⟨w,z⟩:=I.cell _ _ hc
   exact⟨rfl,z.lt⟩
 have mem:∀{y c},gb.cells.lookup y=some c->(X.env.cells.lookup y=some c/\c<s.heap.objs.size)\/(s.heap.objs.size+1<=c/\MG (pushCells (s.heap.push { cls:=.type "dict",data:=.dict #[] }) scope.names) c none):=fun {y c} e=>by
  rw[oV] at e
  rcases sL (PySem.mem_of_lookup e) with hm | ⟨_,h2,h3⟩
  ·exact .inl (cm hm)
  ·rw[Heap.size_push] at h2;exact .inr ⟨h2,h3⟩
 have look:∀{y},scope.names.lookup y=some .free->∃c,gb.cells.lookup y=some c/\X.env.cells.lookup y=some c:=fun {y} hl=>by
  have hy:(y,NameKind.free)∈scope.names:=PySem.mem_of_lookup hl
  obtain⟨c',e'⟩:=mem_lookup (wd (names:=scope.names) (n:=(s.heap.push { cls:=.type "dict",data:=.dict #[] }).objs.size) (wM (cells:=X.env.cells) (acc:=[]) hy))
  rw[<- oV] at e'
  refine⟨c',e',?_⟩
  rw[oV] at e'
  rcases sL (PySem.mem_of_lookup e') with hm | ⟨h1,_,_⟩
  ·exact(cm hm).1
  ·have:=ok.uniq _ h1
   rw[hl] at this;cases this
 have okB:(X.qf s H scope gb fp).Ok:=by
  refine⟨I.ok.mod,by show gb.scope.kind=_;rw[SQ];exact ok.kind,by show gb.globals=_;rw[<- DH];exact I.ok.glob,by show gb.builtins=_;rw[<- DH];exact I.ok.blt,by show s.heap.objs.size<=gb.locals;rw[hL];exact Nat.le_refl _,
   fun y z c e1 e2=>?_,fun y hy=>?_,fun y c z e=>?_,I.ok.hd,I.ok.frames,.inl rfl,fun b hb=>⟨?_,fun y c e z=>?_⟩,I.bs,Nat.le_trans I.ok.Du I.sz,fun b o e hb=>?_,fun b hb z=>?_,I.stack,I.JU⟩
  ·have e1:gb.cells.lookup y=some c:=e1
   have e2:gb.cells.lookup z=some c:=e2
   rw[oV] at e1 e2
   refine z9 (fun p hp=>?_) (fun y z c a b=>I.ok.inj y z c (cm a).1 (cm b).1) (PySem.mem_of_lookup e1) (PySem.mem_of_lookup e2)
   rw[Heap.size_push]
   exact Nat.lt_succ_of_lt (cm (y:=p.1) (c:=p.2) hp).2
  ·show ∃c,gb.cells.lookup y=some c
   have key:∀k,gb.kindOf y=some k->(k = .cell\/k = .free)->∃c,gb.cells.lookup y=some c:=fun k hk sM=>by
    unfold Env.kindOf at hk
    rw[SQ] at hk
    obtain⟨k',e,r⟩:=wN hk
    have:k' = .cell\/k' = .free:=by
     rcases r with rfl | ⟨rfl,_⟩
     ·exact sM
     ·exact .inr rfl
    rcases this with rfl | rfl
    ·obtain⟨c,hm⟩:=z8 (n:=(s.heap.push { cls:=.type "dict",data:=.dict #[] }).objs.size) (acc:=dO X.env.cells scope.names []) (PySem.mem_of_lookup e)
     obtain⟨c',e'⟩:=mem_lookup hm
     exact⟨c',by rw[oV];exact e'⟩
    ·obtain⟨c,h1,_⟩:=look e
     exact⟨c,h1⟩
   rcases hy with hy | hy
   ·exact key _ hy (.inl rfl)
   ·exact key _ hy (.inr rfl)
  ·have z:(scope.names.lookup y==some NameKind.cell)=true:=z
   have z:scope.names.lookup y=some .cell:=by simpa using z
   have e:gb.cells.lookup y=some c:=e
   rw[oV] at e
   rcases sL (PySem.mem_of_lookup e) with hm | ⟨_,h2,_⟩
   ·rcases so hm with hm | ⟨h1,_⟩
    ·cases hm
    ·have q:=ok.uniq _ h1
     rw[z] at q;cases q
   ·rw[Heap.size_push] at h2
    exact Nat.le_of_succ_le h2
  ·show b≠gb.locals
   rw[hL];exact Nat.ne_of_lt (J7 b hb).2
  ·have e:gb.cells.lookup y=some c:=e
   rcases mem e with ⟨h1,_⟩|⟨h1,_⟩
   ·exact(J7 b hb).1.2.2.2.2.1 y c h1 z
   ·have h2:s.heap.objs.size+1<=b:=by rw[<- z];exact h1
    exact absurd (Nat.lt_of_lt_of_le (J7 b hb).2 (Nat.le_of_succ_le h2)) (Nat.lt_irrefl _)
  ·rcases (J7 b hb).1.2.2.2.1 with z | z
   ·exact I.ok.Ha b o e z
   ·exact absurd (Nat.lt_of_lt_of_le (Heap.lt_size e) (Nat.le_trans I.ok.Du z)) (Nat.lt_irrefl _)
  ·rcases mem_cons.mp (I.He b z) with z | z
   ·exact(J7 b hb).1.2.1 z
   ·exact(J7 b hb).1.2.2.1 z
 refine⟨okB,rfl,I.bare,Un.kept kp,⟨fun _=>none,?_,fun i y av e1 e2 e3=>?_⟩,fun y c e=>?_,?_,fun y c e=>?_,fun p hp=>?_,I.a9.kept kp,by rw[wO];exact I.len⟩
 ·show Heap.Ns _ gb.locals _
  rw[hL]
  exact Heap.Ns.keeps (Heap.Ns.new ..) fun b o e=>pushCells_keeps _ _ _ _ e
 ·obtain⟨e2,h9⟩:=z_ e2
  have Hw:scope.names.lookup y=some .free/\(gb.kindOf y=some .cell\/gb.kindOf y=some .free):=by
   have key:∀k,gb.scope.names.lookup y=some k->k = .local\/k = .cell\/k = .free->scope.names.lookup y=some .free/\(gb.kindOf y=some .cell\/gb.kindOf y=some .free):=fun k hk sM=>by
    have hk0:=hk
    rw[SQ] at hk
    obtain⟨k',e,r⟩:=wN hk
    have no:¬(k' = .local\/k' = .cell):=fun hh=>by
     rcases ok.own _ (PySem.mem_of_lookup e) hh with e' | e'
     ·obtain⟨p,hp,hpy⟩:=mem_map.mp e'
      have e3:=ok.ix p hp
      have:p.1=y:=hpy
      rw[this] at e3
      exact h9 (mem_map.mpr ⟨p,hp,CG hN e3 e1⟩)
     ·exact e' (mem_of_getElem? e1)
    rcases r with rfl | ⟨rfl,rfl⟩
    ·rcases sM with rfl | rfl | rfl
     ·exact absurd (.inl rfl) no
     ·exact absurd (.inr rfl) no
     ·exact⟨e,.inr hk0⟩
    ·exact⟨e,.inl hk0⟩
   have e3:Mo gb.scope y:=e3
   rcases e3 with e3 | e3 | e3
   ·exact key _ e3 (.inl rfl)
   ·exact key _ e3 (.inr (.inl rfl))
   ·exact key _ e3 (.inr (.inr rfl))
  obtain⟨m,hn,hl⟩:=I.loc
  have hvis:Mo X.env.scope y:=(ok.free _ (PySem.mem_of_lookup Hw.1) rfl).elim (fun k=>.inr (.inl k)) (fun k=>.inr (.inr k))
  obtain⟨w,r,q⟩:=hl i y av e1 e2 hvis
  refine⟨w,r,.inr ⟨Hw.2,?_⟩⟩
  obtain⟨c,h1,h2⟩:=look Hw.1
  rcases q with ⟨k,_⟩|⟨_,c',e',z⟩
  ·have k:X.env.scope.names.lookup y=some .local:=k
   rcases ok.free _ (PySem.mem_of_lookup Hw.1) rfl with k' | k' <;> rw[show X.env.scope.names.lookup y=_ from k'] at k <;> cases k
  ·rw[h2] at e';cases e'
   exact⟨c,h1,z.keeps kp⟩
 ·have e:gb.cells.lookup y=some c:=e
  rcases mem e with ⟨h1,_⟩|⟨_,z⟩
  ·obtain⟨w,z⟩:=I.cell y c h1
   exact⟨w,z.keeps kp⟩
  ·exact⟨_,z⟩
 ·show H gb.locals=none
  rw[hL];exact I.a9.fresh (Nat.le_refl _)
 ·have e:gb.cells.lookup y=some c:=e
  rcases mem e with ⟨h1,_⟩|⟨h1,_⟩
  ·exact I.o6 y c h1
  ·exact I.a9.fresh (Nat.le_of_succ_le h1)
 ·exact absurd (show p∈([]:List (Addr×Obj))++[] from hp) (by simp)
theorem SR {E:Value->Shared->Prop} {D:Addr} {xs:List V} {y:V} {v:Value} {Q:Value->Shared->Prop} (I:Inv X pins σ H s) (hD:H D=some (.lst xs)) (hz:xs.length<sizeLine) (r:RelV y v)
  (h:∀s',Inv X pins σ (upd H D (.lst (xs++[y]))) s'->Q .none s'):wpAny (model X.prog X.w) X.A (call (.builtin "list.append") [.ref D,v]) Q E s:=by
 obtain⟨lM,aL,n,ri,e⟩:=I.a9 D _ hD
 have hl:=ri.length
 refine append_at (hsz:=by rw[size_toArray];omega) e fun h' sb za=>?_
 refine h { s with heap:=h' } (I.write (t':=s.toks) (by rw[hD];trivial) (.inl rfl) (fun b u hb q=>(sb.2 b hb).trans q) ⟨_,za⟩ ⟨by rw[length_append];exact hz,aL++[v],n+1,ri.append (.cons r .nil),?_⟩)
 rw[za]
 simp
def MH (X:Cx) (ifs:List Expr) (t:TT):Prop:=
 ∀(pins:List (Addr×Obj)) (s:Shared) (σ:St) (H:Hp) (Q:Bool->Hp->Prop),Inv X pins σ H s->t σ H Q->
  wpAny (model X.prog X.w) X.A (forIn ifs true fun c r=>if r=true then do let ok <- isTrue c X.env (eval c X.env);pure (ForInStep.yield ok) else pure (ForInStep.yield r)) (TP X pins σ Q) X.xe s
def SS:TT:=fun _ H Q=>Q true H
theorem ja:MH X [] SS:=fun _ _ _ H _ I h=>wpAny_tests_nil ⟨H,I,h⟩
theorem rK {c:Expr} {t:TT} (h:PT X c t):MH X [c] t:=fun pins s σ H Q I hw=>wpAny_tests_one (h pins s σ H Q I hw)
end
theorem ET {α:Type} {t:Sem α} {Q Q':α->Shared->Prop} {M:Model} {A:Around} {E:Value->Shared->Prop} {s:Shared} (h:wpAny M A t Q (fun _ _=>False) s) (hQ:∀a s,Q a s->Q' a s):wpAny M A t Q' E s:=wpAny_mono h hQ fun _ _ z=>False.elim z
theorem Hx {prog:Program} {w:World} {A:Around} {R:Result->Shared->Prop} {s:Shared} {elt target iter:Expr} {ifs:List Expr} {scope:Scope} {pos:Pos} {it acc:Value} {env:Env} (I:Nat->Shared->Prop)
  (turn:∀n s,I n s->wpAny (model prog w) A (pyNext it) (fun r s₁=>match r with
   | none=>R (.ok .next) s₁
   | some v=>wpAny (model prog w) A (letOwnedTupleGo target it v) (fun _ s₁'=>wpAny (model prog w) A (assign target env v) (fun _ s₂=>
     wpAny (model prog w) A (forIn ifs true fun c r=>if r=true then do let ok <- isTrue c env (eval c env);pure (ForInStep.yield ok) else pure (ForInStep.yield r)) (fun ok s₃=>
      if ok=true then wpAny (model prog w) A (eval elt env) (fun x s₄=>
       wpAny (model prog w) A (call (.builtin "list.append") [acc,x]) (fun _ s₅=>∃m,m<n/\I m s₅) (notedBy (model prog w) A env fun e s'=>R (.error e) s') s₄) (notedBy (model prog w) A env fun e s'=>R (.error e) s') s₃
      else ∃m,m<n/\I m s₃) (notedBy (model prog w) A env fun e s'=>R (.error e) s') s₂) (notedBy (model prog w) A env fun e s'=>R (.error e) s') s₁') (notedBy (model prog w) A env fun e s'=>R (.error e) s') s₁) (notedBy (model prog w) A env fun e s'=>R (.error e) s') s)
  (n:Nat) (h:I n s) :
  codeAny (model prog w) A (.compLoop (.ListComp elt [⟨target,iter,ifs,0⟩] scope pos) 0 it acc env) R s:=by
 refine codeAny_loop rfl I (fun n s hI=>?_) n h
 show wpAny _ A ((compTurn (.ListComp elt [⟨target,iter,ifs,0⟩] scope pos) 0 it acc env).onRaise (fun x=>do noteFrame x env;theTreesLotGoes x)) _ _ s
 refine wpAny_noted ?_
 rw[compTurn_list]
 refine wpAny_bind (wpAny_standAt (wpAny_bind (wpAny_mono (turn n s hI) (fun r s₁ h₁=>?_) fun _ _ h'=>h')))
 cases r with
 | none=>exact wpAny_pure h₁
 | some v=>
  refine wpAny_bind (wpAny_mono h₁ (fun _ s₁' h₁'=>?_) fun _ _ h'=>h')
  refine wpAny_bind (wpAny_mono h₁' (fun _ s₂ h₂=>wpAny_bind (wpAny_mono h₂ (fun ok s₃ h₃=>?_) fun _ _ h'=>h')) fun _ _ h'=>h')
  cases ok with
  | false=>exact wpAny_pure ⟨rfl,h₃⟩
  | true=>
   exact wpAny_bind (wpAny_bind (wpAny_mono h₃ (fun x s₄ h₄=>wpAny_bind (wpAny_mono h₄ (fun _ s₅ h₅=>wpAny_pure (wpAny_pure ⟨rfl,h₅⟩)) fun _ _ h'=>h')) fun _ _ h'=>h'))
section
variable {X:Cx}
def QF (wi:TI) (g:TG) (tt:TT) (te:TE) (vs:List Nat):TE:=fun σ H Q=>wi σ H fun J H1=>∀D,H1 D=none->∃W:Nat->Nat->Hp->Prop,(∃m,W 0 m (upd H1 D (.lst [])))/\∀i m H,W i m H->
 (J.stop i H/\Q (.ref D) H)\/(J.go i H/\∃Nx:Hp->Prop,(∀H',Nx H'->∃m',m' < m/\W (i+1) m' H')/\∀x H',J.B6 i H x H'->g x (wipe σ vs) H' fun σ2 H2=>wipe σ2 vs=wipe σ vs/\tt σ2 H2 fun b H3=>
  if b=true then te σ2 H3 fun y H4=>∃acc,H4 D=some (.lst acc)/\acc.length<sizeLine/\Nx (upd H4 D (.lst (acc++[y]))) else Nx H3)
theorem J8 {pins:List (Addr×Obj)} {s:Shared} {σ:St} {H:Hp} {Q:VK} {elt tg iter:Expr} {ifs:List Expr} {scope:Scope} {own:List (Str×Nat)} {pos pos':Pos} {wi:TI} {g:TG} {tt:TT} {te:TE} {use:Option (Value->Sem Unit)} {Qf:Value->Shared->Prop}
  (hc:X.calm=true) (hN:X.N.Nodup) (I:Inv X pins σ H s) (hi:PI X tg iter wi) (ok:DG X.N X.env.scope scope own)
  (hg:∀(s:Shared) (H:Hp) (C:Addr) (cl:List (Str×Addr)) (fp:List Addr),PG (X.qf s H scope (compEnvC scope cl C X.env) fp) tg g) (ht:∀(s:Shared) (H:Hp) (C:Addr) (cl:List (Str×Addr)) (fp:List Addr),MH (X.qf s H scope (compEnvC scope cl C X.env) fp) ifs tt)
  (he:∀(s:Shared) (H:Hp) (C:Addr) (cl:List (Str×Addr)) (fp:List Addr),PE (X.qf s H scope (compEnvC scope cl C X.env) fp) elt te) (hs:∀x,foldedSetIterable iter X.env x=pure x)
  (h:QF wi g tt te (own.map (·.2)) σ H Q)
  (hRR:∀D C s' m H',Inv X pins σ H' s'->Q (.ref D) H'->s'.heap.Ns C m->wK X pins H' C->compPost (model X.prog X.w) X.A X.xe use Qf (.ref D) C (.ok .next) s') :
  wpAny (model X.prog X.w) X.A (comprehension (.ListComp elt [⟨tg,iter,ifs,0⟩] scope pos) scope X.env pos' (newList []) false (eval iter X.env) use) Qf X.xe s:=by
 have Bo:∀y∈scope.names,y.2 = .free->∃c,X.env.cells.lookup y.1=some c:=fun y hy e=>by
  rcases ok.free y hy e with k | k
  ·exact I.ok.has _ (.inl k)
  ·exact I.ok.has _ (.inr k)
 refine wpAny_comprehension_free (use:=use) rfl hs (Lp Bo) ok.kind (fun y hy e=>by rw[ok.uniq y hy,e])
  (bH (hi pins s σ H _ I h) fun xv s1 hx=>bH hx fun Sk s2 h2=>?_)
 obtain⟨it,fp,tn,J,H2,e,I2,T,Hm,f2,q⟩:=h2
 subst e
 refine wpAny_newObj_type (Jw ?_) zl0
 generalize hD:s2.heap.objs.size=D
 have qg:H2 D=none:=I2.a9.fresh (Nat.le_of_eq hD)
 obtain⟨W,⟨m0,w0⟩,turn⟩:=q D qg
 generalize MI:({ s2 with heap:=s2.heap.push { cls:=.type "list",data:=.seq ([]:List Value).toArray } }:Shared)=s3
 have I3:Inv X pins σ (upd H2 D (.lst [])) s3:=by
  rw[<- MI]
  refine I2.laid (t':=s2.toks) (fun b o e=>Heap.get?_push_of_some _ e) (Nat.le_of_eq hD) ⟨Nat.zero_le _,[],0,.nil,?_⟩
  rw[<- hD]
  exact Heap.get?_push_size _ rfl
 have h3:s3.heap=s2.heap.push { cls:=.type "list",data:=.seq ([]:List Value).toArray }:=by rw[<- MI]
 have sz:∀b∈fp,b<s2.heap.objs.size:=fun b hb=>by
  obtain⟨o,e,_⟩:=T.obj _ _ Hm b hb
  exact Heap.lt_size e
 have f3:∀b∈fp,wK X pins (upd H2 D (.lst [])) b/\b<s3.heap.objs.size:=fun b hb=>by
  have eO:=sz b hb
  refine⟨⟨?_,(f2 b hb).2⟩,by rw[h3,Heap.size_push];exact Nat.lt_succ_of_lt eO⟩
  rw[aw (by rw[<- hD];exact Nat.ne_of_lt eO)]
  exact(f2 b hb).1
 have Hn:tn 0 s3.heap:=T.keep _ _ _ Hm fun b _ o e=>by rw[h3];exact Heap.get?_push_of_some _ e
 have I4:=Jx I3 ok hN f3
 have pg:=hg s3 (upd H2 D (.lst [])) s3.heap.objs.size (cellsFrom (s3.heap.objs.size+1) scope.names (dO X.env.cells scope.names [])) fp
 have pt:=ht s3 (upd H2 D (.lst [])) s3.heap.objs.size (cellsFrom (s3.heap.objs.size+1) scope.names (dO X.env.cells scope.names [])) fp
 have pe:=he s3 (upd H2 D (.lst [])) s3.heap.objs.size (cellsFrom (s3.heap.objs.size+1) scope.names (dO X.env.cells scope.names [])) fp
 show codeAny _ _ (.compStart (.ListComp elt [⟨tg,iter,ifs,0⟩] scope pos) 0 (.ref it) (.ref D) (compEnvC scope (cellsFrom (s3.heap.objs.size+1) scope.names (dO X.env.cells scope.names [])) s3.heap.objs.size X.env)) (compPost (model X.prog X.w) X.A X.xe use Qf (.ref D) s3.heap.objs.size) { s3 with heap:=pushCells (s3.heap.push { cls:=.type "dict",data:=.dict #[] }) scope.names }
 have nfp:∀b∈fp,(upd H2 D (.lst [])) b=none:=fun b hb=>(f3 b hb).1.1
 generalize MJ:compEnvC scope (cellsFrom (s3.heap.objs.size+1) scope.names (dO X.env.cells scope.names [])) s3.heap.objs.size X.env=ce at I4 pg pt pe ⊢
 have cL:ce.locals=s3.heap.objs.size:=by subst MJ;rfl
 generalize hH3:upd H2 D (.lst [])=H3 at I3 I4 pg pt pe w0 nfp f3
 generalize hs4:({ s3 with heap:=pushCells (s3.heap.push { cls:=.type "dict",data:=.dict #[] }) scope.names }:Shared)=s4 at I4 ⊢
 have MK:tn 0 s4.heap:=T.keep _ _ _ Hn fun b _ o e=>by rw[<- hs4];exact pushCells_keeps _ _ _ _ (Heap.get?_push_of_some _ e)
 have CI:∀{σ':St} {H':Hp} {s':Shared},Inv (X.qf s3 H3 scope ce fp) [] σ' H' s'->(∀b∈fp,H' b=none)->∀b∈fp,wK (X.qf s3 H3 scope ce fp) [] H' b:=fun {σ' H' s'} I' hn b hb=>
  ⟨hn b hb,(I'.ok.Qr b hb).1,I'.ok.Hb b hb,.inl hb,fun x c e=>(I'.ok.Qr b hb).2 x c e,fun p hp=>absurd (show p∈([]:List (Addr×Obj))++[] from hp) (by simp)⟩
 have loop:codeAny (model X.prog X.w) X.A (.compLoop (.ListComp elt [⟨tg,iter,ifs,0⟩] scope pos) 0 (.ref it) (.ref D) ce) (compPost (model X.prog X.w) X.A X.xe use Qf (.ref D) s3.heap.objs.size) s4:=by
  refine Hx (fun n s'=>∃i H',Inv (X.qf s3 H3 scope ce fp) [] (wipe σ (own.map (·.2))) H' s'/\tn i s'.heap/\(∀b∈fp,H' b=none)/\W i n H') ?_ m0 ⟨0,H3,I4,MK,nfp,w0⟩
  rintro n s5 ⟨i,H5,I5,Dz,n5,w5⟩
  rcases turn i n H5 w5 with ⟨stop,qq⟩|⟨go,Nx,hNx,step⟩
  ·have td:=T.done (X.qf s3 H3 scope ce fp) rfl rfl rfl hc i [] s5 _ H5 (fun _ _=>False) I5 (CI I5 n5) Dz stop
   refine ET td fun r s6 ⟨hr,I6⟩=>?_
   subst hr
   have I7:Inv X pins σ H5 s6:=I3.call' (ch:=fp) I6.os I6.base I6.a9 I6.bare fun b hb=>⟨(f3 b hb).1.2.2.2.1,(f3 b hb).1.2.1,(f3 b hb).1.2.2.2.2.1,(f3 b hb).1.2.2.2.2.2⟩
   have nC:H5 s3.heap.objs.size=none:=by
    have z:H5 ce.locals=none:=I6.free
    rw[cL] at z
    exact z
   obtain⟨m,hn,_⟩:=I6.loc
   have hn:s6.heap.Ns ce.locals m:=hn
   rw[cL] at hn
   exact hRR D s3.heap.objs.size s6 m H5 I7 qq hn (I3.Hk (Nat.le_refl _) nC)
  ·have ti:=T.item (X.qf s3 H3 scope ce fp) rfl rfl rfl hc i [] s5 _ H5 (fun _ _=>False) I5 (CI I5 n5) Dz go
   refine ET ti fun r s6 ⟨u,hr,h6⟩=>?_
   subst hr
   refine ET h6 fun _ s7 ⟨x,H7,I7,r7,y7,ML,n7⟩=>?_
   have I7':=I7.pinned (CI I7 n7) (T.obj _ _ ML)
   refine ET (pg _ s7 _ H7 x u _ I7' r7 (step x H7 y7)) fun _ s8 ⟨σ8,H8,I8,hw8,q8⟩=>?_
   refine ET (pt _ s8 σ8 H8 _ I8 q8) fun b s9 ⟨H9,I9,q9⟩=>?_
   have fin:∀{s':Shared} {H':Hp},Inv (X.qf s3 H3 scope ce fp) ([]++zU fp s7.heap) σ8 H' s'->Nx H'->∃m,m<n/\∃i H',Inv (X.qf s3 H3 scope ce fp) [] (wipe σ (own.map (·.2))) H' s'/\tn i s'.heap/\(∀b∈fp,H' b=none)/\W i m H':=fun {s' H'} I' nx=>by
    obtain⟨m',hm,w'⟩:=hNx H' nx
    have SU:∀b∈fp,∀o,s7.heap.get? b=some o->s'.heap.get? b=some o/\H' b=none:=fun b hb o e=>
     let z:=I'.pin (b,o) (List.mem_append_right _ (List.mem_append_right _ (yk hb e)))
     ⟨z.1,z.2.1⟩
    have hl:(wipe σ (own.map (·.2))).length=σ8.length:=by rw[<- hw8,wO]
    refine⟨m',hm,i+1,H',(I'.yl (pins:=[])).weak hl (fun j v e=>?_),T.keep _ _ _ ML fun b hb o e=>(SU b hb o e).1,fun b hb=>?_,w'⟩
    ·rw[<- hw8] at e
     exact(z_ e).1
    ·obtain⟨o,e,_⟩:=T.obj _ _ ML b hb
     exact(SU b hb o e).2
   cases b with
   | false=>
    simp only[Bool.false_eq_true,if_false] at q9 ⊢
    exact fin I9 q9
   | true=>
    simp only[if_true] at q9 ⊢
    refine ET (pe _ s9 σ8 H9 _ I9 q9) fun z s10 ⟨yv,H10,I10,r10,acc,hD10,hz10,nx⟩=>?_
    exact SR (X:=X.qf s3 H3 scope ce fp) I10 hD10 hz10 r10 fun s11 I11=>fin I11 nx
 exact codeAny_compStart_list loop (T.self X.A 0 _ _ _ MK loop)
theorem lZ {elt tg iter:Expr} {ifs:List Expr} {scope:Scope} {own:List (Str×Nat)} {pos:Pos} {wi:TI} {g:TG} {tt:TT} {te:TE} (hc:X.calm=true) (hN:X.N.Nodup) (hi:PI X tg iter wi) (ok:DG X.N X.env.scope scope own)
  (hg:∀(s:Shared) (H:Hp) (C:Addr) (cl:List (Str×Addr)) (fp:List Addr),PG (X.qf s H scope (compEnvC scope cl C X.env) fp) tg g) (ht:∀(s:Shared) (H:Hp) (C:Addr) (cl:List (Str×Addr)) (fp:List Addr),MH (X.qf s H scope (compEnvC scope cl C X.env) fp) ifs tt)
  (he:∀(s:Shared) (H:Hp) (C:Addr) (cl:List (Str×Addr)) (fp:List Addr),PE (X.qf s H scope (compEnvC scope cl C X.env) fp) elt te) (hs:∀x,foldedSetIterable iter X.env x=pure x:=by intro _;rfl) :
  PE X (.ListComp elt [⟨tg,iter,ifs,0⟩] scope pos) (QF wi g tt te (own.map (·.2))):=by
 intro pins s σ H Q I h
 rw[eval_ListComp]
 refine J8 hc hN I hi ok hg ht he hs h fun D C s' m H' I' q hn f=>⟨m,hn,fun h'' sb=>?_⟩
 obtain⟨f0,f1,f2,f3,f4,f5⟩:=f
 exact⟨.ref D,H',I'.turned (t':=s'.toks) (fun b o hb e=>(sb.2 b hb).trans e) f0 f1 f3 f4 f5,rfl,q⟩
theorem vf {i:Nat} {y:Str} {py:Pos} {elt tg iter:Expr} {ifs:List Expr} {scope:Scope} {own:List (Str×Nat)} {pos SV:Pos} {wi:TI} {g:TG} {tt:TT} {te:TE} (hc:X.calm=true) (hN:X.N.Nodup) (hy:X.N[i]?=some y) (MM:X.env.scope.names.lookup y=some .local)
  (hsw:swapsWith (.ListComp elt [⟨tg,iter,ifs,0⟩] scope pos) (some (.Name y py)) SV.line X.env=pure true) (hi:PI X tg iter wi) (ok:DG X.N X.env.scope scope own)
  (hg:∀(s:Shared) (H:Hp) (C:Addr) (cl:List (Str×Addr)) (fp:List Addr),PG (X.qf s H scope (compEnvC scope cl C X.env) fp) tg g) (ht:∀(s:Shared) (H:Hp) (C:Addr) (cl:List (Str×Addr)) (fp:List Addr),MH (X.qf s H scope (compEnvC scope cl C X.env) fp) ifs tt)
  (he:∀(s:Shared) (H:Hp) (C:Addr) (cl:List (Str×Addr)) (fp:List Addr),PE (X.qf s H scope (compEnvC scope cl C X.env) fp) elt te) (hs:∀x,foldedSetIterable iter X.env x=pure x:=by intro _;rfl) :
  PS X (.Assign [.Name y py] (.ListComp elt [⟨tg,iter,ifs,0⟩] scope pos) SV) (OH (QF wi g tt te (own.map (·.2))) (Dx i)):=by
 intro pins s σ H D I h
 rw[exec_Assign_Name_used _ _ _ _ hsw]
 refine wpAny_bind (wpAny_standAt (wpAny_bind ?_))
 show wpAny _ X.A (do let _ <- comprehension (.ListComp elt [⟨tg,iter,ifs,0⟩] scope pos) scope X.env (firstIterPos [⟨tg,iter,ifs,0⟩] pos) (newList []) false (eval iter X.env) (some (assign (.Name y py) X.env))) _ _ s
 have h:QF wi g tt te (own.map (·.2)) σ H (fun x H1=>Dx i x σ H1 D.nx):=h
 refine wpAny_bind (bH (J8 (Qf:=fun _ s'=>SP X pins D .next s') hc hN I hi ok hg ht he hs h fun L C s' m H' I' q hn f=>?_) fun _ s' hq=>wpAny_pure (wpAny_pure hq))
 show wpAny _ _ (assign (.Name y py) X.env (.ref L)) _ _ _
 refine wpAny_assign_Name (FK (v:=V.ref L) I' hN hy (.inl MM) rfl (fun s2 I2 ⟨a,sb,ha⟩=>?_) (.inr MM))
 obtain⟨f0,f1,f2,f3,f4,f5⟩:=f
 have haC:C≠a:=by
  rcases ha with z | z
  ·rw[z];exact f1
  ·exact fun e=>f4 y a z e.symm
 refine⟨m,hn.sameBut sb haC,fun h3 sb3=>?_⟩
 exact⟨_,H',I2.turned (t':=s2.toks) (fun b o hb e=>(sb3.2 b hb).trans e) f0 f1 f3 f4 f5,q⟩
theorem xp {elt:Expr} {gs:List Comprehension} {scope:Scope} {pos py:Pos} {y:Str} {l:Nat} {env:Env} (hk:env.scope.kind = .function) (hy:env.scope.names.lookup y=some .local) (hl:(py.line==pos.line)=true)
  (ha:(scope.names.any fun (n,k)=>n==y&&(k == .local||k == .cell))=false):swapsWith (.ListComp elt gs scope pos) (some (.Name y py)) l env=pure true:=by
 have ky:env.kindOf y=some .local:=hy
 have hb:env.blockKind = .function:=by unfold Env.blockKind;rw[hk];rfl
 unfold swapsWith
 simp only[hb,ky,ha,Expr.pos,hl]
 rfl
end
theorem CP {lo:Int} {n:Nat} {g:TG} {tt:TT} {te:TE} {vs:List Nat} {σ:St} {H1:Hp} {D:Addr} {Qd:Hp->Prop} (Pv:Nat->Hp->Prop) (h0:Pv 0 (upd H1 D (.lst [])))
  (hs:∀i H,i<n->Pv i H->g (.int (lo+i)) (wipe σ vs) H fun σ2 H2=>wipe σ2 vs=wipe σ vs/\tt σ2 H2 fun b H3=>
   if b=true then te σ2 H3 fun y H4=>∃acc,H4 D=some (.lst acc)/\acc.length<sizeLine/\Pv (i+1) (upd H4 D (.lst (acc++[y]))) else Pv (i+1) H3) (hd:∀H,Pv n H->Qd H) :
  ∃W:Nat->Nat->Hp->Prop,(∃m,W 0 m (upd H1 D (.lst [])))/\∀i m H,W i m H->
   ((B7 lo n).stop i H/\Qd H)\/((B7 lo n).go i H/\∃Nx:Hp->Prop,(∀H',Nx H'->∃m',m' < m/\W (i+1) m' H')/\∀x H',(B7 lo n).B6 i H x H'->g x (wipe σ vs) H' fun σ2 H2=>wipe σ2 vs=wipe σ vs/\tt σ2 H2 fun b H3=>
    if b=true then te σ2 H3 fun y H4=>∃acc,H4 D=some (.lst acc)/\acc.length<sizeLine/\Nx (upd H4 D (.lst (acc++[y]))) else Nx H3):=by
 refine⟨fun i m H=>m=n-i/\i<=n/\Pv i H,⟨n,by simp,Nat.zero_le _,h0⟩,?_⟩
 rintro i m H ⟨rfl,hi,p⟩
 by_cases eO:i<n
 ·refine .inr ⟨eO,Pv (i+1),fun H' p'=>⟨n-(i+1),by omega,rfl,eO,p'⟩,fun x H' y=>?_⟩
  obtain⟨e,y⟩:=y
  subst e y
  exact hs i _ eO p
 ·have e:i=n:=by omega
  subst e
  exact .inl ⟨Nat.le_refl _,hd H p⟩
theorem fQ {K:PySem.W.Frag} {a:Addr} {xs:List V} {g:TG} {tt:TT} {te:TE} {vs:List Nat} {σ:St} {H1:Hp} {D:Addr} {Qd:Hp->Prop} (Pv:Nat->Hp->Prop) (h0:Pv 0 (upd H1 D (.lst []))) (hl:∀i H,i<=xs.length->Pv i H->aE K H a xs)
  (hs:∀i x H,xs[i]?=some x->Pv i H->g x (wipe σ vs) H fun σ2 H2=>wipe σ2 vs=wipe σ vs/\tt σ2 H2 fun b H3=>
   if b=true then te σ2 H3 fun y H4=>∃acc,H4 D=some (.lst acc)/\acc.length<sizeLine/\Pv (i+1) (upd H4 D (.lst (acc++[y]))) else Pv (i+1) H3) (hd:∀H,Pv xs.length H->Qd H) :
  ∃W:Nat->Nat->Hp->Prop,(∃m,W 0 m (upd H1 D (.lst [])))/\∀i m H,W i m H->
   ((FL K a).stop i H/\Qd H)\/((FL K a).go i H/\∃Nx:Hp->Prop,(∀H',Nx H'->∃m',m' < m/\W (i+1) m' H')/\∀x H',(FL K a).B6 i H x H'->g x (wipe σ vs) H' fun σ2 H2=>wipe σ2 vs=wipe σ vs/\tt σ2 H2 fun b H3=>
    if b=true then te σ2 H3 fun y H4=>∃acc,H4 D=some (.lst acc)/\acc.length<sizeLine/\Nx (upd H4 D (.lst (acc++[y]))) else Nx H3):=by
 refine⟨fun i m H=>m=xs.length-i/\i<=xs.length/\Pv i H,⟨xs.length,by simp,Nat.zero_le _,h0⟩,?_⟩
 rintro i m H ⟨rfl,hi,p⟩
 have q:=hl i H hi p
 by_cases eO:i<xs.length
 ·refine .inr ⟨⟨xs,xs[i],q,by simp[eO]⟩,Pv (i+1),fun H' p'=>⟨xs.length-(i+1),by omega,rfl,eO,p'⟩,fun x H' y=>?_⟩
  obtain⟨e,y⟩:=y
  subst e
  exact hs i x _ (y xs q) p
 ·have e:i=xs.length:=by omega
  subst e
  exact .inl ⟨⟨xs,q,Nat.le_refl _⟩,hd H p⟩
def SW (N:List Str) (sc scope:Scope) (own:List (Str×Nat)):Bool:=
 (match scope.kind with | .function=>true | _=>false)&&(scope.names.all fun y=>decide (scope.names.lookup y.1=some y.2))&&(own.all fun p=>decide (N[p.2]?=some p.1)) &&
  (scope.names.all fun y=>match y.2 with
   | .free=>(match sc.names.lookup y.1 with | some .cell=>true | some .free=>true | _=>false)
   | .local=>decide (y.1∈own.map (·.1))||decide (y.1∉N)
   | .cell=>decide (y.1∈own.map (·.1))||decide (y.1∉N)
   | _=>true)
theorem c8 {N:List Str} {sc scope:Scope} {own:List (Str×Nat)} (h:SW N sc scope own=true):DG N sc scope own:=by
 unfold SW at h
 simp only[Bool.and_eq_true,all_eq_true,decide_eq_true_eq] at h
 obtain⟨⟨⟨h1,h2⟩,h3⟩,h4⟩:=h
 refine⟨?_,h2,h3,fun y hy e=>?_,fun y hy e=>?_⟩
 ·split at h1
  ·assumption
  ·cases h1
 ·have q:=h4 y hy
  simp only[e] at q
  split at q <;> first | exact .inl (by assumption) | exact .inr (by assumption) | cases q
 ·have q:=h4 y hy
  rcases e with e | e <;> (simp only[e,Bool.or_eq_true,decide_eq_true_eq] at q;exact q)
section
variable {κ:Type} [DecidableEq κ]
def dJ (kvs:List (κ×V)) (k:κ):Option V:=(kvs.find? fun kv=>decide (kv.1=k)).map (·.2)
def putK (kvs:List (κ×V)) (k:κ) (v:V):List (κ×V):=
 if (kvs.any fun kv=>decide (kv.1=k))=true then kvs.map (fun kv=>if kv.1=k then (kv.1,v) else kv) else kvs++[(k,v)]
theorem iQ {p:κ×V} {r:List (κ×V)} {k:κ} (e:p.1=k):dJ (p::r) k=some p.2:=by simp[dJ,List.find?_cons,e]
theorem gV {p:κ×V} {r:List (κ×V)} {k:κ} (e:¬p.1=k):dJ (p::r) k=dJ r k:=by simp[dJ,List.find?_cons,e]
theorem yp (k:κ):∀kvs:List (κ×V),(kvs.any fun kv=>decide (kv.1=k))=(dJ kvs k).isSome
 | []=>rfl
 | p::r=>by
  rw[List.any_cons]
  by_cases e:p.1=k
  ·simp only[iQ e,decide_eq_true e,Bool.true_or,Option.isSome_some]
  ·rw[gV e,decide_eq_false e,Bool.false_or];exact yp k r
theorem Hy (k j:κ) (y:V):∀kvs:List (κ×V),dJ (kvs.map fun kv=>if kv.1=k then (kv.1,y) else kv) j=(dJ kvs j).map fun x=>if j=k then y else x
 | []=>rfl
 | p::r=>by
  have ih:=Hy k j y r
  rw[map_cons]
  by_cases h:p.1=k
  ·rw[if_pos h]
   by_cases e:p.1=j
   ·rw[iQ (p:=(p.1,y)) e,iQ e,Option.map_some,if_pos (e.symm.trans h)]
   ·rw[gV (p:=(p.1,y)) e,gV e,ih]
  ·rw[if_neg h]
   by_cases e:p.1=j
   ·rw[iQ (p:=p) e,iQ e,Option.map_some,if_neg (fun z=>h (e.trans z))]
   ·rw[gV (p:=p) e,gV e,ih]
theorem FU (k j:κ) (y:V):∀kvs:List (κ×V),dJ kvs k=none->dJ (kvs++[(k,y)]) j=if j=k then some y else dJ kvs j
 | [],_=>by
  by_cases e:k=j
  ·rw[if_pos e.symm];exact iQ (p:=(k,y)) e
  ·rw[if_neg (fun z=>e z.symm)];exact gV (p:=(k,y)) e
 | p::r,hn=>by
  rw[List.cons_append]
  have hk:¬p.1=k:=fun z=>by rw[iQ z] at hn;cases hn
  rw[gV hk] at hn
  have ih:=FU k j y r hn
  by_cases e:p.1=j
  ·rw[iQ e,iQ e,if_neg (fun z=>hk (e.trans z))]
  ·rw[gV e,gV e,ih]
theorem yq (kvs:List (κ×V)) (k j:κ) (y:V):dJ (putK kvs k y) j=if j=k then some y else dJ kvs j:=by
 unfold putK
 by_cases a:(kvs.any fun kv=>decide (kv.1=k))=true
 ·rw[if_pos a,Hy]
  rw[yp] at a
  by_cases e:j=k
  ·obtain⟨x,hx⟩:=Option.isSome_iff_exists.mp a
   rw[if_pos e,e,hx,Option.map_some,if_pos rfl]
  ·rw[if_neg e]
   cases dJ kvs j with
   | none=>rfl
   | some x=>rw[Option.map_some,if_neg e]
 ·rw[if_neg a]
  refine FU k j y kvs ?_
  rw[yp] at a
  cases q:dJ kvs k with
  | none=>rfl
  | some x=>rw[q] at a;exact(a rfl).elim
theorem wQ (kvs:List (κ×V)) (k:κ) (v:V):(putK kvs k v).length<=kvs.length+1:=by
 unfold putK
 split
 ·rw[length_map];omega
 ·rw[length_append,length_cons,List.length_nil];omega
theorem ng.sN {o:Option V} {u:Option Value} (r:ng o u):o.isSome=u.isSome:=by
 cases o with
 | none=>cases u with
  | none=>rfl
  | some _=>exact(show False from r).elim
 | some _=>cases u with
  | none=>exact(show False from r).elim
  | some _=>rfl
theorem KV.val {kvs:List (κ×V)} {vs:List (κ×Value)} (r:KV kvs vs) (k:κ):ng (dJ kvs k) (valueAt vs k):=by
 unfold KV at r
 induction r with
 | nil=>exact True.intro
 | @cons p q ps qs h t ih=>
  obtain⟨h1,h2⟩:=h
  by_cases e:p.1=k
  ·have e':q.1=k:=h1.symm.trans e
   have b:valueAt (q::qs) k=some q.2:=by simp[valueAt,List.find?_cons,e']
   rw[iQ e,b];exact h2
  ·have e':¬q.1=k:=fun z=>e (h1.trans z)
   have b:valueAt (q::qs) k=valueAt qs k:=by simp[valueAt,List.find?_cons,e']
   rw[gV e,b];exact ih
theorem KV.any {kvs:List (κ×V)} {vs:List (κ×Value)} (r:KV kvs vs) (k:κ):(kvs.any fun kv=>decide (kv.1=k))=vs.any fun kv=>decide (kv.1=k):=by
 unfold KV at r
 induction r with
 | nil=>rfl
 | cons h t ih=>rw[List.any_cons,List.any_cons,ih,h.1]
theorem KV.OS {kvs:List (κ×V)} {vs:List (κ×Value)} (r:KV kvs vs) (k:κ) {y:V} {u:Value} (ry:RelV y u) :
  KV (kvs.map fun kv=>if kv.1=k then (kv.1,y) else kv) (vs.map fun kv=>if kv.1=k then (kv.1,u) else kv):=by
 unfold KV at r ⊢
 induction r with
 | nil=>exact .nil
 | @cons p q ps qs h t ih=>
  rw[map_cons,map_cons]
  refine .cons ?_ ih
  obtain⟨h1,h2⟩:=h
  by_cases e:p.1=k
  ·rw[if_pos e,if_pos (h1.symm.trans e)];exact⟨h1,ry⟩
  ·rw[if_neg e,if_neg (fun z=>e (h1.trans z))];exact⟨h1,h2⟩
theorem KV.put {kvs:List (κ×V)} {vs:List (κ×Value)} (r:KV kvs vs) (k:κ) {y:V} {u:Value} (ry:RelV y u):KV (putK kvs k y) (stored vs k u):=by
 unfold putK stored
 rw[r.any k]
 by_cases e:(vs.any fun kv=>decide (kv.1=k))=true
 ·rw[if_pos e,if_pos e];exact r.OS k ry
 ·rw[if_neg e,if_neg e];exact Paired.snoc r ⟨rfl,ry⟩
theorem KV.keys {kvs:List (κ×V)} {vs:List (κ×Value)} (r:KV kvs vs):kvs.map (·.1)=vs.map (·.1):=by
 unfold KV at r
 induction r with
 | nil=>rfl
 | cons h t ih=>rw[map_cons,map_cons,ih,h.1]
theorem KV.length {kvs:List (κ×V)} {vs:List (κ×Value)} (r:KV kvs vs):kvs.length=vs.length:=Paired.length r
end
theorem Bt {P:Program} {w:World} {k:Key} {u:Value} (r:RelV (kV k) u):(eh P w).is k u=true:=by
 cases k with
 | inl i=>obtain⟨t,e⟩:=(show ∃t,u=Value.int i t from r);subst e;exact Ju P w i t
 | inr x=>obtain⟨t,e⟩:=(show ∃t,u=Value.str x t from r);subst e;exact Jv P w x t
theorem FV {P:Program} {w:World}:∀{ks:List Key} {us:List Value},Vals (ks.map kV) us->ItemsAre (eh P w) ks us
 | [],_,r=>by rw[List.map_nil] at r;cases r;exact .nil
 | k::ks,_,r=>by
  rw[map_cons] at r
  cases r with
  | cons h t=>exact .cons (Bt h) (FV t)
abbrev KT (H:Hp):List (List Key×V)->List (List Key×Addr×Value)->Prop:=Paired fun p q=>p.1=q.1/\H q.2.1=some (.tup (p.1.map kV))/\RelV p.2 q.2.2
theorem KT.val {H:Hp} {kvs:List (List Key×V)} {xs:List (List Key×Addr×Value)} (r:KT H kvs xs) (k:List Key):ng (dJ kvs k) ((atKey xs k).map (·.2)):=by
 induction r with
 | nil=>exact True.intro
 | @cons p q ps qs h t ih=>
  obtain⟨h1,_,h2⟩:=h
  by_cases e:p.1=k
  ·have e':q.1=k:=h1.symm.trans e
   have b:atKey (q::qs) k=some q.2:=by simp[atKey,List.find?_cons,e']
   rw[iQ e,b];exact h2
  ·have e':¬q.1=k:=fun z=>e (h1.trans z)
   have b:atKey (q::qs) k=atKey qs k:=by simp[atKey,List.find?_cons,e']
   rw[gV e,b];exact ih
theorem KT.OS {H:Hp} {kvs:List (List Key×V)} {xs:List (List Key×Addr×Value)} (r:KT H kvs xs) (k:List Key) {y:V} {u:Value} (ry:RelV y u) :
  KT H (kvs.map fun kv=>if kv.1=k then (kv.1,y) else kv) (xs.map (putAt k u)):=by
 induction r with
 | nil=>exact .nil
 | @cons p q ps qs h t ih=>
  rw[map_cons,map_cons]
  refine .cons ?_ ih
  obtain⟨h1,h2,h3⟩:=h
  unfold putAt
  by_cases e:p.1=k
  ·rw[if_pos e,if_pos (h1.symm.trans e)];exact⟨h1,h2,ry⟩
  ·rw[if_neg e,if_neg (fun z=>e (h1.trans z))];exact⟨h1,h2,h3⟩
theorem KT.put {H:Hp} {kvs:List (List Key×V)} {xs:List (List Key×Addr×Value)} (r:KT H kvs xs) (k:List Key) {b:Addr} {y:V} {u:Value} (hb:H b=some (.tup (k.map kV))) (ry:RelV y u) :
  KT H (putK kvs k y) (storedH xs k b u):=by
 have e:(kvs.any fun kv=>decide (kv.1=k))=(atKey xs k).isSome:=by
  rw[yp,(r.val k).sN,Option.isSome_map]
 unfold putK storedH
 rw[e]
 by_cases q:(atKey xs k).isSome=true
 ·rw[if_pos q,if_pos q];exact r.OS k ry
 ·rw[if_neg q,if_neg q];exact Paired.snoc r ⟨rfl,hb,ry⟩
theorem KT.keeps {H H':Hp} {kvs:List (List Key×V)} {xs:List (List Key×Addr×Value)} (r:KT H kvs xs) (ht:∀b ys,H b=some (.tup ys)->H' b=some (.tup ys)):KT H' kvs xs:=
 Paired.OE r fun _ _ z=>⟨z.1,ht _ _ z.2.1,z.2.2⟩
section
variable {P:Program} {w:World} {H:Hp} {h:Heap} {a:Addr}
theorem QG {u:HO} (ok:ir P w H h) (e:Rd H a u):f7 P w H h a u:=e.ok ok
theorem Bu {kvs:List (Key×V)} (ok:ir P w H h) (e:Rd H a (.dK kvs)):kvs.length<=sizeLine/\(a==sysModules)=false/\∃vs,KV kvs vs/\h.DictOf (eh P w) a vs:=
 show f7 P w H h a (.dK kvs) from QG ok e
theorem QH {kvs:List (Key×V)} (ok:ir P w H h) (e:H a=some (.dK kvs)):kvs.length<=sizeLine/\(a==sysModules)=false/\∃vs,KV kvs vs/\h.DictOf (eh P w) a vs:=Bu ok (.inl e)
theorem Aa {ks:List Key} (ok:ir P w H h) (e:H a=some (.tup (ks.map kV))):(tupleKind (eh P w)).is h ks a:=by
 obtain⟨_,aL,r,o,h1,h2,n,h3⟩:=(show f7 P w H h a (.tup (ks.map kV)) from ok a _ e)
 exact⟨o,aL.toArray,n,h1,h2,h3,by simpa using FV r⟩
theorem DI {kvs:List (List Key×V)} (ok:ir P w H h) (e:Rd H a (.dT kvs)):kvs.length<=sizeLine/\(a==sysModules)=false/\
  ∃xs,KT H kvs xs/\h.DictOfH (tupleKind (eh P w)) a xs:=by
 obtain⟨z,y,xs,r,o,es,ep,h1,h2,h3,h4,h5⟩:=(show f7 P w H h a (.dT kvs) from QG ok e)
 refine⟨z,y,xs,r,o,es,ep,h1,h2,h3,h4,fun x hx=>?_,h5⟩
 have all:∀{l:List (List Key×V)} {m:List (List Key×Addr×Value)},KT H l m->∀x∈m,(tupleKind (eh P w)).is h x.1 x.2.1:=by
  intro l m q
  induction q with
  | nil=>intro x hx;exact nomatch hx
  | @cons p q ps qs hq t ih=>
   intro x hx
   rcases mem_cons.mp hx with e | hx
   ·subst e
    exact Aa ok (by rw[<- hq.1];exact hq.2.1)
   ·exact ih x hx
 exact all r x hx
theorem dt_of {kvs:List (List Key×V)} (ok:ir P w H h) (e:H a=some (.dT kvs)):kvs.length<=sizeLine/\(a==sysModules)=false/\
  ∃xs,KT H kvs xs/\h.DictOfH (tupleKind (eh P w)) a xs:=DI ok (.inl e)
end
def jC (H:Hp) (a:Addr) (y:V) (r:Option V):Prop:=
 (∃kvs k,Rd H a (.dK kvs)/\y=kV k/\r=dJ kvs k)\/∃kvs k b,Rd H a (.dT kvs)/\y = .ref b/\H b=some (.tup (k.map kV))/\r=dJ kvs k
def yr (H:Hp) (a:Addr) (y v:V) (H':Hp):Prop:=
 (∃kvs k,H a=some (.dK kvs)/\y=kV k/\kvs.length<sizeLine/\H'=upd H a (.dK (putK kvs k v)))\/
 ∃kvs k b,H a=some (.dT kvs)/\y = .ref b/\H b=some (.tup (k.map kV))/\kvs.length<sizeLine/\H'=upd H a (.dT (putK kvs k v))
theorem jC.k {H:Hp} {a:Addr} {kvs:List (Key×V)} {k:Key} (e:H a=some (.dK kvs)):jC H a (kV k) (dJ kvs k):=.inl ⟨kvs,k,.inl e,rfl,rfl⟩
theorem jC.t {H:Hp} {a b:Addr} {kvs:List (List Key×V)} {k:List Key} (e:H a=some (.dT kvs)) (eb:H b=some (.tup (k.map kV))):jC H a (.ref b) (dJ kvs k):=.inr ⟨kvs,k,b,.inl e,rfl,eb,rfl⟩
theorem yr.k {H:Hp} {a:Addr} {kvs:List (Key×V)} {k:Key} {v:V} (e:H a=some (.dK kvs)) (hl:kvs.length<sizeLine):yr H a (kV k) v (upd H a (.dK (putK kvs k v))):=.inl ⟨kvs,k,e,rfl,hl,rfl⟩
theorem yr.t {H:Hp} {a b:Addr} {kvs:List (List Key×V)} {k:List Key} {v:V} (e:H a=some (.dT kvs)) (eb:H b=some (.tup (k.map kV))) (hl:kvs.length<sizeLine) :
  yr H a (.ref b) v (upd H a (.dT (putK kvs k v))):=.inr ⟨kvs,k,b,e,rfl,eb,hl,rfl⟩
section
variable {X:Cx} {pins:List (Addr×Obj)} {σ:St} {H:Hp} {s:Shared} {a:Addr} {y v:V} {u r:Value} {o:Option V} {A:Around} {E:Value->Shared->Prop}
theorem Inv.big (I:Inv X pins σ H s):sysModules<s.heap.objs.size:=by
 have h:mainGlobals<s.heap.objs.size:=(I.mod.glob.keeps I.bk).lt
 exact Nat.lt_trans (by decide) h
theorem MN {Q:Value->Shared->Prop} (hu:A.units+1<cLine) (I:Inv X pins σ H s) (g:jC H a y (some v)) (ry:RelV y u) (h:∀w' s',Inv X pins σ H s'->RelV v w'->Q w' s') :
  wpAny (model X.prog X.w) A (getItem (.ref a) u) Q E s:=by
 rcases g with ⟨kvs,k,e,ey,l⟩|⟨kvs,k,b,e,ey,eb,l⟩
 ·subst ey
  obtain⟨z,hd,vs,rel,dd⟩:=Bu I.a9 e
  obtain⟨w',hw,z4⟩:=ng.some_of (v:=v) (o:=valueAt vs k) (by rw[l];exact rel.val k)
  exact wpAny_getItem_of (Bt ry) dd.mapOf hw (h w' _ (I.tok _) z4)
 ·subst ey
  cases (show u=Value.ref b from ry)
  obtain⟨z,hd,xs,rel,dd⟩:=DI I.a9 e
  obtain⟨w',hw,z4⟩:=ng.some_of (v:=v) (o:=(atKey xs k).map (·.2)) (by rw[l];exact rel.val k)
  obtain⟨p,hp,Hz⟩:=Option.map_eq_some_iff.mp hw
  refine wpAny_getItem_heap (tupleKind_room_in1 hu) (Aa I.a9 eb) dd hp ?_
  rw[Hz]
  exact h w' _ (I.tok _) z4
theorem d_in {Q:Value->Shared->Prop} (hu:A.units+1<cLine) (I:Inv X pins σ H s) (g:jC H a y o) (ry:RelV y u) (h:∀s',Inv X pins σ H s'->Q (.bool o.isSome) s') :
  wpAny (model X.prog X.w) A (compareOp .In u (.ref a)) Q E s:=by
 rcases g with ⟨kvs,k,e,ey,l⟩|⟨kvs,k,b,e,ey,eb,l⟩
 ·subst ey
  obtain⟨z,hd,vs,rel,dd⟩:=Bu I.a9 e
  refine wpAny_in_of (Bt ry) hd dd.mapOf ?_
  rw[<- (rel.val k).sN,<- l]
  exact h _ (I.tok _)
 ·subst ey
  cases (show u=Value.ref b from ry)
  obtain⟨z,hd,xs,rel,dd⟩:=DI I.a9 e
  refine wpAny_in_heap (tupleKind_room_in1 hu) (Aa I.a9 eb) hd dd ?_
  have q:=(rel.val k).sN
  rw[Option.isSome_map] at q
  rw[<- q,<- l]
  exact h _ (I.tok _)
theorem RH {Q:Value->Shared->Prop} (hu:A.units+1<cLine) (I:Inv X pins σ H s) (g:jC H a y o) (ry:RelV y u) (h:∀s',Inv X pins σ H s'->Q (.bool (!o.isSome)) s') :
  wpAny (model X.prog X.w) A (compareOp .NotIn u (.ref a)) Q E s:=by
 rcases g with ⟨kvs,k,e,ey,l⟩|⟨kvs,k,b,e,ey,eb,l⟩
 ·subst ey
  obtain⟨z,hd,vs,rel,dd⟩:=Bu I.a9 e
  refine wpAny_notIn_of (Bt ry) hd dd.mapOf ?_
  rw[<- (rel.val k).sN,<- l]
  exact h _ (I.tok _)
 ·subst ey
  cases (show u=Value.ref b from ry)
  obtain⟨z,hd,xs,rel,dd⟩:=DI I.a9 e
  refine wpAny_notIn_heap (tupleKind_room_in1 hu) (Aa I.a9 eb) hd dd ?_
  have q:=(rel.val k).sN
  rw[Option.isSome_map] at q
  rw[<- q,<- l]
  exact h _ (I.tok _)
theorem J9 {h':Heap} {t':Nat} {ob:HO} (I:Inv X pins σ H s) (mu:Mj (H a)) (hs:Heap.SameBut a s.heap h') (he:∃q,h'.get? a=some q) (new:f7 X.prog X.w (upd H a ob) h' a ob) :
  Inv X pins σ (upd H a ob) { s with heap:=h',toks:=t' }:=
 I.write (x:=a) (e:=a) mu (.inl rfl) (fun b q hb z=>(hs.2 b hb).trans z) he new
theorem SX {P:Program} {w:World} {H':Hp} {h':Heap} {kvs:List (Key×V)} {vs:List (Key×Value)} (z:kvs.length<=sizeLine) (hd:(a==sysModules)=false) (rel:KV kvs vs) (dd:h'.DictOf (eh P w) a vs) :
  f7 P w H' h' a (.dK kvs):=⟨z,hd,vs,rel,dd⟩
theorem MO {H':Hp} {Q:Unit->Shared->Prop} (hu:A.units+1<cLine) (I:Inv X pins σ H s) (g:yr H a y v H') (ry:RelV y u) (rv:RelV v r) (h:∀s',Inv X pins σ H' s'->Q () s') :
  wpAny (model X.prog X.w) A (setItem (.ref a) u r) Q E s:=by
 rcases g with ⟨kvs,k,e,ey,l,eH⟩|⟨kvs,k,b,e,ey,eb,l,eH⟩
 ·subst ey eH
  obtain⟨z,hd,vs,rel,dd⟩:=QH I.a9 e
  have hz:vs.length<=sizeLine:=by rw[<- rel.length];exact z
  have hl:(putK kvs k v).length<=sizeLine:=by have:=wQ kvs k v;omega
  refine wpAny_setItem_pairs (hsz:=hz) (Bt ry) dd fun h' QI hs=>h _ ?_
  have he:∃q,h'.get? a=some q:=let ⟨q,_,_,hq,_⟩:=QI;⟨q,hq⟩
  exact J9 I (by rw[e];exact True.intro) hs he (SX hl hd (rel.put k rv) QI)
 ·subst ey eH
  cases (show u=Value.ref b from ry)
  obtain⟨z,hd,xs,rel,dd⟩:=dt_of I.a9 e
  have hz:xs.length<=sizeLine:=by rw[<- Paired.length rel];exact z
  have hl:(putK kvs k v).length<=sizeLine:=by have:=wQ kvs k v;omega
  refine wpAny_setItem_heap (hsz:=hz) (tupleKind_room_in1 hu) (Aa I.a9 eb) dd fun h' QI hs=>h _ ?_
  obtain⟨q,es,ep,hq,h2,h3,h4,_,h5⟩:=QI
  refine J9 I (by rw[e];exact True.intro) hs ⟨q,hq⟩ ⟨hl,hd,_,(rel.put k eb rv).keeps fun c ys ec=>?_,q,es,ep,hq,h2,h3,h4,h5⟩
  rw[aw (dh ec e (fun z=>nomatch z))]
  exact ec
end
section
variable {X:Cx} {pins:List (Addr×Obj)} {σ:St} {H:Hp} {s:Shared} {a:Addr} {kvs:List (Key×V)} {k:Key} {u:Value} {A:Around} {E:Value->Shared->Prop}
theorem d_len {Q:Value->Shared->Prop} (I:Inv X pins σ H s) (e:Rd H a (.dK kvs)) (h:∀t s',Inv X pins σ H s'->Q (.int kvs.length t) s'):wpAny (model X.prog X.w) A (call (.builtin "len") [.ref a]) Q E s:=by
 obtain⟨z,hd,vs,rel,dd⟩:=Bu I.a9 e
 refine call_len_dict hd dd (by rw[<- rel.length];rw[sizeLine_eq] at z;omega) ?_
 rw[<- rel.length]
 exact h _ _ (I.tok _)
end
def Lq (i:Expr):Prop:=∀ov iv,subscripted i false ov iv=operate [ov,iv] (getItem ov iv)
theorem EU {prog:Program} {w:World} {A:Around} {E:Value->Shared->Prop} {s:Shared} {env:Env} {value slice:Expr} {pos:Pos} {T id:String} {Q:Value->Shared->Prop}
  (hl:typeLookup (.type T) "__getitem__"=pure (some (.builtin id))) (hs:Lq slice)
  (h:wpAny (model prog w) A (eval value env) (fun o s₁=>wpAny (model prog w) A (eval slice env) (fun i s₂=>s₂.TypeIs o T/\wpAny (model prog w) A (getItem o i) Q E s₂) E s₁) E s) :
  wpAny (model prog w) A (eval (.Subscript value slice pos) env) Q E s:=by
 refine Subscript_ (wpAny_mono h (fun o s₁ h₁=>wpAny_mono h₁ (fun i s₂ h₂=>?_) fun _ _ x=>x) fun _ _ x=>x)
 obtain⟨hT,h₂⟩:=h₂
 unfold subscriptTail
 refine wpAny_bind ?_
 rw[getitemInPython_of_ne hT.not_modules]
 refine wpAny_bind (wpAny_specialOf hT hl ?_)
 have fin:wpAny (model prog w) A (subscripted slice false o i) (fun r s₃=>wpAny (model prog w) A (letTemporaryGo value o r >>= fun _=>pure r) Q E s₃) E s₂:=by
  rw[hs o i]
  exact wpAny_operating (wpAny_mono h₂ (fun r s₃ h₃=>wpAny_bind (wpAny_letTemporaryGo (wpAny_pure h₃))) fun _ _ x=>x)
 first
  | exact wpAny_pure (wpAny_bind fin)
  | exact wpAny_bind (wpAny_pure (wpAny_bind fin))
  | exact wpAny_bind fin
theorem Jy {X:Cx} {pins:List (Addr×Obj)} {σ:St} {H:Hp} {s:Shared} {a:Addr} {y:V} {o:Option V} (I:Inv X pins σ H s) (g:jC H a y o):s.TypeIs (.ref a) "dict":=by
 rcases g with ⟨kvs,k,e,_,_⟩|⟨kvs,k,b,e,_,_,_⟩
 ·obtain⟨_,_,vs,_,dd⟩:=Bu I.a9 e
  exact dd.typeIs
 ·obtain⟨_,_,xs,_,dd⟩:=DI I.a9 e
  exact dd.typeIs
def tDGet (td ty:TE):TE:=fun σ H Q=>td σ H fun x H1=>ty σ H1 fun y H2=>∃a v,x = .ref a/\jC H2 a y (some v)/\Q v H2
def tDIn (ty td:TE):TE:=fun σ H Q=>ty σ H fun y H1=>td σ H1 fun x H2=>∃a o,x = .ref a/\jC H2 a y o/\Q (.bl o.isSome) H2
def RI (ty td:TE):TE:=fun σ H Q=>ty σ H fun y H1=>td σ H1 fun x H2=>∃a o,x = .ref a/\jC H2 a y o/\Q (.bl (!o.isSome)) H2
def sDPut (td ty tv:TE):TS:=fun D σ H=>tv σ H fun v H1=>td σ H1 fun x H2=>ty σ H2 fun y H3=>∃a H4,x = .ref a/\yr H3 a y v H4/\D.nx σ H4
section
variable {X:Cx} {o i e value:Expr} {pos pos' tpos:Pos} {td ty tv:TE}
theorem nS (hu:X.A.units+1<cLine) (ho:PE X o td) (hi:PE X i ty) (hs:Lq i):PE X (.Subscript o i pos) (tDGet td ty):=by
 intro pins s σ H Q I h
 refine EU PySem.F.slot_dict_getitem.lookup hs (bH (ho pins s σ H _ I h) fun u s1 ⟨x,H1,I1,rx,q1⟩=>bH (hi pins s1 σ H1 _ I1 q1) fun iv s2 ⟨y,H2,I2,ry,a,v,ex,g,q2⟩=>?_)
 subst ex
 obtain rfl:u=Value.ref a:=rx
 exact⟨Jy I2 g,MN hu I2 g ry fun w' s3 I3 z4=>⟨v,H2,I3,z4,q2⟩⟩
theorem MP (hu:X.A.units+1<cLine) (hi:PE X i ty) (ho:PE X o td):PC X .In i o (tDIn ty td):=by
 intro pins s σ H Q I h
 refine bH (hi pins s σ H _ I h) fun iv s1 ⟨y,H1,I1,ry,q1⟩=>bH (ho pins s1 σ H1 _ I1 q1) fun u s2 ⟨x,H2,I2,rx,a,ov,ex,g,q2⟩=>?_
 subst ex
 obtain rfl:u=Value.ref a:=rx
 exact d_in hu I2 g ry fun s3 I3=>⟨.bl ov.isSome,H2,I3,rfl,q2⟩
theorem Ab (hu:X.A.units+1<cLine) (hi:PE X i ty) (ho:PE X o td):PC X .NotIn i o (RI ty td):=by
 intro pins s σ H Q I h
 refine bH (hi pins s σ H _ I h) fun iv s1 ⟨y,H1,I1,ry,q1⟩=>bH (ho pins s1 σ H1 _ I1 q1) fun u s2 ⟨x,H2,I2,rx,a,ov,ex,g,q2⟩=>?_
 subst ex
 obtain rfl:u=Value.ref a:=rx
 exact RH hu I2 g ry fun s3 I3=>⟨.bl (!ov.isSome),H2,I3,rfl,q2⟩
theorem EV (hu:X.A.units+1<cLine) (ho:PE X o td) (hi:PE X i ty) (hv:PE X value tv) (hs:swapsWith value (some (.Subscript o i pos')) pos.line X.env=pure false) :
  PS X (.Assign [.Subscript o i pos'] value pos) (sDPut td ty tv):=by
 intro pins s σ H D I h
 refine wpAny_Assign_Subscript (bH (hv pins s σ H _ I h) fun r s1 ⟨v,H1,I1,rv,q1⟩=>bH (ho pins s1 σ H1 _ I1 q1) fun u s2 ⟨x,H2,I2,rx,q2⟩=>bH (hi pins s2 σ H2 _ I2 q2) fun iv s3 ⟨y,H3,I3,ry,a,H4,ex,g,q3⟩=>?_) hs
 subst ex
 obtain rfl:u=Value.ref a:=rx
 exact MO hu I3 g ry rv fun s4 I4=>⟨σ,H4,I4,q3⟩
end
theorem OT {P:Program} {w:World} {H:Hp} (h:Heap) (hb:sysModules<h.objs.size):f7 P w H (h.push { cls:=.type "dict",data:=.dict #[] }) h.objs.size (.dK []):=
 ⟨Nat.zero_le _,beq_eq_false_iff_ne.mpr (Ne.symm (Nat.ne_of_lt hb)),[],.nil,Heap.DictOf.new h⟩
theorem OU {P:Program} {w:World} {H:Hp} (h:Heap) (hb:sysModules<h.objs.size):f7 P w H (h.push { cls:=.type "dict",data:=.dict #[] }) h.objs.size (.dT []):=
 ⟨Nat.zero_le _,beq_eq_false_iff_ne.mpr (Ne.symm (Nat.ne_of_lt hb)),[],.nil,_,#[],0,Heap.get?_push_size _ rfl,⟨rfl,rfl,rfl⟩,rfl,rfl,List.nodup_nil⟩
def SY:TE:=fun _ H Q=>∀p,H p=none->Q (.ref p) (upd H p (.dK []))
def S0:TE:=fun _ H Q=>∀p,H p=none->Q (.ref p) (upd H p (.dT []))
section
variable {X:Cx} {pos:Pos}
theorem CQ:PE X (.Dict [] [] pos) SY:=fun pins s σ H Q I h=>
 wpAny_Dict_empty ⟨.ref s.heap.objs.size,_,I.laid (a:=s.heap.objs.size) (o:=.dK []) (t':=s.toks) (fun _ _ q=>Heap.get?_push_of_some _ q) (Nat.le_refl _) (OT s.heap I.big),rfl,h _ (I.a9.fresh (Nat.le_refl _))⟩
theorem OV:PE X (.Dict [] [] pos) S0:=fun pins s σ H Q I h=>
 wpAny_Dict_empty ⟨.ref s.heap.objs.size,_,I.laid (a:=s.heap.objs.size) (o:=.dT []) (t':=s.toks) (fun _ _ q=>Heap.get?_push_of_some _ q) (Nat.le_refl _) (OU s.heap I.big),rfl,h _ (I.a9.fresh (Nat.le_refl _))⟩
end
def ka (kvs more:List (Key×V)):List (Key×V):=more.foldl (fun acc kv=>putK acc kv.1 kv.2) kvs
theorem KV.merge:∀{more:List (Key×V)} {rs:List (Key×Value)} {kvs:List (Key×V)} {vs:List (Key×Value)},KV more rs->KV kvs vs->KV (ka kvs more) (merged vs rs):=by
 intro more rs kvs vs r
 unfold KV at r
 induction r generalizing kvs vs with
 | nil=>intro q;exact q
 | @cons p q ps qs h t ih=>
  intro r0
  have e:KV (putK kvs p.1 p.2) (stored vs q.1 q.2):=by
   have:=r0.put p.1 h.2
   rw[<- h.1];exact this
  exact ih e
theorem zd:∀(more kvs:List (Key×V)),(ka kvs more).length<=kvs.length+more.length
 | [],kvs=>by show kvs.length<=kvs.length+0;omega
 | p::r,kvs=>by
  have h1:=zd r (putK kvs p.1 p.2)
  have h2:=wQ kvs p.1 p.2
  show (ka (putK kvs p.1 p.2) r).length<=_
  rw[length_cons];omega
theorem EW:typeLookup (.type "list") "keys"=pure none:=am_miss_of_fast (by first | decide +kernel | rfl)
theorem HA:entryFor table "dict.update.loop"=some Builtin.«dict.update.loop»:=entryFor_of_tree (by kernel_rfl)
theorem vg:plainId "dict.update.loop"=true:=by decide +kernel
section
variable {prog:Program} {w:World} {A:Around} {E:Value->Shared->Prop}
theorem MQ {s:Shared} {a:Addr} {o:Obj} {xs:Array Value} {k:Nat} {Q:Option Value->Shared->Prop} (hx:s.heap.get? a=some o) (hc:o.cls = .type "list") (CS:o.data = .seq xs k) (hd:o.dict=none) (hA:A.handled=none)
  (h:∀h' tk,(∀b ob,s.heap.get? b=some ob->h'.get? b=some ob)->Q none { s with heap:=h',toks:=tk }):wpAny (model prog w) A (getAttr? (.ref a) "keys") Q E s:=by
 obtain⟨c,dct,dat,sl⟩:=o
 simp only at hc CS hd
 subst hc CS hd
 obtain⟨hp,g,d,tk,os⟩:=s
 have hT:∀QJ,(⟨hp,g,d,QJ,os⟩:Shared).TypeIs (.ref a) "list":=fun _=>⟨_,hx,rfl⟩
 have hmiss:=EW
 have hname:(["__module__","__name__","__qualname__","__doc__","__annotations__"]:List Str).contains "keys"=false:=by decide +kernel
 have hsz:("keys":Str).length+100<=sizeLine:=by first | size_fits | decide +kernel
 have f1:=sub_AttributeError
 have f3:=PySem.F.slot_list_getattribute.lookup
 have f4:=PySem.F.slot_list_getattribute.bind (.ref a)
 have f5:=am_list_getattr_none
 unfold getAttr? getAttrBy? getAttrBy
 repeat (any_goals (first | assumption | exact hT _ | ((with_reducible show wpAny _ _ (call (Value.builtin "list.__getattribute__") _ _) _ _ _);refine call_meets PySem.F.slot_list_getattribute (hT _) am_entry_list_getattribute (PySem.F.args_list_getattribute_2 _ _) (meets_getattribute_miss_list a xs k sl "keys" _ hmiss hname hsz) ⟨hx,hA,fun h' QJ e QK=>?_⟩) | wp_step))
 obtain⟨t',u',he⟩:=QK.there
 show wpAny _ _ (getattributeRaised _ _ _ _ _ _ _) _ _ _
 unfold getattributeRaised
 repeat (any_goals (first | assumption | wp_step))
 all_goals first | exact h _ _ QK.keeps | (dsimp only;repeat (any_goals (first | assumption | exact h _ _ QK.keeps | wp_step)))
theorem HB {R:Result->Shared->Prop} {S I l:Addr} {items:Array Value} {res:Value} (hh:A.handled=none) (hlI:l≠I) (QL:S≠I) (J_:S≠l) :
  ∀(rest:List (Key×Value)) (i:Nat) (acc:List (Key×Value)) (ix:Int) (t:Tok) (s:Shared),items.size=i+rest.length->acc.length+rest.length<=sizeLine->
   (∀(j:Nat) (q:Key×Value),rest[j]?=some q->∃(b:Addr) (u:Value),items[i+j]?=some (.ref b)/\b≠S/\b≠I/\IsTup s.heap b #[u,q.2]/\ur q.1 u=true)->
   s.heap.IsListIter I l i->s.heap.IsList l items->s.heap.DictOf (eh prog w) S acc->
   (∀h' tk,h'.DictOf (eh prog w) S (merged acc rest)->(∀b o,b≠S->b≠I->s.heap.get? b=some o->h'.get? b=some o)->R (.ok (.ret res)) { s with heap:=h',toks:=tk })->
   codeAny (model prog w) A (.builtin "dict.update.loop" ⟨[.ref S,.ref I,.int ix t,res],[]⟩) R s
 | [],i,acc,ix,t,s,hsz,DJ,ht,hit,hl,hm,hR=>by
  refine codeAny_builtin HA ?_
  rw[Around.under_plainId vg _]
  show wpAny _ A.in1 (pyNext (.ref I) >>= _) _ _ s
  refine wpAny_bind (wpAny_pyNext_list_end (A:=A.in1) hh hit hl (by first | exact Array.getElem?_eq_none (Nat.le_of_eq hsz) | (simp at hsz;simp;omega)) fun h' he=>?_)
  show wpAny _ A.in1 (Builtin.Dict.addKeywords S [] >>= _) _ _ _
  refine wpAny_bind (wpAny_pure (wpAny_pure ?_))
  exact hR h' s.toks (hm.extBut he QL) fun b o _ hb e=>he b o hb e
 | q::rest,i,acc,ix,t,s,hsz,DJ,ht,hit,hl,hm,hR=>by
  obtain⟨b,u,hb,hbS,hbI,htup,hk⟩:=ht 0 q rfl
  rw[length_cons] at hsz DJ
  refine codeAny_builtin HA ?_
  rw[Around.under_plainId vg _]
  show wpAny _ A.in1 (pyNext (.ref I) >>= _) _ _ s
  refine wpAny_bind (wpAny_pyNext_list_item (x:=.ref b) hit hl (by simpa using hb) fun h1 hit1 Cc=>?_)
  have ht1:IsTup h1 b #[u,q.2]:=htup.extBut Cc.extBut hbI
  have jA:h1.IsList l items:=hl.extBut Cc.extBut hlI
  have DK:h1.DictOf (eh prog w) S acc:=hm.extBut Cc.extBut QL
  obtain⟨o,ho,hc,n,hd⟩:=id ht1
  show wpAny _ A.in1 (holding [Value.ref b] _ >>= _) _ _ _
  refine wpAny_bind (wpAny_holding ?_)
  refine wpAny_bind (wpAny_tryCatch ?_)
  unfold Builtin.Dict.pairItems
  refine wpAny_bind (wpAny_typeOf (T:="tuple") ⟨o,ho,hc⟩ ?_)
  rw[if_pos (by first | decide | rfl | simp)]
  refine wpAny_bind (wpAny_seqItems ho hd (wpAny_pure ?_))
  show wpAny _ A.in1 (holding [u,q.2] (dictSet S u q.2)) _ _ _
  refine wpAny_holding (wpAny_dictSet_pairs (knd:=eh prog w) (k:=q.1) hk DK (fun h2 HC t7=>?_) (by omega))
  refine wpAny_pure ⟨plainId_quiet vg _,HB (items:=items) hh hlI QL J_ rest (i+1) (stored acc q.1 q.2) (ix+1) 0 _ (show items.size=i+1+rest.length by omega) ?_ (fun j q' e=>?_) ?_ ?_ HC fun h' tk dZ k=>?_⟩
  ·have z:=stored_length_le acc q.1 q.2
   omega
  ·obtain⟨b',u',QM,S1,S2,htup',sM⟩:=ht (j+1) q' (by simpa using e)
   refine⟨b',u',?_,S1,S2,(htup'.extBut Cc.extBut S2).extBut t7.extBut S1,sM⟩
   rw[show i+1+j=i+(j+1) by omega]
   exact QM
  ·exact hit1.at fun o' e=>t7.extBut I o' (Ne.symm QL) e
  ·exact jA.extBut t7.extBut (Ne.symm J_)
  ·exact hR h' tk dZ fun c oc h3 h4 e=>k c oc h3 h4 (t7.extBut c oc h3 (Cc.extBut c oc h4 e))
theorem DL {s:Shared} {l:Addr} {ol:Obj} {items:Array Value} {n:Nat} {prs:List (Key×Value)} {Q:Value->Shared->Prop} (hh:A.handled=none) (hl:s.heap.get? l=some ol) (hc:ol.cls = .type "list") (hd:ol.dict=none)
  (CS:ol.data = .seq items n) (hsz:items.size=prs.length) (DJ:prs.length<=sizeLine)
  (ht:∀(j:Nat) (q:Key×Value),prs[j]?=some q->∃(b:Addr) (u:Value),items[j]?=some (.ref b)/\IsTup s.heap b #[u,q.2]/\ur q.1 u=true)
  (h:∀h' tk,h'.DictOf (eh prog w) s.heap.objs.size (merged [] prs)->(∀b o,s.heap.get? b=some o->h'.get? b=some o)->Q (.ref s.heap.objs.size) { s with heap:=h',toks:=tk }) :
  wpAny (model prog w) A (call (.type "dict") [.ref l]) Q E s:=by
 refine callType_codes (Q₁:=fun obj s₁=>obj = .ref s.heap.objs.size/\s₁={ s with heap:=s.heap.push { cls:=.type "dict",data:=.dict #[] } }) PySem.F.kt_called_dict (PySem.F.kt_typeCall_dict_1 _) PySem.F.entry_dict_init (kt_code_dict_new _ ⟨rfl,rfl⟩) ?_
 rintro obj s₁ ⟨rfl,rfl⟩
 have Hv:(s.heap.push { cls:=.type "dict",data:=.dict #[] }).DictOf (eh prog w) s.heap.objs.size []:=Heap.DictOf.new s.heap
 have k0:∀b o,s.heap.get? b=some o->(s.heap.push { cls:=.type "dict",data:=.dict #[] }).get? b=some o:=fun b o e=>Heap.get?_push_of_some _ e
 refine⟨Hv.typeIs,PySem.F.args_dict_init_2 _ _,?_⟩
 unfold Builtin.«dict.__init__»
 refine wpAny_bind ?_
 unfold Builtin.Dict.selfAndRest
 refine wpAny_bind (wpAny_notOrdered_dict Hv.typeIs ?_)
 show wpAny _ _ (pure (s.heap.objs.size,[Value.ref l])) _ _ _
 refine wpAny_pure ?_
 show wpAny _ _ (Builtin.Dict.updateFrom "dict.__init__" s.heap.objs.size (.ref l) [] .none) _ _ _
 unfold Builtin.Dict.updateFrom
 refine wpAny_bind (wpAny_typeOf (T:="list") ⟨ol,k0 _ _ hl,hc⟩ ?_)
 rw[if_pos (by first | decide | rfl | simp)]
 refine wpAny_bind (MQ (k0 _ _ hl) hc CS hd hh fun h1 tk1 MR=>?_)
 rw[if_pos (show (none:Option Value).isNone=true from rfl)]
 refine wpAny_bind (wpAny_rule ?_)
 have jA:h1.IsList l items:=⟨ol,MR _ _ (k0 _ _ hl),hc,n,CS⟩
 have gc:s.heap.objs.size<h1.objs.size:=by
  have e:(s.heap.push { cls:=.type "dict",data:=.dict #[] }).get? s.heap.objs.size=some { cls:=.type "dict",data:=.dict #[] }:=Heap.get?_push_size _ rfl
  exact Heap.lt_size (MR _ _ e)
 refine wpAny_bind (wpAny_pyIter_list jA ?_)
 have k2:∀b o,h1.get? b=some o->(h1.push { cls:=.type "list_iterator",data:=.fields #[.ref l,.int 0 0] }).get? b=some o:=fun b o e=>Heap.get?_push_of_some _ e
 have eO:l<s.heap.objs.size:=Heap.lt_size hl
 have key:=HB (prog:=prog) (w:=w) (A:=A.in1) (R:=wants (fun r s₂=>r = .none/\Q (.ref s.heap.objs.size) s₂) E) (S:=s.heap.objs.size) (I:=h1.objs.size) (l:=l) (items:=items) (res:=Value.none) hh
  (Nat.ne_of_lt (Nat.lt_trans eO gc)) (Nat.ne_of_lt gc) (Nat.ne_of_gt eO) prs 0 [] 0 0
  { s with heap:=h1.push { cls:=.type "list_iterator",data:=.fields #[.ref l,.int 0 0] },toks:=tk1 } (by rw[hsz,Nat.zero_add]) (by rw[List.length_nil,Nat.zero_add];exact DJ)
  (fun j q e=>by
   obtain⟨b,u,e1,e2,e3⟩:=ht j q e
   have hb:b<s.heap.objs.size:=e2.lt
   exact⟨b,u,by rw[Nat.zero_add];exact e1,Nat.ne_of_lt hb,Nat.ne_of_lt (Nat.lt_trans hb gc),e2.keeps fun c o z=>k2 _ _ (MR _ _ (k0 _ _ z)),e3⟩)
  ⟨_,Heap.get?_push_size _ rfl,rfl,rfl⟩ (jA.at fun o e=>k2 _ _ e) ((Hv.at fun o e=>MR _ _ e).at fun o e=>k2 _ _ e)
  (fun h' tk dZ k=>⟨rfl,h h' tk dZ fun b o e=>k b o (Nat.ne_of_lt (Heap.lt_size e)) (Nat.ne_of_lt (Nat.lt_trans (Heap.lt_size e) gc)) (k2 _ _ (MR _ _ (k0 _ _ e)))⟩)
 first
  | exact wpAny_pure ⟨plainId_quiet vg _,key⟩
  | exact wpAny_bind (wpAny_pure (wpAny_pure ⟨plainId_quiet vg _,key⟩))
end
section
variable {X:Cx}
theorem HD {pins:List (Addr×Obj)} {σ:St} {H:Hp} {s:Shared} (I:Inv X pins σ H s):∀{ps:List Addr} {kvs:List (Key×V)},Paired (fun p kv=>mY X.K H p [kV kv.1,kv.2]) ps kvs->
  ∃prs:List (Key×Value),KV kvs prs/\prs.length=ps.length/\∀(j:Nat) (q:Key×Value),prs[j]?=some q->∃(b:Addr) (u:Value),ps[j]?=some b/\IsTup s.heap b #[u,q.2]/\ur q.1 u=true
 | _,_,.nil=>⟨[],.nil,rfl,fun j q e=>by simp at e⟩
 | _,_,.cons (a:=p) (b:=kv) h t=>by
  obtain⟨prs,r,hl,hp⟩:=HD I t
  obtain⟨aL,rv,ht,_⟩:=I.tuple h
  obtain⟨u,y,ei,ru,ry⟩:=vals2 rv
  subst ei
  refine⟨(kv.1,y)::prs,.cons ⟨rfl,ry⟩ r,by rw[length_cons,length_cons,hl],fun j q e=>?_⟩
  cases j with
  | zero=>
   have e':(kv.1,y)=q:=Option.some.inj e
   subst e'
   exact⟨p,u,rfl,ht,Bt (P:=X.prog) (w:=X.w) ru⟩
  | succ j=>
   obtain⟨b,u',e1,e2,e3⟩:=hp j q (by simpa using e)
   exact⟨b,u',by simpa using e1,e2,e3⟩
theorem Ka:∀{ps:List Addr} {us:List Value},Vals (ps.map V.ref) us->us=ps.map Value.ref
 | [],us,r=>by
  rw[List.map_nil] at r
  cases r
  rfl
 | p::ps,us,r=>by
  rw[map_cons] at r
  cases r with
  | cons h t=>
   cases h
   rw[map_cons,<- Ka t]
theorem DM (hcalm:X.calm=true):ym X (.type "dict") (fun xs H Q=>∃(a:Addr) (ps:List Addr) (kvs:List (Key×V)),xs=[.ref a]/\aE X.K H a (ps.map V.ref)/\Paired (fun p kv=>mY X.K H p [kV kv.1,kv.2]) ps kvs/\
  ∀p,H p=none->Q (.ref p) (upd H p (.dK (ka [] kvs)))):=by
 intro pins s σ H xs us Q I r q
 obtain⟨a,ps,kvs,ex,hq,hp,q⟩:=q
 subst ex
 obtain⟨u,eu,rx⟩:=vals1 r
 subst eu
 cases rx
 obtain⟨aL,rv,pl,hz⟩:=I.list hq
 have ei:=Ka rv
 subst ei
 rw[length_map] at hz
 obtain⟨prs,rel,hl,hpr⟩:=HD I hp
 obtain⟨o,n,ho,hc,hd,CS⟩:=pl
 refine DL (prs:=prs) (I.ok.hd hcalm) ho hc hd CS (by simp[hl]) (by rw[hl];exact hz) (fun j q' e=>?_) fun h' tk dZ k=>?_
 ·obtain⟨b,u,e1,e2,e3⟩:=hpr j q' e
  exact⟨b,u,by simp[e1],e2,e3⟩
 ·have hm:(s.heap.objs.size==sysModules)=false:=beq_eq_false_iff_ne.mpr (Nat.ne_of_gt I.big)
  have hlen:(ka [] kvs).length<=sizeLine:=by
   refine Nat.le_trans (zd kvs []) ?_
   rw[List.length_nil,Nat.zero_add,rel.length,hl]
   exact hz
  exact⟨.ref s.heap.objs.size,upd H s.heap.objs.size (.dK (ka [] kvs)),I.laid (t':=tk) k (Nat.le_refl _) (show f7 X.prog X.w _ _ _ (.dK (ka [] kvs)) from ⟨hlen,hm,merged [] prs,KV.merge rel .nil,dZ⟩),rfl,q _ (I.a9.fresh (Nat.le_refl _))⟩
end
theorem EX:bootBuiltins "reversed"=some (.type "reversed"):=by decide +kernel
section
variable {X:Cx}
theorem MS {tg:Expr} {pins:List (Addr×Obj)} {σ:St} {H:Hp} {s:Shared} {R:It->Hp->Prop} {J:It} {tn:Nat->Heap->Prop} {tk:Nat} (I:Inv X pins σ H s) (o:Obj)
  (T:Turn X.prog X.w X.K tg J [s.heap.objs.size] s.heap.objs.size tn) (st:tn 0 (s.heap.push o)) (q:R J H):Sj X pins σ tg R (.ref s.heap.objs.size) { s with heap:=s.heap.push o,toks:=tk }:=by
 refine⟨s.heap.objs.size,[s.heap.objs.size],tn,J,H,rfl,I.kept fun b ob e=>Heap.get?_push_of_some _ e,T,st,fun b hb=>?_,q⟩
 have e:b=s.heap.objs.size:=by simpa using hb
 subst e
 exact I.Hk (Nat.le_refl _) (I.a9.fresh (Nat.le_refl _))
end
def MT (lo c:Int) (n:Nat):It:=⟨fun i _=>i<n,fun i H x H'=>H'=H/\x = .int (lo+(i:Nat)*c),fun i _=>n<=i⟩
theorem Jz {P:Program} {w:World} {K:PySem.W.Frag} {tg:Expr} (it:Addr) (lo c:Int) (n:Nat):Turn P w K tg (MT lo c n) [it] it (fun i h=>IsRangeIter h it (lo+(i:Nat)*c) ((n:Int)-(i:Nat)) c) where
 mem:=by simp
 obj:=fun i h st b hb=>by
  have e:b=it:=by simpa using hb
  subst e
  exact⟨_,st,fun v z=>nomatch z⟩
 keep:=fun i h h' st k=>k it (by simp) _ st
 item:=by
  intro X hP hw hK hc i pins s σ H E I hf st hg
  subst hP hw hK
  obtain⟨f0,f1,f2,f3,f4,f5⟩:=hf it (by simp)
  have W:=Walks.range (prog:=X.prog) (w:=X.w) (I.ok.hd hc) it lo c n
  refine W.item i s _ _ hg st fun v h' tk hv vb kk=>?_
  obtain⟨t,rfl⟩:=hv
  have I1:Inv X pins σ H { s with heap:=h',toks:=tk }:=I.turned (fun b o hb e=>kk b o (by simpa using hb) e) f0 f1 f3 f4 f5
  exact⟨_,rfl,Dy (s:={ s with heap:=h',toks:=tk }) (n:="range_iterator") vb rfl rfl (by decide) ⟨.int (lo+(i:Nat)*c),H,I1,⟨t,rfl⟩,⟨rfl,rfl⟩,vb,fun b hb=>(hf b hb).1⟩⟩
 done:=by
  intro X hP hw hK hc i pins s σ H E I hf st hg
  subst hP hw hK
  obtain⟨f0,f1,f2,f3,f4,f5⟩:=hf it (by simp)
  exact wpAny_pyNext_range_end (I.ok.hd hc) st (by have:n<=i:=hg;omega) fun h' eb=>⟨rfl,I.turned (t':=s.toks) (fun b o hb e=>eb b o hb e) f0 f1 f3 f4 f5⟩
 self:=fun A i s Q E st h=>wpAny_pyIter_rangeiter st h
def RgC (i j c:Int) (n:Nat):Prop:=c≠0/\c.natAbs<1073741824/\Builtin.Range.small i j c=true/\Builtin.Range.rangeSize i j c=n
def iRng3 (ta:TA):TI:=fun σ H R=>ta σ H fun vs H1=>∃(i j c:Int) (n:Nat),vs=[.int i,.int j,.int c]/\RgC i j c n/\R (MT i c n) H1
section
variable {X:Cx} {tg:Expr}
theorem MU {a b c:Expr} {ta:TA} {p pos:Pos} (hg:Gl X "range") (hm:X.mg "range"=none) (ha:PA X [a,b,c] ta)
  (hs:starEach [a,b,c] X.env=(false,eval a X.env)::starEach [b,c] X.env:=by rfl) (gS:(backTo pos (starEach [b,c] X.env)).any (·.1)=false:=by rfl) :
  PI X tg (.Call (.Name "range" p) [a,b,c] [] pos) (iRng3 ta):=by
 intro pins s σ H R I h
 refine Call_ (sH I hg hm boot_range (PyProof.Rows.callWith_type1 (bH (ha pos pins s σ H _ I h) fun us s1 ⟨vs,H1,I1,r1,q1⟩=>?_) hs gS))
 obtain⟨i,j,k,n,e,⟨c0,c1,c2,c3⟩,q⟩:=q1
 subst e
 cases r1 with
 | cons r rr=>
  cases rr with
  | cons r' rr=>
   cases rr with
   | cons r'' rr=>
    cases rr
    obtain⟨t,rfl⟩:=r
    obtain⟨t',rfl⟩:=r'
    obtain⟨t'',rfl⟩:=r''
    refine call_range_3 c0 ?_ (.inl (PyProof.noPylong_small c1))
    refine wpAny_pyIter_range (IsRange.new ..) c2 ?_
    have I2:Inv X pins σ H1 { s1 with heap:=s1.heap.push { cls:=.type "range",data:=.fields #[.int i t,.int j t',.int k t''] } }:=I1.kept (t':=s1.toks) fun b o e=>Heap.get?_push_of_some _ e
    refine MS (tk:=s1.toks) I2 _ (Jz _ i k n) ?_ q
    have e1:i+((0:Nat):Int)*k=i:=by simp
    have e2:(n:Int)-((0:Nat):Int)=Builtin.Range.rangeSize i j k:=by rw[c3];simp
    show IsRangeIter _ _ (i+((0:Nat):Int)*k) ((n:Int)-((0:Nat):Int)) k
    rw[e1,e2]
    exact Heap.get?_push_size _ rfl
end
theorem Lr {lo c:Int} {n:Nat} {g:TG} {tb:TS} {D:Ends} {σ:St} {H:Hp} (Pv:Nat->St->Hp->Prop) (h0:Pv 0 σ H)
  (hs:∀i σ H,i<n->Pv i σ H->g (.int (lo+(i:Nat)*c)) σ H fun σ2 H2=>tb { D with nx:=Pv (i+1),ct:=Pv (i+1),bk:=D.nx } σ2 H2) (hd:∀σ H,Pv n σ H->D.nx σ H) :
  ∃W:Nat->Nat->St->Hp->Prop,(∃m,W 0 m σ H)/\∀i m σ H,W i m σ H->
   ((MT lo c n).stop i H/\D.nx σ H)\/((MT lo c n).go i H/\∃N:St->Hp->Prop,(∀σ' H',N σ' H'->∃m',m' < m/\W (i+1) m' σ' H')/\∀x H',(MT lo c n).B6 i H x H'->g x σ H' fun σ2 H2=>tb { D with nx:=N,ct:=N,bk:=D.nx } σ2 H2):=by
 refine⟨fun i m σ H=>m=n-i/\i<=n/\Pv i σ H,⟨n,by simp,Nat.zero_le _,h0⟩,?_⟩
 rintro i m σ H ⟨rfl,hi,p⟩
 by_cases eO:i<n
 ·refine .inr ⟨eO,Pv (i+1),fun σ' H' p'=>⟨n-(i+1),by omega,rfl,eO,p'⟩,fun x H' y=>?_⟩
  obtain⟨e,y⟩:=y
  subst e y
  exact hs i σ _ eO p
 ·have e:i=n:=by omega
  subst e
  exact .inl ⟨Nat.le_refl _,hd σ H p⟩
def MV (K:W.Frag) (a:Addr) (n:Nat):It:=
 ⟨fun i H=>i<n/\∃(xs:List V) (x:V),aE K H a xs/\xs[n-1-i]?=some x,fun i H x H'=>H'=H/\∀xs,aE K H a xs->xs[n-1-i]?=some x,fun i _=>n<=i⟩
theorem OW {P:Program} {w:World} {K:W.Frag} {tg:Expr} (a it:Addr) (n:Nat):Turn P w K tg (MV K a n) [it] it (fun i h=>i<=n/\h.IsRevIter it a ((n:Int)-1-(i:Nat))) where
 mem:=by simp
 obj:=fun i h st b hb=>by
  have e:b=it:=by simpa using hb
  subst e
  obtain⟨_,o,e,c,d⟩:=st
  exact⟨o,e,fun v z=>by rw[d] at z;cases z⟩
 keep:=fun i h h' st k=>⟨st.1,st.2.at fun o e=>k it (by simp) o e⟩
 item:=by
  intro X hP hw hK hc i pins s σ H E I hf st hg
  subst hP hw hK
  obtain⟨bq,xs,x,hq,hx⟩:=hg
  obtain⟨aL,rv,p,hz⟩:=I.list hq
  obtain⟨u,hu,ru⟩:=rv.get hx
  obtain⟨f0,f1,f2,f3,f4,f5⟩:=hf it (by simp)
  obtain⟨_,hit⟩:=st
  have e1:(n:Int)-1-((i:Nat):Int)=((n-1-i:Nat):Int):=by omega
  rw[e1] at hit
  refine wpAny_pyNext_rev_item hit p.isList (x:=u) (by simpa using hu) fun h' vb sb=>?_
  have e2:((n-1-i:Nat):Int)-1=(n:Int)-1-((i+1:Nat):Int):=by omega
  rw[e2] at vb
  have I1:Inv X pins σ H { s with heap:=h' }:=I.turned (t':=s.toks) (fun b o hb e=>(sb.2 b hb).trans e) f0 f1 f3 f4 f5
  obtain⟨o,e,c,d⟩:=id vb
  exact⟨u,rfl,Dy (s:={ s with heap:=h' }) e c d (by decide) ⟨x,H,I1,ru,⟨rfl,fun ys hy=>by rw[I.Hj hy hq];exact hx⟩,⟨bq,vb⟩,fun b hb=>(hf b hb).1⟩⟩
 done:=by
  intro X hP hw hK hc i pins s σ H E I hf st hg
  subst hP hw hK
  obtain⟨f0,f1,f2,f3,f4,f5⟩:=hf it (by simp)
  obtain⟨bq,hit⟩:=st
  have hge:n<=i:=hg
  have e1:(n:Int)-1-((i:Nat):Int) = -1:=by omega
  rw[e1] at hit
  exact wpAny_pyNext_rev_end (I.ok.hd hc) hit fun h' eb=>⟨rfl,I.turned (t':=s.toks) (fun b o hb e=>eb b o hb e) f0 f1 f3 f4 f5⟩
 self:=fun A i s Q E st h=>wpAny_pyIter_revIter st.2 h
def iRev (K:W.Frag) (ta:TA):TI:=fun σ H R=>ta σ H fun vs H1=>∃(a:Addr) (xs:List V),vs=[.ref a]/\aE K H1 a xs/\R (MV K a xs.length) H1
section
variable {X:Cx} {tg:Expr}
theorem JA {e:Expr} {ta:TA} {p pos:Pos} (hg:Gl X "reversed") (hm:X.mg "reversed"=none) (ha:PA X [e] ta) (hs:starEach [e] X.env=[(false,eval e X.env)]:=by rfl):PI X tg (.Call (.Name "reversed" p) [e] [] pos) (iRev X.K ta):=by
 intro pins s σ H R I h
 refine Call_ (sH I hg hm EX (PyProof.Rows.callWith_type1 (bH (ha pos pins s σ H _ I h) fun us s1 ⟨vs,H1,I1,r1,q1⟩=>?_) hs rfl))
 obtain⟨a,xs,e,hq,q⟩:=q1
 subst e
 cases r1 with
 | cons r rr=>
  cases rr
  cases r
  obtain⟨aL,rv,p',hz⟩:=I1.list hq
  have hl:=rv.length
  have e1:((aL.toArray.size:Nat):Int)-1=(xs.length:Int)-1-((0:Nat):Int):=by simp only[size_toArray];omega
  refine call_reversed_list p'.isList (wpAny_pyIter_revIter (l:=a) (i:=((aL.toArray.size:Nat):Int)-1) ⟨_,Heap.get?_push_size _ rfl,rfl,rfl⟩ ?_)
  refine MS (tk:=s1.toks) I1 _ (OW a _ xs.length) ⟨Nat.zero_le _,?_⟩ q
  rw[<- e1]
  exact⟨_,Heap.get?_push_size _ rfl,rfl,rfl⟩
end
def inClass (s:Stmt) (j:Nat):Stmt:=match s with
 | .ClassDef _ _ _ body _ _ _ _ _ _ _=>body.getD j (.Pass ⟨0,0,0,0⟩)
 | _=>.Pass ⟨0,0,0,0⟩
def uN (s:Stmt):Arguments:=match s with
 | .FunctionDef _ a _ _ _ _ _ _ _ _=>a
 | _=>{ posonlyargs:=[],args:=[],vararg:=none,kwonlyargs:=[],kw_defaults:=[],kwarg:=none,defaults:=[] }
def rL (s:Stmt):List Stmt:=match s with
 | .FunctionDef _ _ b _ _ _ _ _ _ _=>b
 | _=>[]
def ay (s:Stmt):Scope:=match s with
 | .FunctionDef _ _ _ _ _ _ sc _ _ _=>sc
 | _=>{ kind:=.function,names:=[],isGenerator:=false,isCoroutine:=false }
abbrev bF:zX:=fun _ _ _ _ _ _=>False
abbrev E0:XK:=fun _ _ _=>False
theorem aF {X:Cx}:Passes bF X E0:=fun _ _ _ _ _ _ _ h=>h.elim
structure bt (K:W.Frag) (x qual:Str) (st:Stmt) (f:Addr) (fd:FuncData):Prop where
 ex:∃(oc:Value) (od:Option Addr) (kV doc pm:Value) (an:Option Addr) (bg ct:Value) (zY:Array (Option Value)),
  fd=W.fnOf x qual (uN st) (rL st) (ay st) .none kV doc pm an bg ct/\K.lookup f=some ⟨oc,od,.func fd,zY⟩/\W.codeIn K bg qual=true
 kp:W.keepIn K (.ref f)=true
section
variable {P:Program} {w:World} {K:W.Frag} {mg:Str->Option Value} {base:Heap}
theorem bt.ok {x qual:Str} {st:Stmt} {f:Addr} {fd:FuncData} {N ps:List Str} {k:Nat} {sp:Sp} (F:bt K x qual st f fd) (S:aJ N ps (ay st)) (len:∀vs H Q E,sp vs H Q E->vs.length=ps.length)
  (Lk:∀(bg:Value) (A:Around) (outer:List Env) (s:Shared) (H:Hp) (vs:List V) (Q:VK) (E:XK),gU k (A.deeper (envOfC qual (ay st) s.heap.objs.size f bg))->sp vs H Q E->
   ∃t,xm (ER bF P w K mg base N qual (ay st) f bg A outer s H E).Qx (rL st) t/\t { nx:=fun _ H'=>Q .bE H',rt:=Q } (start N vs) H):aY P w K mg base bF (k+1) f fd ps sp:=by
 obtain⟨oc,od,kV,doc,pm,an,bg,ct,zY,rfl,lk,wc⟩:=F.ex
 refine fn_of lk wc S len fun A outer s H vs Q E hr Ca=>?_
 obtain⟨t,h,q⟩:=Lk bg A outer s H vs Q E hr Ca
 exact⟨t,h.Qx,q⟩
theorem bt.binds {x qual:Str} {st:Stmt} {f:Addr} {fd:FuncData} {ps:List Str} (F:bt K x qual st f fd)
  (h:∀(kV doc pm:Value) (an:Option Addr) (bg ct:Value) (us:List Value),us.length=ps.length->bindArgs (W.fnOf x qual (uN st) (rL st) (ay st) .none kV doc pm an bg ct) ⟨us,[]⟩=pure (ps.zip us)):Binds K fd ps []:=by
 obtain⟨oc,od,kV,doc,pm,an,bg,ct,zY,rfl,lk,wc⟩:=F.ex
 exact .all (h kV doc pm an bg ct)
theorem mm {x qual:Str} {st:Stmt} {f:Addr} {oc:Value} {od an:Option Addr} {zY:Array (Option Value)} {kV doc pm bg ct:Value} (l:K.lookup f=some ⟨oc,od,.func (W.fnOf x qual (uN st) (rL st) (ay st) .none kV doc pm an bg ct),zY⟩)
  (c:W.codeIn K bg qual=true) (k:W.keepIn K (.ref f)=true):bt K x qual st f (W.fnOf x qual (uN st) (rL st) (ay st) .none kV doc pm an bg ct):=⟨⟨oc,od,kV,doc,pm,an,bg,ct,zY,rfl,l,c⟩,k⟩
end
theorem kb {A:Around} {k:Nat} (hr:gU k A):A.units+1<cLine:=Nat.lt_of_le_of_lt (Nat.add_le_add_left (by decide:1<=64) _) hr.units
section
variable {X:Cx}
theorem pv (i:Nat) {x:Str} {pos:Pos} (hN:X.N[i]?=some x:=by rfl) (hv:Mo X.env.scope x:=by first | exact Or.inl rfl | exact Or.inr (Or.inl rfl) | exact Or.inr (Or.inr rfl)) (hd:(x==("__debug__":Str))=false:=by decide)
  (wc:(x==("__classdict__":Str))=false:=by decide):PE X (.Name x pos) (Sf i):=Sg hN hv hd wc
theorem MW:ym X (.builtin "len") (fun xs H Q=>∃a kvs,xs=[V.ref a]/\H a=some (.dK kvs)/\Q (.int kvs.length) H):=by
 intro pins s σ H xs us Q I r h
 obtain⟨a,kvs,rfl,ha,q⟩:=h
 obtain⟨u,rfl,ru⟩:=vals1 r
 cases ru
 exact d_len I (.inl ha) fun t s' I'=>⟨.int kvs.length,H,I',⟨t,rfl⟩,q⟩
end
theorem aZ {A B:Prop} (h:B):if false=true then A else B:=by
 rw[if_neg Bool.false_ne_true]
 exact h
theorem aS {A B:Prop} (h:A):if true=true then A else B:=by
 rw[if_pos rfl]
 exact h
def aq (H H':Hp):Prop:=∀b o,H b=some o->H' b=some o
theorem aq.trans {H H1 H2:Hp} (a:aq H H1) (b:aq H1 H2):aq H H2:=fun c o h=>b c o (a c o h)
theorem aq.free {H H':Hp} (e:aq H H') {l:Addr} (h:H' l=Option.none):H l=Option.none:=by
 cases q:H l with
 | none=>rfl
 | some o=>
  rw[e l o q] at h
  cases h
theorem aq.seq {K:W.Frag} {H H':Hp} {a:Addr} {xs:List V} (e:aq H H') (h:aE K H a xs):aE K H' a xs:=by
 rcases h with (h | ⟨o,h⟩) | h
 ·exact .inl (.inl (e _ _ h))
 ·exact .inl (.inr ⟨o,e _ _ h⟩)
 ·exact .inr h
theorem aq.made {H H1:Hp} {x dx C:Addr} (nx:H x=Option.none) (nd:H dx=Option.none) (k:∀b o,(upd (upd H dx (.own x)) x (.ins C dx [])) b=some o->b≠x->H1 b=some o):aq H H1:=fun b o e=>
 k b o (by rw[aw (aK e nx),aw (aK e nd)];exact e) (aK e nx)
end L2
section
namespace L2
open PySem PySem.Spec PyProof.Rows
open PySem.W (WData Codec OpenSpec Well WellAll ReadsW ReadsAllW)
mutual
inductive Dw (K:W.Frag) (H:Hp):V->WData->Prop
 | bE:Dw K H .bE .none
 | bl (b:Bool):Dw K H (.bl b) (.bool b)
 | int (i:Int):Dw K H (.int i) (.int i)
 | str (x:Str):Dw K H (.str x) (.str x)
 | sF (b:Array UInt8):Dw K H (.sF b) (.bytes b.toList)
 | lst {a:Addr} {xs:List V} {ds:List WData}:aE K H a xs->o7 K H xs ds->Dw K H (.ref a) (.list ds)
 | tup {a:Addr} {xs:List V} {ds:List WData}:mY K H a xs->o7 K H xs ds->Dw K H (.ref a) (.tuple ds)
inductive o7 (K:W.Frag) (H:Hp):List V->List WData->Prop
 | nil:o7 K H [] []
 | cons {v:V} {vs:List V} {d:WData} {ds:List WData}:Dw K H v d->o7 K H vs ds->o7 K H (v::vs) (d::ds)
end
theorem Kb {K:W.Frag} {H:Hp}:∀ns:List Int,o7 K H (ns.map V.int) (ns.map WData.int)
 | []=>.nil
 | n::r=>.cons (.int n) (Kb r)
theorem Kc {K:W.Frag} {H:Hp}:∀(ns:List Int) (xs:List V),o7 K H xs (ns.map WData.int)->xs=ns.map V.int
 | [],xs,h=>by
  cases h
  rfl
 | n::r,xs,h=>by
  cases h with
  | cons h1 h2=>
   cases h1
   rw[Kc r _ h2] <;> rfl
section
variable {P:Program} {w:World} {K:W.Frag} {H:Hp} {h:Heap} {R:W.WRecords} {cl:Str->Option Addr}
theorem S3 {a:Addr} {xs:List V} (a9:ir P w H h) (KX:K.In h) (q:aE K H a xs):∃(aL:List Value) (o:Obj) (n:Nat),Vals xs aL/\h.get? a=some o/\o.cls = .type "list"/\o.data = .seq aL.toArray n:=by
 rcases q with q | ⟨o,aL,n,e,hc,_,hd,_,hv⟩
 ·obtain⟨_,aL,n,hv,e⟩:=(show f7 P w H h a (.lst xs) from q.ok a9)
  exact⟨aL,_,n,hv,e,rfl,rfl⟩
 ·exact⟨aL.toList,o,n,hv,KX _ _ e,hc,by simp[hd]⟩
theorem S4 {a:Addr} {xs:List V} (a9:ir P w H h) (KX:K.In h) (q:mY K H a xs):∃(aL:List Value) (o:Obj) (n:Nat),Vals xs aL/\h.get? a=some o/\o.cls = .type "tuple"/\o.data = .seq aL.toArray n:=by
 rcases q with q | ⟨o,aL,n,e,hc,hd,_,hv⟩
 ·obtain⟨_,aL,hv,o,e,hc,n,hd⟩:=(show f7 P w H h a (.tup xs) from q.ok a9)
  exact⟨aL,o,n,hv,e,hc,hd⟩
 ·exact⟨aL.toList,o,n,hv,KX _ _ e,hc,by simp[hd]⟩
mutual
theorem Dw.reads (a9:ir P w H h) (KX:K.In h):∀(d:WData) (v:V) (u:Value),Dw K H v d->RelV v u->∃as,ReadsW R cl h u d as
 | .none,_,_,x,r=>by
  cases x
  cases r
  exact⟨_,ReadsW.none⟩
 | .bool b,_,_,x,r=>by
  cases x
  cases r
  exact⟨_,ReadsW.bool b⟩
 | .int i,_,_,x,r=>by
  cases x
  obtain⟨t,rfl⟩:=r
  exact⟨_,ReadsW.int i t⟩
 | .str s,_,_,x,r=>by
  cases x
  obtain⟨t,rfl⟩:=r
  exact⟨_,ReadsW.str s t⟩
 | .bytes b,_,_,x,r=>by
  cases x
  obtain⟨t,rfl⟩:=r
  exact⟨_,ReadsW.bytes _ t⟩
 | .list ds,_,_,x,r=>by
  cases x with
  | lst hs ha=>
   cases r
   obtain⟨aL,o,n,rv,ho,hc,hd⟩:=S3 a9 KX hs
   obtain⟨as,hr⟩:=Dw.readsAll a9 KX ds _ aL ha rv
   exact⟨_,ReadsW.list ho hc hd hr⟩
 | .tuple ds,_,_,x,r=>by
  cases x with
  | tup hs ha=>
   cases r
   obtain⟨aL,o,n,rv,ho,hc,hd⟩:=S4 a9 KX hs
   obtain⟨as,hr⟩:=Dw.readsAll a9 KX ds _ aL ha rv
   exact⟨_,ReadsW.tuple ho hc hd hr⟩
 | .float _,_,_,x,_=>by cases x
 | .dict _,_,_,x,_=>by cases x
 | .bytearray _,_,_,x,_=>by cases x
 | .set _,_,_,x,_=>by cases x
 | .frozenset _,_,_,x,_=>by cases x
 | .obj _ _,_,_,x,_=>by cases x
theorem Dw.readsAll (a9:ir P w H h) (KX:K.In h):∀(ds:List WData) (vs:List V) (us:List Value),o7 K H vs ds->Vals vs us->∃as,ReadsAllW R cl h us ds as
 | [],_,_,x,r=>by
  cases x
  cases r
  exact⟨_,ReadsAllW.nil⟩
 | d::ds,_,_,x,r=>by
  cases x with
  | cons h1 h2=>
   cases r with
   | cons r1 r2=>
    obtain⟨as,q1⟩:=Dw.reads a9 KX d _ _ h1 r1
    obtain⟨bs,q2⟩:=Dw.readsAll a9 KX ds _ _ h2 r2
    exact⟨_,ReadsAllW.cons q1 q2⟩
end
end
mutual
def we:WData->Bool
 | .none=>true
 | .bool _=>true
 | .int _=>true
 | .str _=>true
 | .bytes _=>true
 | .list xs=>tH xs
 | .tuple xs=>tH xs
 | _=>false
def tH:List WData->Bool
 | []=>true
 | x::r=>we x&&tH r
end
theorem HE {α:Type} {f:α->WData} (h:∀a,we (f a)=true):∀l:List α,tH (l.map f)=true
 | []=>rfl
 | x::r=>by
  show (we (f x)&&tH (r.map f))=true
  rw[h x,HE h r] <;> rfl
theorem sO:∀(c:Codec) (a:c.denote),we (c.enc a)=true
 | .unit,_=>rfl
 | .bool,_=>rfl
 | .int _ _,_=>rfl
 | .nat _ _,_=>rfl
 | .u8,_=>rfl
 | .bytes _ _,_=>rfl
 | .text _ _ _ _,_=>rfl
 | .list _ _ c,a=>HE (fun x=>sO c x) a
 | .pair c d,a=>by
  show (we (c.enc a.1)&&(we (d.enc a.2)&&true))=true
  rw[sO c a.1,sO d a.2] <;> rfl
 | .triple c d e,a=>by
  show (we (c.enc a.1)&&(we (d.enc a.2.1)&&(we (e.enc a.2.2)&&true)))=true
  rw[sO c a.1,sO d a.2.1,sO e a.2.2] <;> rfl
 | .option c,none=>rfl
 | .option c,some x=>sO c x
theorem FW:∀(cs:List Codec) (a:Codec.denoteAll cs),tH (Codec.encAll cs a)=true
 | [],_=>rfl
 | c::cs,a=>by
  show (we (c.enc a.1)&&tH (Codec.encAll cs a.2))=true
  rw[sO c a.1,FW cs a.2] <;> rfl
theorem yt:∀{xs:List WData} {d:WData},d∈xs->d.weight<=WData.weightAll xs
 | [],d,h=>absurd h (by simp)
 | x::r,d,h=>by
  show d.weight<=x.weight+1+WData.weightAll r
  rcases mem_cons.mp h with e | m
  ·rw[e]
   omega
  ·have z:=yt m
   omega
def toV:Value->V
 | .none=>.bE
 | .bool b=>.bl b
 | .int i _=>.int i
 | .str x _=>.str x
 | .bytes b _=>.sF b
 | .ref a=>.ref a
 | _=>.bE
def xq (A:List Addr):Value->Prop
 | .none=>True
 | .bool _=>True
 | .int _ _=>True
 | .str _ _=>True
 | .bytes _ _=>True
 | .ref a=>a∈A
 | _=>False
theorem xq.mono {A B:List Addr} (h:∀a∈A,a∈B):∀{u:Value},xq A u->xq B u:=fun {u} x=>by
 cases u with
 | ref a=>exact h a x
 | none=>trivial
 | bool b=>trivial
 | int i t=>trivial
 | str s t=>trivial
 | bytes b t=>trivial
 | _=>exact False.elim x
theorem OX {A:List Addr} {u:Value} (x:xq A u):RelV (toV u) u:=by
 cases u with
 | ref a=>rfl
 | none=>rfl
 | bool b=>rfl
 | int i t=>exact⟨t,rfl⟩
 | str s t=>exact⟨t,rfl⟩
 | bytes b t=>exact⟨t,rfl⟩
 | _=>exact False.elim x
theorem rM {A:List Addr}:∀{vs:List Value},(∀u∈vs,xq A u)->Vals (vs.map toV) vs
 | [],_=>.nil
 | u::r,h=>.cons (OX (h u (List.mem_cons_self ..))) (rM fun x hx=>h x (mem_cons_of_mem _ hx))
def o8 (h:Heap) (A:List Addr) (a:Addr):Prop:=∃vs:List Value,vs.length<=sizeLine/\(∀u∈vs,xq A u)/\
 (h.get? a=some { cls:=.type "list",data:=.seq vs.toArray }\/h.get? a=some { cls:=.type "tuple",data:=.seq vs.toArray })
theorem o8.mono {h:Heap} {A B:List Addr} {a:Addr} (k:∀a∈A,a∈B) (x:o8 h A a):o8 h B a:=by
 obtain⟨vs,h1,h2,h3⟩:=x
 exact⟨vs,h1,fun u hu=>(h2 u hu).mono k,h3⟩
theorem sr {P:Params} {h:Heap}:∀{vs:List Value} {ds:List WData},WellAll P h vs ds->vs.length=ds.length
 | _,_,.nil=>rfl
 | _,_,.cons _ b=>by
  show _+1=_+1
  rw[sr b]
theorem FX {P:Params} {h:Heap} {v:Value} {ds:List WData} (x:Well P h v (.list ds)):∃(a:Addr) (vs:List Value),v = .ref a/\h.get? a=some { cls:=.type "list",data:=.seq vs.toArray }/\WellAll P h vs ds:=by
 cases x with
 | list ho rN=>exact⟨_,_,rfl,ho,rN⟩
theorem DN {P:Params} {h:Heap} {v:Value} {ds:List WData} (x:Well P h v (.tuple ds)):∃(a:Addr) (vs:List Value),v = .ref a/\h.get? a=some { cls:=.type "tuple",data:=.seq vs.toArray }/\WellAll P h vs ds:=by
 cases x with
 | tuple ho rN=>exact⟨_,_,rfl,ho,rN⟩
theorem FY {P:Params} {h:Heap} {us:List Value} {d:WData} {ds:List WData} (x:WellAll P h us (d::ds)):∃(v:Value) (vs:List Value),us=v::vs/\Well P h v d/\WellAll P h vs ds:=by
 cases x with
 | cons a b=>exact⟨_,_,rfl,a,b⟩
theorem Kd {n:Nat} (h:n<=1048576):n<=sizeLine:=Nat.le_trans h (by decide)
section
variable {P:Params} {h:Heap}
mutual
theorem OY:∀(d:WData) (v:Value),Well P h v d->we d=true->d.weight<=1048576->∃A:List Addr,xq A v/\∀a∈A,o8 h A a
 | .none,_,x,_,_=>by
  cases x
  exact⟨[],trivial,fun a m=>absurd m (by simp)⟩
 | .bool b,_,x,_,_=>by
  cases x
  exact⟨[],trivial,fun a m=>absurd m (by simp)⟩
 | .int i,_,x,_,_=>by
  cases x
  exact⟨[],trivial,fun a m=>absurd m (by simp)⟩
 | .str s,_,x,_,_=>by
  cases x
  exact⟨[],trivial,fun a m=>absurd m (by simp)⟩
 | .bytes b,_,x,_,_=>by
  cases x
  exact⟨[],trivial,fun a m=>absurd m (by simp)⟩
 | .list ds,_,x,p,z=>by
  obtain⟨a,vs,rfl,ho,rN⟩:=FX x
  have z2:WData.weightAll ds<=1048576:=z
  obtain⟨A,h1,h2⟩:=yu ds _ rN p fun d hd=>Nat.le_trans (yt hd) z2
  have k:∀b∈A,b∈a::A:=fun b hb=>mem_cons_of_mem _ hb
  refine⟨a::A,List.mem_cons_self ..,fun b hb=>?_⟩
  rcases mem_cons.mp hb with e | m
  ·rw[e]
   exact⟨vs,Kd (by rw[sr rN];exact Nat.le_trans (W.length_le_weightAllW ds) z2),fun u hu=>(h1 u hu).mono k,.inl ho⟩
  ·exact(h2 b m).mono k
 | .tuple ds,_,x,p,z=>by
  obtain⟨a,vs,rfl,ho,rN⟩:=DN x
  have z2:WData.weightAll ds<=1048576:=z
  obtain⟨A,h1,h2⟩:=yu ds _ rN p fun d hd=>Nat.le_trans (yt hd) z2
  have k:∀b∈A,b∈a::A:=fun b hb=>mem_cons_of_mem _ hb
  refine⟨a::A,List.mem_cons_self ..,fun b hb=>?_⟩
  rcases mem_cons.mp hb with e | m
  ·rw[e]
   exact⟨vs,Kd (by rw[sr rN];exact Nat.le_trans (W.length_le_weightAllW ds) z2),fun u hu=>(h1 u hu).mono k,.inr ho⟩
  ·exact(h2 b m).mono k
 | .float _,_,_,p,_=>Bool.noConfusion (show false=true from p)
 | .dict _,_,_,p,_=>Bool.noConfusion (show false=true from p)
 | .bytearray _,_,_,p,_=>Bool.noConfusion (show false=true from p)
 | .set _,_,_,p,_=>Bool.noConfusion (show false=true from p)
 | .frozenset _,_,_,p,_=>Bool.noConfusion (show false=true from p)
 | .obj _ _,_,_,p,_=>Bool.noConfusion (show false=true from p)
theorem yu:∀(ds:List WData) (vs:List Value),WellAll P h vs ds->tH ds=true->(∀d∈ds,d.weight<=1048576)->∃A:List Addr,(∀u∈vs,xq A u)/\∀a∈A,o8 h A a
 | [],_,x,_,_=>by
  cases x
  exact⟨[],fun u m=>absurd m (by simp),fun a m=>absurd m (by simp)⟩
 | d::ds,_,x,p,z=>by
  obtain⟨v,vs,rfl,x1,x2⟩:=FY x
  have q:we d=true/\tH ds=true:=Bool.and_eq_true_iff.mp p
  obtain⟨A,a1,a2⟩:=OY d v x1 q.1 (z d (List.mem_cons_self ..))
  obtain⟨B,b1,b2⟩:=yu ds vs x2 q.2 fun e he=>z e (mem_cons_of_mem _ he)
  have kA:∀b∈A,b∈A++B:=fun b hb=>mem_append.mpr (.inl hb)
  have kB:∀b∈B,b∈A++B:=fun b hb=>mem_append.mpr (.inr hb)
  refine⟨A++B,fun u hu=>?_,fun b hb=>?_⟩
  ·rcases mem_cons.mp hu with e | m
   ·rw[e]
    exact a1.mono kA
   ·exact(b1 u m).mono kB
  ·rcases mem_append.mp hb with m | m
   ·exact(a2 b m).mono kA
   ·exact(b2 b m).mono kB
end
end
def Ls (o:Obj):Option HO:=match o.data with
 | .seq vs _=>if (o.cls==Value.type "list")=true then some (.qc o (.lst (vs.toList.map toV))) else some (.qc o (.tup (vs.toList.map toV)))
 | _=>none
def l0 (K:W.Frag) (h:Heap) (A:List Addr):Hp:=fun b=>if b∈A then (if (K.lookup b).isNone=true then (h.get? b).bind Ls else none) else none
def DO (H:Hp):Prop:=∀b,H b=none\/∃o u,H b=some (.qc o u)
theorem HF (vs:List Value):Ls { cls:=.type "list",data:=.seq vs.toArray }=some (.qc { cls:=.type "list",data:=.seq vs.toArray } (.lst (vs.map toV))):=by
 show (if (Value.type "list" == Value.type "list")=true then some (HO.qc { cls:=.type "list",data:=.seq vs.toArray } (.lst (vs.toArray.toList.map toV))) else some (HO.qc { cls:=.type "list",data:=.seq vs.toArray } (.tup (vs.toArray.toList.map toV))))=_
 rw[if_pos (beq_self_eq_true _)]
theorem HG (vs:List Value):Ls { cls:=.type "tuple",data:=.seq vs.toArray }=some (.qc { cls:=.type "tuple",data:=.seq vs.toArray } (.tup (vs.map toV))):=by
 show (if (Value.type "tuple" == Value.type "list")=true then some (HO.qc { cls:=.type "tuple",data:=.seq vs.toArray } (.lst (vs.toArray.toList.map toV))) else some (HO.qc { cls:=.type "tuple",data:=.seq vs.toArray } (.tup (vs.toArray.toList.map toV))))=_
 rw[if_neg (by decide)]
section
variable {P:Program} {w:World} {K:W.Frag} {h:Heap} {A:List Addr}
theorem Bv {b:Addr} {o:Obj} (hb:b∈A) (hk:K.lookup b=none) (e:h.get? b=some o):l0 K h A b=Ls o:=by
 unfold l0
 rw[if_pos hb,hk,if_pos (show (none:Option Obj).isNone=true from rfl),e] <;> rfl
theorem RJ {b:Addr} {u:HO} (q:l0 K h A b=some u):b∈A/\K.lookup b=none:=by
 unfold l0 at q
 by_cases hb:b∈A
 ·rw[if_pos hb] at q
  cases hk:K.lookup b with
  | none=>exact⟨hb,rfl⟩
  | some o=>
   rw[hk,if_neg (by simp)] at q
   cases q
 ·rw[if_neg hb] at q
  cases q
theorem Bw (ar:∀a∈A,o8 h A a) {b:Addr} {u:HO} (q:l0 K h A b=some u):K.lookup b=none/\∃vs:List Value,vs.length<=sizeLine/\(∀u∈vs,xq A u)/\
    ((h.get? b=some { cls:=.type "list",data:=.seq vs.toArray }/\u = .qc { cls:=.type "list",data:=.seq vs.toArray } (.lst (vs.map toV)))\/
     (h.get? b=some { cls:=.type "tuple",data:=.seq vs.toArray }/\u = .qc { cls:=.type "tuple",data:=.seq vs.toArray } (.tup (vs.map toV)))):=by
  obtain⟨hb,hk⟩:=RJ q
  obtain⟨vs,h1,h2,h3⟩:=ar b hb
  refine⟨hk,vs,h1,h2,?_⟩
  rcases h3 with e | e
  · rw[Bv hb hk e,HF] at q
    exact .inl ⟨e,(Option.some.inj q).symm⟩
  · rw[Bv hb hk e,HG] at q
    exact .inr ⟨e,(Option.some.inj q).symm⟩
theorem MX (ar:∀a∈A,o8 h A a):DO (l0 K h A):=fun b=>by
 cases q:l0 K h A b with
 | none=>exact .inl rfl
 | some u=>
  obtain⟨_,vs,_,_,⟨_,e⟩|⟨_,e⟩⟩:=Bw ar q
  ·exact .inr ⟨_,_,by rw[e]⟩
  ·exact .inr ⟨_,_,by rw[e]⟩
theorem RK (ar:∀a∈A,o8 h A a):ir P w (l0 K h A) h:=fun b u q=>by
 obtain⟨_,vs,h1,h2,⟨e,rfl⟩|⟨e,rfl⟩⟩:=Bw ar q
 ·exact⟨e,by rw[length_map];exact h1,vs,_,rM h2,e⟩
 ·exact⟨e,by rw[length_map];exact h1,vs,rM h2,_,e,rfl,_,rfl⟩
theorem Bx {c c':Value} {vs us:List Value} (e:(some { cls:=c,data:=.seq vs.toArray }:Option Obj)=some { cls:=c',data:=.seq us.toArray }):c=c'/\vs=us:=by
 have e1:=Option.some.inj e
 have e2:c=c':=congrArg Obj.cls e1
 have e3:Data.seq vs.toArray=Data.seq us.toArray:=congrArg Obj.data e1
 injection e3 with e4
 refine⟨e2,?_⟩
 have e5:=congrArg Array.toList e4
 simpa using e5
theorem argL (KX:K.In h) (ar:∀a∈A,o8 h A a) {a:Addr} {vs:List Value} (ha:a∈A) (e:h.get? a=some { cls:=.type "list",data:=.seq vs.toArray }):(∀u∈vs,xq A u)/\aE K (l0 K h A) a (vs.map toV):=by
 obtain⟨us,h1,h2,h3⟩:=ar a ha
 have hu:us=vs:=by
  rcases h3 with q | q
  ·rw[e] at q
   exact(Bx q).2.symm
  ·rw[e] at q
   exact absurd (Value.type.inj (Bx q).1) (by decide)
 subst hu
 refine⟨h2,?_⟩
 cases hk:K.lookup a with
 | none=>exact .inl (.inr ⟨_,by rw[Bv ha hk e,HF]⟩)
 | some o=>
  have e2:=KX a o hk
  rw[e] at e2
  obtain rfl:=Option.some.inj e2
  exact .inr ⟨_,us.toArray,_,hk,rfl,rfl,rfl,by rw[size_toArray];exact h1,by simpa using rM h2⟩
theorem argT (KX:K.In h) (ar:∀a∈A,o8 h A a) {a:Addr} {vs:List Value} (ha:a∈A) (e:h.get? a=some { cls:=.type "tuple",data:=.seq vs.toArray }):(∀u∈vs,xq A u)/\mY K (l0 K h A) a (vs.map toV):=by
 obtain⟨us,h1,h2,h3⟩:=ar a ha
 have hu:us=vs:=by
  rcases h3 with q | q
  ·rw[e] at q
   exact absurd (Value.type.inj (Bx q).1) (by decide)
  ·rw[e] at q
   exact(Bx q).2.symm
 subst hu
 refine⟨h2,?_⟩
 cases hk:K.lookup a with
 | none=>exact .inl (.inr ⟨_,by rw[Bv ha hk e,HG]⟩)
 | some o=>
  have e2:=KX a o hk
  rw[e] at e2
  obtain rfl:=Option.some.inj e2
  exact .inr ⟨_,us.toArray,_,hk,rfl,rfl,by rw[size_toArray];exact h1,by simpa using rM h2⟩
mutual
theorem S5 {Pm:Params} (KX:K.In h) (ar:∀a∈A,o8 h A a):∀(d:WData) (v:Value),Well Pm h v d->we d=true->xq A v->Dw K (l0 K h A) (toV v) d
 | .none,_,x,_,_=>by
  cases x
  exact .bE
 | .bool b,_,x,_,_=>by
  cases x
  exact .bl b
 | .int i,_,x,_,_=>by
  cases x
  exact .int i
 | .str s,_,x,_,_=>by
  cases x
  exact .str s
 | .bytes b,_,x,_,_=>by
  cases x
  have z:=Dw.sF (K:=K) (H:=l0 K h A) b.toArray
  exact z
 | .list ds,_,x,p,hu=>by
  obtain⟨a,vs,rfl,ho,rN⟩:=FX x
  obtain⟨h2,hs⟩:=argL KX ar hu ho
  exact .lst hs (DP KX ar ds _ rN p h2)
 | .tuple ds,_,x,p,hu=>by
  obtain⟨a,vs,rfl,ho,rN⟩:=DN x
  obtain⟨h2,hs⟩:=argT KX ar hu ho
  exact .tup hs (DP KX ar ds _ rN p h2)
 | .float _,_,_,p,_=>Bool.noConfusion (show false=true from p)
 | .dict _,_,_,p,_=>Bool.noConfusion (show false=true from p)
 | .bytearray _,_,_,p,_=>Bool.noConfusion (show false=true from p)
 | .set _,_,_,p,_=>Bool.noConfusion (show false=true from p)
 | .frozenset _,_,_,p,_=>Bool.noConfusion (show false=true from p)
 | .obj _ _,_,_,p,_=>Bool.noConfusion (show false=true from p)
theorem DP {Pm:Params} (KX:K.In h) (ar:∀a∈A,o8 h A a):∀(ds:List WData) (vs:List Value),WellAll Pm h vs ds->tH ds=true->(∀u∈vs,xq A u)->o7 K (l0 K h A) (vs.map toV) ds
 | [],_,x,_,_=>by
  cases x
  exact .nil
 | d::ds,_,x,p,hu=>by
  obtain⟨v,vs,rfl,x1,x2⟩:=FY x
  have q:we d=true/\tH ds=true:=Bool.and_eq_true_iff.mp p
  exact .cons (S5 KX ar d v x1 q.1 (hu _ (List.mem_cons_self ..))) (DP KX ar ds vs x2 q.2 fun u m=>hu u (mem_cons_of_mem _ m))
end
end
theorem MY {P:Program} {w:World} {K:W.Frag} {mg mb:Str->Option Value} {CX:zX} {k:Nat} {fa:Addr} {fd:FuncData} {ps:List Str} {sp:Sp} {s₁:Shared} {vals:List Value} {ds:List WData} {R:W.WRecords} {cl:Str->Option Addr} {d0:WData}
  (KX:K.In s₁.heap) (Ke:s₁.heap.Ns mainGlobals mg) (hb:s₁.heap.Ns builtinsNs mb) (hbb:∀x:Str,x ≠ "__name__"->mb x=bootBuiltins x) (hlim:s₁.heap.NoLimit) (hg:s₁.gens=#[])
  (FZ:WellAll w.params s₁.heap vals ds) (gS:tH ds=true) (hwt:∀d∈ds,d.weight<=1048576) (hr:gU k callerA)
  (F:∀base:Heap,K.In base->base.Ns mainGlobals mg->aY P w K mg base CX k fa fd ps sp) (hbind:∀(s:Shared) (us:List Value),us.length=ps.length->BindsTo s fd ⟨us,[]⟩ (ps.zip us)) (hlen:ds.length=ps.length)
  (Ca:∀(H:Hp) (xs:List V),DO H->o7 K H xs ds->sp xs H (fun v H'=>Dw K H' v d0) fun _ _ _=>False)
  (MZ:∀H e s',CX [] H s₁ (fun _ _ _=>False) e s'->False) :
  codeAny (model P w) callerA (.call (.ref fa) ⟨vals,[]⟩) (fun r s'=>∃u as,r = .ok (.ret u)/\ReadsW R cl s'.heap u d0 as/\OldK s₁.heap s'.heap/\s'.os=s₁.os/\AllBare s'.gens) s₁:=by
 obtain⟨A,ho,ar⟩:=yu ds vals FZ gS hwt
 have hO:DO (l0 K s₁.heap A):=MX ar
 have a9:ir P w (l0 K s₁.heap A) s₁.heap:=RK ar
 have hS:=DP KX ar ds vals FZ gS ho
 have hV:=rM ho
 have hK:∀b u,l0 K s₁.heap A b=some u->K.lookup b=none:=fun b u q=>(Bw ar q).1
 have J1:∀{b:Addr} {o:Obj} {es:Array DictEntry} {ep:Nat},s₁.heap.get? b=some o->o.data = .dict es ep->l0 K s₁.heap A b=none:=fun {b o es ep} e d=>by
  cases q:l0 K s₁.heap A b with
  | none=>rfl
  | some u=>
   obtain⟨_,vs,_,_,⟨e2,_⟩|⟨e2,_⟩⟩:=Bw ar q
   ·rw[e2] at e
    cases e
    have d':Data.seq vs.toArray _=Data.dict es ep:=d
    cases d'
   ·rw[e2] at e
    cases e
    have d':Data.seq vs.toArray _=Data.dict es ep:=d
    cases d'
 generalize l0 K s₁.heap A=H at hO a9 hS hK J1
 have Kf:∀{b:Addr} {o:Obj},s₁.heap.get? b=some o->H b=none->(yj s₁.heap H).get? b=some o:=fun e n=>OF e n
 have QN:∀{b:Addr} {m:Str->Option Value},s₁.heap.Ns b m->(yj s₁.heap H).Ns b m:=fun {b m} ⟨o,es,ep,e,d,r⟩=>⟨o,es,ep,Kf e (J1 e d),d,r⟩
 have nK:∀b o,K.lookup b=some o->H b=none:=fun b o e=>by
  cases q:H b with
  | none=>rfl
  | some u=>
   rw[hK b u q] at e
   cases e
 have hKb:K.In (yj s₁.heap H):=fun b o e=>Kf (KX b o e) (nK b o e)
 have hM:Mod K mg (yj s₁.heap H):=⟨hKb,QN Ke,⟨mb,QN hb,hbb⟩,let ⟨mc,h1,h2⟩:=hlim;⟨mc,QN h1,h2⟩⟩
 have e0:CK P w K mg (yj s₁.heap H) callerA [] s₁ H:=⟨rfl,hM,fun b o e=>Ry e,Nat.le_of_eq (Ml _ _),trivial,fun b hb=>absurd (show b∈([]:List Addr) from hb) (by simp),a9,.of_eq hg⟩
 have hl:vals.length=ps.length:=by rw[sr FZ];exact hlen
 refine codeAny_mono ((F _ hKb (QN Ke)).run callerA [] s₁ H ⟨vals,[]⟩ vals (vals.map toV) _ _ hr e0 (hbind s₁ vals hl) hV (Ca H _ hO hS)) fun r s' x=>?_
 cases r with
 | error e=>exact(MZ H e s' x).elim
 | ok fl=>
  cases fl with
  | next=>exact False.elim x
  | brk=>exact False.elim x
  | cont=>exact False.elim x
  | ret u=>
   obtain⟨v,H',os,bare,un,S6,r',q⟩:=x
   have kept:∀b o,s₁.heap.get? b=some o->s'.heap.get? b=some o:=fun b o e=>by
    cases q2:H b with
    | none=>exact un.keep b o e q2 (by intro z;exact absurd (show b∈([]:List Addr) from z) (by simp)) (by simp)
    | some u2=>
     rcases hO b with z | ⟨ob,u3,z⟩
     ·rw[q2] at z
      cases z
     ·have z2:=un.yi b ob _ z
      obtain⟨e1,_⟩:=a9 b _ z
      obtain⟨e2,_⟩:=S6 b _ z2
      rw[e] at e1
      cases e1
      exact e2
   have KX':K.In s'.heap:=fun b o e=>kept b o (KX b o e)
   obtain⟨as,hrd⟩:=Dw.reads (R:=R) (cl:=cl) S6 KX' d0 v u q r'
   exact⟨u,as,rfl,hrd,OldK.of_keep kept,os,bare⟩
theorem EY {ds:List WData} (h:WData.layableAll ds=true):∀d∈ds,d.weight<=1048576:=fun d hd=>
 (W.layableW_iff.mp (all_eq_true.mp h d hd)).2.2
theorem DQ:∀(cs:List Codec) (a:Codec.denoteAll cs),(Codec.encAll cs a).length=cs.length
 | [],_=>rfl
 | c::cs,a=>by
  show (Codec.encAll cs a.2).length+1=cs.length+1
  rw[DQ cs a.2]
theorem M0 {r:OpenSpec} {k:Nat} {q:Program} {loose:List Str} {XP:(Str->Option Value)->Heap->Prop} {YP:World->Heap->Prop} {d:DefRec} {K:Params->W.Frag} {CX:World->zX} {ps:List Str} {sp:World->Sp}
  (Lu:r.wellSaid=true) (hdf:d.params.defaults=[]) (hlen:r.args.length=ps.length) (hr:gU k callerA)
  (hY:∀(w:World) (h:Heap),YP w h->(K w.params).In h)
  (F:∀(w:World) (mg:Str->Option Value) (fa:Addr) (h:Heap),YP w h->(K w.params).In h->h.Ns mainGlobals mg->mg d.name=some (.ref fa)->
   ∃fd:FuncData,(∀(s:Shared) (us:List Value),us.length=ps.length->BindsTo s fd ⟨us,[]⟩ (ps.zip us))/\
    ∀base:Heap,(K w.params).In base->base.Ns mainGlobals mg->aY r.prog w (K w.params) mg base (CX w) k fa fd ps (sp w))
  (Ca:∀(w:World) (H:Hp) (xs:List V) (a:Codec.denoteAll r.args),DO H->Codec.withinAll r.args a=true->Codec.app r.args r.asked a=true->o7 (K w.params) H xs (Codec.encAll r.args a)->
   sp w xs H (fun v H'=>Dw (K w.params) H' v (r.ret.enc (Codec.app r.args r.f a))) fun _ _ _=>False)
  (MZ:∀(w:World) (H:Hp) (s:Shared) (e:Value) (s':Shared),CX w [] H s (fun _ _ _=>False) e s'->False) :
  W.WalkOS q loose XP YP r d [] (fun f vs=>PySem.call f vs):=by
 intro w pJ s₁ mg mb G Y fa o pm cd doc dV kV ho hd wc hD M1 hg args vals as hpre hlay hrd FZ hlo
 obtain⟨a,e1,e2⟩:=W.os_pre_some hpre
 obtain⟨e3,QO⟩:=Codec.encAll_of_decAll r.args args a e1
 subst e3
 have KX:=hY w _ Y
 obtain⟨fd,hb,hF⟩:=F w mg fa _ Y KX G.T.g M1
 refine W.enter_call (codeAny_mono (MY (R:=[]) (cl:=classAt pJ.heap) (d0:=r.ret.enc (Codec.app r.args r.f a)) KX G.T.g G.T.b G.T.builtins G.T.nolimit hg FZ (FW _ _) (EY hlay) hr hF hb (by rw[DQ];exact hlen)
  (fun H xs hO hS=>Ca w H xs a hO QO e2 hS) fun H e s'=>MZ w H s₁ e s') fun r' s' hq=>?_)
 obtain⟨u,as',rfl,h1,h2,h3,h4⟩:=hq
 exact⟨.inl ⟨u,_,as',rfl,fun _=>rfl,h1,(OpenSpec.post_iff Lu QO _ _).mpr rfl,fun z=>Bool.noConfusion (show false=true from z)⟩,h2,h3,h4⟩
theorem Lv {r:OpenSpec} {k:Nat} {q:Program} {loose:List Str} {XP:(Str->Option Value)->Heap->Prop} {YP:World->Heap->Prop} {d:DefRec} {K:Params->W.Frag} {CX:zX} {ps:List Str} {sp:W.Frag->Sp}
  (Lu:r.wellSaid=true) (hdf:d.params.defaults=[]) (hlen:r.args.length=ps.length) (hr:gU k callerA)
  (hY:∀(w:World) (h:Heap),YP w h->(K w.params).In h)
  (F:∀(w:World) (mg:Str->Option Value) (fa:Addr) (h:Heap),YP w h->(K w.params).In h->h.Ns mainGlobals mg->mg d.name=some (.ref fa)->
   ∃fd:FuncData,(∀(s:Shared) (us:List Value),us.length=ps.length->BindsTo s fd ⟨us,[]⟩ (ps.zip us))/\
    ∀base:Heap,(K w.params).In base->base.Ns mainGlobals mg->aY r.prog w (K w.params) mg base CX k fa fd ps (sp (K w.params)))
  (Ca:∀(K:W.Frag) (H:Hp) (xs:List V) (a:Codec.denoteAll r.args),DO H->Codec.withinAll r.args a=true->Codec.app r.args r.asked a=true->o7 K H xs (Codec.encAll r.args a)->
   sp K xs H (fun v H'=>Dw K H' v (r.ret.enc (Codec.app r.args r.f a))) fun _ _ _=>False)
  (MZ:∀(H:Hp) (s:Shared) (e:Value) (s':Shared),CX [] H s (fun _ _ _=>False) e s'->False) :
  W.WalkOS q loose XP YP r d [] (fun f vs=>PySem.call f vs):=
 M0 (K:=K) (CX:=fun _=>CX) (sp:=fun w=>sp (K w.params)) Lu hdf hlen hr hY F (fun w H xs a h1 h2 h3 h4=>Ca (K w.params) H xs a h1 h2 h3 h4) fun _ H s e s'=>MZ H s e s'
end L2
end
namespace WS
open Vbedac
def d5 (P:Int->Prop):Option Int->Prop
 | none=>∀w,¬P w
 | some x=>P x/\∀w,P w->x<=w
theorem d5.uniq {P:Int->Prop}:∀{a b:Option Int},d5 P a->d5 P b->a=b
 | none,none,_,_=>rfl
 | none,some _,h,h'=>absurd h'.1 (h _)
 | some _,none,h,h'=>absurd h.1 (h' _)
 | some x,some y,h,h'=>by
  have h1:=h.2 y h'.1
  have h2:=h'.2 x h.1
  exact congrArg some (by omega)
theorem d5.iff {P Q:Int->Prop} {a:Option Int} (h:d5 P a) (e:∀w,P w↔Q w):d5 Q a:=by
 have:P=Q:=funext fun w=>propext (e w)
 rw[<- this];exact h
theorem d5.low {P Q:Int->Prop} (h1:∀w,P w->Q w) (h2:∀w,Q w->∃w',P w'/\w'<=w):∀{a:Option Int},d5 P a->d5 Q a
 | none,h=>fun w hw=>by
  obtain⟨w',hp,_⟩:=h2 w hw
  exact h w' hp
 | some x,h=>⟨h1 x h.1,fun w hw=>by
  obtain⟨w',hp,hl⟩:=h2 w hw
  have:=h.2 w' hp
  omega⟩
theorem Ac {P Q:Int->Prop}:∀{a b:Option Int},d5 P a->d5 Q b->d5 (fun w=>P w\/Q w) (lesser a b)
 | none,none,h,h'=>fun w hw=>hw.elim (h w) (h' w)
 | none,some y,h,h'=>⟨.inr h'.1,fun w hw=>hw.elim (fun q=>absurd q (h w)) (h'.2 w)⟩
 | some x,none,h,h'=>⟨.inl h.1,fun w hw=>hw.elim (h.2 w) (fun q=>absurd q (h' w))⟩
 | some x,some y,h,h'=>by
  show d5 _ (if y<x then some y else some x)
  by_cases c:y<x
  ·rw[if_pos c]
   exact⟨.inr h'.1,fun w hw=>hw.elim (fun q=>by have:=h.2 w q;omega) (h'.2 w)⟩
  ·rw[if_neg c]
   exact⟨.inl h.1,fun w hw=>hw.elim (h.2 w) (fun q=>by have:=h'.2 w q;omega)⟩
theorem Lw {P:Int->Prop} {w:Int}:∀{a:Option Int},d5 P a->d5 (fun v=>∃x,P x/\v=x+w) (plus a w)
 | none,h=>fun v ⟨x,hx,_⟩=>h x hx
 | some y,h=>⟨⟨y,h.1,rfl⟩,fun v ⟨x,hx,e⟩=>by
  have:=h.2 x hx
  show y+w<=v
  omega⟩
theorem DR (a:Option Int):d5 (fun v=>a=some v) a:=by
 cases a with
 | none=>intro w h;cases h
 | some x=>exact⟨rfl,fun w h=>by cases h;exact Int.le_refl _⟩
theorem sP {n j:Nat} {f:Nat->Option Int}:entry ((List.range n).map f) j=if j<n then f j else none:=by
 unfold entry
 rw[getD_eq_getElem?_getD,getElem?_map]
 by_cases h:j<n
 ·rw[if_pos h,getElem?_eq_getElem (by simpa using h)];simp
 ·rw[if_neg h,List.getElem?_eq_none (by simpa using h)];rfl
theorem l4 {r:Row} {j:Nat} (h:r.length<=j):entry r j=none:=by
 unfold entry
 rw[getD_eq_getElem?_getD,List.getElem?_eq_none h];rfl
theorem uw {r:Row} {j:Nat} {x:Int} (h:entry r j=some x):j<r.length:=by
 by_cases c:j<r.length
 ·exact c
 ·rw[l4 (by omega)] at h;cases h
theorem entry_get {r:Row} {j:Nat} {x:Option Int} (h:r[j]?=some x):entry r j=x:=by
 unfold entry
 rw[getD_eq_getElem?_getD,h];rfl
theorem pM {r:Row} {j:Nat} (h:j<r.length):r[j]?=some (entry r j):=by
 unfold entry
 rw[getD_eq_getElem?_getD,getElem?_eq_getElem h];rfl
theorem uO {r s:Row} (hl:r.length=s.length) (h:∀j,j<r.length->entry r j=entry s j):r=s:=by
 apply List.ext_getElem?
 intro j
 by_cases c:j<r.length
 ·rw[pM c,pM (by omega),h j c]
 ·rw[List.getElem?_eq_none (by omega),List.getElem?_eq_none (by omega)]
theorem M3 {r s:Row} (hl:r.length=s.length) (j:Nat):entry (List.zipWith lesser r s) j=lesser (entry r j) (entry s j):=by
 by_cases c:j<r.length
 ·have e1:=pM c
  have e2:=pM (r:=s) (j:=j) (by omega)
  apply entry_get
  rw[List.getElem?_zipWith,e1,e2]
 ·rw[l4 (by simp;omega),l4 (by omega),l4 (by omega)];rfl
theorem kc {r:Row} {i j:Nat} {x:Option Int} (h:i<r.length):entry (r.set i x) j=if j=i then x else entry r j:=by
 unfold entry
 rw[getD_eq_getElem?_getD,getD_eq_getElem?_getD,List.getElem?_set]
 by_cases c:i=j
 ·subst c;simp[h]
 ·rw[if_neg c,if_neg (fun q=>c q.symm)]
theorem nT {n:Nat} {es:List Edge} {r:Row}:(further n es r).length=n:=by simp[further]
theorem dP {n i:Nat}:(only n i).length=n:=by simp[only]
theorem nU {n i j:Nat}:entry (only n i) j=if j<n/\j=i then some 0 else none:=by
 unfold only
 rw[sP]
 by_cases h:j<n
 ·by_cases c:j=i
  ·rw[if_pos h,if_pos c,if_pos ⟨h,c⟩]
  ·rw[if_pos h,if_neg c,if_neg (fun q=>c q.2)]
 ·rw[if_neg h,if_neg (fun q=>h q.1)]
inductive Walk (es:List Edge):Nat->Nat->Nat->Int->Prop
 | nil (i:Nat):Walk es i i 0 0
 | snoc {i k:Nat} {w:Int} {e:Edge}:Walk es i e.src k w->e∈es->Walk es i e.dst (k+1) (w+e.w)
theorem Walk.single {es:List Edge} {e:Edge} (h:e∈es):Walk es e.src e.dst 1 e.w:=by
 have:=Walk.snoc (Walk.nil (es:=es) e.src) h
 rw[Int.zero_add] at this
 exact this
theorem Walk.append {es:List Edge} {i j k a b:Nat} {v w:Int} (h:Walk es i j a v) (h':Walk es j k b w):Walk es i k (a+b) (v+w):=by
 induction h' with
 | nil=>rw[Int.add_zero];exact h
 | snoc _ he ih=>
  have:=Walk.snoc ih he
  rw[Int.add_assoc] at this
  exact this
theorem Walk.cons {es:List Edge} {e:Edge} {j k:Nat} {w:Int} (he:e∈es) (h:Walk es e.dst j k w):Walk es e.src j (k+1) (e.w+w):=by
 have:=(Walk.single he).append h
 rw[Nat.add_comm] at this
 exact this
theorem Walk.head {es:List Edge} {i j k:Nat} {w:Int} (h:Walk es i j k w):(k=0/\i=j/\w=0)\/∃e k' w',e∈es/\e.src=i/\Walk es e.dst j k' w'/\k=k' + 1/\w=e.w+w':=by
 induction h with
 | nil=>exact .inl ⟨rfl,rfl,rfl⟩
 | @snoc k w f h0 hf ih=>
  rcases ih with ⟨rfl,e2,rfl⟩|⟨e,k',w',he,hi,hw,rfl,rfl⟩
  ·exact .inr ⟨f,0,0,hf,e2.symm,Walk.nil _,rfl,by omega⟩
  ·exact .inr ⟨e,k' + 1,w' + f.w,he,hi,Walk.snoc hw hf,rfl,by omega⟩
theorem Walk.mono {es fs:List Edge} (h:∀e,e∈es->e∈fs) {i j k:Nat} {w:Int} (hw:Walk es i j k w):Walk fs i j k w:=by
 induction hw with
 | nil=>exact Walk.nil _
 | snoc _ he ih=>exact Walk.snoc ih (h _ he)
theorem Walk.turned {es:List Edge} {i j k:Nat} {w:Int} (h:Walk es i j k w):Walk (es.map turned) j i k w:=by
 induction h with
 | nil=>exact Walk.nil _
 | @snoc k w e h0 he ih=>
  have h1:Vbedac.turned e∈es.map Vbedac.turned:=List.mem_map_of_mem he
  have:=Walk.cons (e:=Vbedac.turned e) h1 ih
  rw[Int.add_comm] at this
  exact this
theorem Gy (es:List Edge):(es.map turned).map turned=es:=by
 rw[map_map]
 have:turned∘turned=id:=funext fun e=>rfl
 rw[this,List.map_id]
theorem su {es:List Edge} {i j k:Nat} {w:Int}:Walk (es.map turned) j i k w↔Walk es i j k w:=
 ⟨fun h=>by have:=h.turned;rw[Gy] at this;exact this,Walk.turned⟩
def bB (n:Nat) (es:List Edge):Prop:=∀e,e∈es->e.src<n/\e.dst<n
theorem bB.turned {n:Nat} {es:List Edge} (h:bB n es):bB n (es.map turned):=by
 intro e he
 obtain⟨f,hf,rfl⟩:=mem_map.mp he
 exact⟨(h f hf).2,(h f hf).1⟩
theorem Walk.lt {n:Nat} {es:List Edge} (hE:bB n es) {i j k:Nat} {w:Int} (h:Walk es i j k w) (hi:i<n):j<n:=by
 cases h with
 | nil=>exact hi
 | snoc _ he=>exact(hE _ he).2
theorem yw {r:Row} {j:Nat}:∀(es:List Edge) {P:Int->Prop} {m:Option Int},d5 P m->
  d5 (fun w=>P w\/∃e,e∈es/\e.dst=j/\∃x,entry r e.src=some x/\w=x+e.w)
   (es.foldl (fun m e=>if e.dst=j then lesser m (plus (entry r e.src) e.w) else m) m)
 | [],P,m,h=>h.iff fun w=>⟨.inl,fun q=>q.elim id (fun ⟨e,he,_⟩=>absurd he (by simp))⟩
 | e::es,P,m,h=>by
  rw[List.foldl_cons]
  by_cases c:e.dst=j
  ·rw[if_pos c]
   have h2:=Ac h (Lw (w:=e.w) (DR (entry r e.src)))
   refine(yw es h2).iff fun w=>⟨fun q=>?_,fun q=>?_⟩
   ·rcases q with (q | ⟨x,hx,rfl⟩) | ⟨f,hf,q⟩
    ·exact .inl q
    ·exact .inr ⟨e,by simp,c,x,hx,rfl⟩
    ·exact .inr ⟨f,by simp[hf],q⟩
   ·rcases q with q | ⟨f,hf,hd,x,hx,rfl⟩
    ·exact .inl (.inl q)
    ·rcases mem_cons.mp hf with rfl | hf
     ·exact .inl (.inr ⟨x,hx,rfl⟩)
     ·exact .inr ⟨f,hf,hd,x,hx,rfl⟩
  ·rw[if_neg c]
   refine(yw es h).iff fun w=>⟨fun q=>?_,fun q=>?_⟩
   ·rcases q with q | ⟨f,hf,q⟩
    ·exact .inl q
    ·exact .inr ⟨f,by simp[hf],q⟩
   ·rcases q with q | ⟨f,hf,hd,q⟩
    ·exact .inl q
    ·rcases mem_cons.mp hf with rfl | hf
     ·exact absurd hd c
     ·exact .inr ⟨f,hf,hd,q⟩
theorem ze {n:Nat} {es:List Edge} {r:Row} {j:Nat} (hj:j<n) :
  d5 (fun w=>∃e,e∈es/\e.dst=j/\∃x,entry r e.src=some x/\w=x+e.w) (entry (further n es r) j):=by
 unfold further
 rw[sP,if_pos hj]
 exact(yw es (P:=fun _=>False) (m:=none) (fun _ h=>h)).iff fun w=>⟨fun q=>q.elim False.elim id,.inr⟩
theorem xr {n:Nat} {es:List Edge} {i:Nat}:∀k,(exactly n es i k).length=n
 | 0=>dP
 | _+1=>nT
theorem fH {n:Nat} {es:List Edge} (hE:bB n es) {i:Nat} (hi:i<n):∀(k j:Nat),d5 (fun w=>Walk es i j k w) (entry (exactly n es i k) j)
 | 0,j=>by
  show d5 _ (entry (only n i) j)
  rw[nU]
  by_cases c:j=i
  ·subst c
   rw[if_pos ⟨hi,rfl⟩]
   exact⟨Walk.nil _,fun w h=>by cases h;exact Int.le_refl _⟩
  ·rw[if_neg fun q=>c q.2]
   intro w h
   cases h
   exact c rfl
 | k+1,j=>by
  by_cases hj:j<n
  ·refine(ze hj).low (fun w q=>?_) (fun w h=>?_)
   ·obtain⟨e,he,hd,x,hx,hw⟩:=q
    have:=fH hE hi k e.src
    rw[hx] at this
    subst hd hw
    exact Walk.snoc this.1 he
   ·cases h with
    | @snoc _ w e h he=>
     have:=fH hE hi k e.src
     cases c:entry (exactly n es i k) e.src with
     | none=>rw[c] at this;exact absurd h (this _)
     | some x=>
      rw[c] at this
      exact⟨x+e.w,⟨e,he,rfl,x,c,rfl⟩,by have:=this.2 _ h;omega⟩
  ·rw[l4 (by rw[xr];omega)]
   intro w h
   exact hj (h.lt hE hi)
def oM (es:List Edge) (r:Row) (k j:Nat) (w:Int):Prop:=∃i x k' v,k'<=k/\entry r i=some x/\Walk es i j k' v/\w=x+v
def nV (es:List Edge) (r:Row) (j:Nat) (w:Int):Prop:=∃k,oM es r k j w
theorem oM.any {es:List Edge} {r:Row} {k j:Nat} {w:Int} (h:oM es r k j w):nV es r j w:=⟨k,h⟩
theorem oM.mono {es:List Edge} {r:Row} {k l j:Nat} {w:Int} (DS:k<=l) (h:oM es r k j w):oM es r l j w:=by
 obtain⟨i,x,k',v,h1,h2⟩:=h
 exact⟨i,x,k',v,Nat.le_trans h1 DS,h2⟩
theorem oM.snoc {es:List Edge} {r:Row} {k:Nat} {w:Int} {e:Edge} (h:oM es r k e.src w) (he:e∈es):oM es r (k+1) e.dst (w+e.w):=by
 obtain⟨i,x,k',v,h1,h2,h3,rfl⟩:=h
 exact⟨i,x,k' + 1,v+e.w,by omega,h2,Walk.snoc h3 he,by omega⟩
def qh (n:Nat) (es:List Edge) (r0:Row):Nat->Row
 | 0=>r0
 | k+1=>List.zipWith lesser (qh n es r0 k) (further n es (qh n es r0 k))
theorem iw (n:Nat) (es:List Edge) (i:Nat):∀k,within_ n es i k=qh n es (only n i) k
 | 0=>rfl
 | k+1=>by show List.zipWith lesser _ _=List.zipWith lesser _ _;rw[iw n es i k]
theorem tI (n:Nat) (es:List Edge):∀k,lowered n es k=qh n es ((events n).map fun _=>some 0) k
 | 0=>rfl
 | k+1=>by show List.zipWith lesser _ _=List.zipWith lesser _ _;rw[tI n es k]
theorem eE {n:Nat} {es:List Edge} {r0:Row} (h:r0.length=n):∀k,(qh n es r0 k).length=n
 | 0=>h
 | k+1=>by
  show (List.zipWith lesser _ _).length=n
  rw[List.length_zipWith,eE h k,nT];omega
theorem mx {n:Nat} {es:List Edge} (hE:bB n es) {r0:Row} (h0:r0.length=n):∀(k j:Nat),d5 (oM es r0 k j) (entry (qh n es r0 k) j)
 | 0,j=>by
  show d5 _ (entry r0 j)
  refine(DR _).iff fun w=>⟨fun q=>⟨j,w,0,0,Nat.le_refl _,q,Walk.nil _,by omega⟩,fun ⟨i,x,k',v,h1,h2,h3,h4⟩=>?_⟩
  have:k'=0:=by omega
  subst this
  cases h3
  rw[h2,h4,Int.add_zero]
 | k+1,j=>by
  by_cases hj:j<n
  ·show d5 _ (entry (List.zipWith lesser _ _) j)
   rw[M3 (by rw[eE h0,nT])]
   refine(Ac (mx hE h0 k j) (ze hj)).low (fun w q=>?_) (fun w q=>?_)
   ·rcases q with q | ⟨e,he,hd,x,hx,hw⟩
    ·exact q.mono (Nat.le_succ _)
    ·have:=mx hE h0 k e.src
     rw[hx] at this
     subst hd hw
     exact this.1.snoc he
   ·obtain⟨i,x,k',v,h1,h2,h3,rfl⟩:=q
    cases h3 with
    | nil=>exact⟨_,.inl ⟨j,x,0,0,by omega,h2,Walk.nil _,rfl⟩,Int.le_refl _⟩
    | @snoc k' v e h he=>
     have hf:oM es r0 k e.src (x+v):=⟨i,x,k',v,by omega,h2,h,rfl⟩
     have:=mx hE h0 k e.src
     cases c:entry (qh n es r0 k) e.src with
     | none=>rw[c] at this;exact absurd hf (this _)
     | some y=>
      rw[c] at this
      exact⟨y+e.w,.inr ⟨e,he,rfl,y,c,rfl⟩,by have:=this.2 _ hf;omega⟩
  ·rw[l4 (by rw[eE h0];omega)]
   intro w ⟨i,x,k',v,h1,h2,h3,h4⟩
   exact hj (h3.lt hE (by rw[<- h0];exact uw h2))
def bK (es:List Edge):Prop:=∀i k w,Walk es i i k w->0<=w
def off (i:Nat) (es:List Edge):List Edge:=es.filter fun e=>decide (e.src≠i/\e.dst≠i)
theorem By {i:Nat} {es:List Edge} {e:Edge}:e∈off i es↔e∈es/\e.src≠i/\e.dst≠i:=by
 unfold off
 rw[mem_filter,decide_eq_true_iff]
theorem DT {es:List Edge} (i:Nat):∀(k:Nat) {a j:Nat} {w:Int},Walk es a j k w->
  (a≠i/\Walk (off i es) a j k w)\/
  ∃k1 w1,Walk es a i k1 w1/\((j=i/\w=w1)\/∃e k2 w2,e∈es/\e.src=i/\e.dst≠i/\Walk (off i es) e.dst j k2 w2/\k1+k2+1<=k/\w=w1+(e.w+w2))
 | 0,a,j,w,h=>by
  cases h
  by_cases c:a=i
  ·subst c;exact .inr ⟨0,0,Walk.nil _,.inl ⟨rfl,rfl⟩⟩
  ·exact .inl ⟨c,Walk.nil _⟩
 | k+1,a,j,w,h=>by
  rcases h.head with ⟨q,_⟩|⟨e,k',w',he,ha,hw,hk,rfl⟩
  ·omega
  ·have hk:k=k':=by omega
   subst hk
   rcases DT i k hw with ⟨h1,h2⟩|⟨k1,w1,h1,h2⟩
   ·by_cases c:a=i
    ·exact .inr ⟨0,0,by rw[c];exact Walk.nil _,.inr ⟨e,k,w',he,ha.trans c,h1,h2,by omega,by omega⟩⟩
    ·subst ha
     exact .inl ⟨c,Walk.cons (By.mpr ⟨he,c,h1⟩) h2⟩
   ·subst ha
    refine .inr ⟨k1+1,e.w+w1,Walk.cons he h1,?_⟩
    rcases h2 with ⟨h2,h3⟩|⟨f,k2,w2,hf,h3,h4,h5,h6,h7⟩
    ·exact .inl ⟨h2,by omega⟩
    ·exact .inr ⟨f,k2,w2,hf,h3,h4,h5,by omega,by omega⟩
theorem HH:∀(m:Nat) (S:List Nat) (es:List Edge),S.length<=m->(∀e,e∈es->e.src∈S/\e.dst∈S)->bK es->
  ∀{i j k:Nat} {w:Int},i∈S->Walk es i j k w->∃k' w',k' + 1<=m/\k'<=k/\w'<=w/\Walk es i j k' w'
 | 0,S,es,hm,_,_,i,_,_,_,hi,_=>by
  cases S with
  | nil=>cases hi
  | cons a S=>simp at hm
 | m+1,S,es,hm,hS,hN,i,j,k,w,hi,hw=>by
  by_cases c:i=j
  ·subst c
   exact⟨0,0,by omega,by omega,hN _ _ _ hw,Walk.nil _⟩
  ·rcases DT i k hw with ⟨h1,_⟩|⟨k1,w1,h1,h2⟩
   ·exact absurd rfl h1
   ·rcases h2 with ⟨h2,_⟩|⟨e,k2,w2,he,h3,h4,h5,h6,h7⟩
    ·exact absurd h2.symm c
    ·have hlen:(S.filter fun x=>decide (x≠i)).length<=m:=by
      have:(S.filter fun x=>decide (x≠i)).length<S.length:=by
       rw[List.length_filter_lt_length_iff_exists]
       exact⟨i,hi,by simp⟩
      omega
     obtain⟨k',w',g1,g2,g3,g4⟩:=HH m (S.filter fun x=>decide (x≠i)) (off i es) hlen
      (fun f hf=>by
       obtain⟨f1,f2,f3⟩:=By.mp hf
       exact⟨mem_filter.mpr ⟨(hS f f1).1,by simpa using f2⟩,mem_filter.mpr ⟨(hS f f1).2,by simpa using f3⟩⟩)
      (fun a b v hv=>hN a b v (hv.mono fun f hf=>(By.mp hf).1))
      (mem_filter.mpr ⟨(hS e he).2,by simpa using h4⟩) h5
     have g5:Walk es e.dst j k' w':=g4.mono fun f hf=>(By.mp hf).1
     have g6:=Walk.cons he g5
     rw[h3] at g6
     exact⟨k' + 1,e.w+w',by omega,by omega,by have:=hN _ _ _ h1;omega,g6⟩
theorem short {n:Nat} {es:List Edge} (hE:bB n es) (hN:bK es) {i j k:Nat} {w:Int} (hi:i<n) (hw:Walk es i j k w):∃k' w',k' < n/\k'<=k/\w'<=w/\Walk es i j k' w':=
 HH n (List.range n) es (by simp) (fun e he=>⟨List.mem_range.mpr (hE e he).1,List.mem_range.mpr (hE e he).2⟩) hN (List.mem_range.mpr hi) hw
theorem bK.turned {es:List Edge} (h:bK es):bK (es.map turned):=fun i k w hw=>h i k w (su.mp hw)
theorem bK.mono {es fs:List Edge} (s:∀e,e∈es->e∈fs) (h:bK fs):bK es:=fun i k w hw=>h i k w (hw.mono s)
theorem vh {es:List Edge} (f:Nat->Int) (hf:∀e,e∈es->f e.dst<=f e.src+e.w):bK es:=by
 have:∀{i j k w},Walk es i j k w->f j<=f i+w:=by
  intro i j k w h
  induction h with
  | nil=>omega
  | snoc _ he ih=>have:=hf _ he;omega
 intro i k w h
 have:=this h
 omega
theorem oM.short {n:Nat} {es:List Edge} (hE:bB n es) (hN:bK es) {r:Row} (hr:r.length=n) {j k:Nat} {w:Int} (h:oM es r k j w):∃w',oM es r (n-1) j w'/\w'<=w:=by
 obtain⟨i,x,k',v,h1,h2,h3,rfl⟩:=h
 obtain⟨k2,v2,g1,g2,g3,g4⟩:=WS.short hE hN (by rw[<- hr];exact uw h2) h3
 exact⟨x+v2,⟨i,x,k2,v2,by omega,h2,g4,rfl⟩,by omega⟩
theorem Ad {n:Nat} {es:List Edge} (hE:bB n es) (hN:bK es) {r0:Row} (h0:r0.length=n) {k:Nat} (hk:n-1<=k) (j:Nat):d5 (nV es r0 j) (entry (qh n es r0 k) j):=
 (mx hE h0 k j).low (fun _ h=>h.any) fun w ⟨k',h⟩=>by
  obtain⟨w',h1,h2⟩:=h.short hE hN h0
  exact⟨w',h1.mono hk,h2⟩
theorem Cd {n j:Nat}:entry ((events n).map fun _=>some (0:Int)) j=if j<n then some 0 else none:=sP
theorem nj {n:Nat}:((events n).map fun _=>some (0:Int)).length=n:=by simp[events]
theorem gC {n:Nat} {es:List Edge} (hE:bB n es):fit n es=true↔bK es:=by
 unfold fit
 rw[beq_iff_eq,tI,tI]
 constructor
 ·intro h
  refine vh (fun j=>(entry (qh n es ((events n).map fun _=>some 0) n) j).getD 0) fun e he=>?_
  have hz:=nj (n:=n)
  obtain⟨h1,h2⟩:=hE e he
  have a1:=mx hE hz n e.src
  have a2:=mx hE hz (n+1) e.dst
  rw[<- h] at a2
  have z1:oM es ((events n).map fun _=>some 0) n e.src 0:=⟨e.src,0,0,0,by omega,by rw[Cd,if_pos h1],Walk.nil _,rfl⟩
  cases c1:entry (qh n es ((events n).map fun _=>some 0) n) e.src with
  | none=>rw[c1] at a1;exact absurd z1 (a1 _)
  | some x=>
   rw[c1] at a1
   have z2:=a1.1.snoc he
   cases c2:entry (qh n es ((events n).map fun _=>some 0) n) e.dst with
   | none=>rw[c2] at a2;exact absurd z2 (a2 _)
   | some y=>
    rw[c2] at a2
    exact a2.2 _ z2
 ·intro h
  refine uO (by rw[eE nj,eE nj]) fun j _=>?_
  exact(Ad hE h nj (k:=n) (by omega) j).uniq (Ad hE h nj (k:=n+1) (by omega) j)
theorem F0 {n:Nat} {es:List Edge} (hE:bB n es):fit n es=false ↔ ¬bK es:=by
 rw[<- gC hE];simp
theorem F1 {n:Nat} {es:List Edge} {i j:Nat} (hi:i<n) {w:Int}:nV es (only n i) j w↔∃k,Walk es i j k w:=by
 constructor
 ·intro ⟨k,i',x,k',v,h1,h2,h3,h4⟩
  rw[nU] at h2
  by_cases c:i' < n/\i'=i
  ·rw[if_pos c] at h2
   cases h2
   rw[c.2] at h3
   rw[h4,Int.zero_add]
   exact⟨k',h3⟩
  ·rw[if_neg c] at h2;cases h2
 ·intro ⟨k,h⟩
  exact⟨k,i,0,k,w,Nat.le_refl _,by rw[nU,if_pos ⟨hi,rfl⟩],h,by omega⟩
theorem gf {n:Nat} {es:List Edge} (hE:bB n es) (hN:bK es) {a:Nat} (ha:a<n) (b:Nat):d5 (fun w=>∃k,Walk es a b k w) (reach n es a b):=by
 unfold reach
 rw[iw]
 exact(Ad hE hN dP (by omega) b).iff fun w=>F1 ha
def bL (p:Row×Bool) (e:Edge):Row×Bool:=match entry p.1 e.src with
 | none=>p
 | some x=>match entry p.1 e.dst with
  | none=>(p.1.set e.dst (some (x+e.w)),true)
  | some y=>if x+e.w<y then (p.1.set e.dst (some (x+e.w)),true) else p
def cc (es:List Edge) (r:Row):Row×Bool:=es.foldl bL (r,false)
def settle (es:List Edge):Nat->Row->Row×Bool
 | 0,r=>(r,false)
 | k+1,r=>if (cc es r).2=true then settle es k (cc es r).1 else ((cc es r).1,true)
def Below (r s:Row):Prop:=r.length=s.length/\∀j x,entry s j=some x->∃y,entry r j=some y/\y<=x
theorem Below.refl (r:Row):Below r r:=⟨rfl,fun _ x h=>⟨x,h,Int.le_refl _⟩⟩
theorem Below.trans {r s t:Row} (h:Below r s) (h':Below s t):Below r t:=⟨h.1.trans h'.1,fun j x e=>by
 obtain⟨y,h1,h2⟩:=h'.2 j x e
 obtain⟨z,h3,h4⟩:=h.2 j y h1
 exact⟨z,h3,by omega⟩⟩
theorem nq {n:Nat} {p:Row×Bool} {e:Edge} (hl:p.1.length=n) (he:e.dst<n) :
  (bL p e=p/\∀x,entry p.1 e.src=some x->∃y,entry p.1 e.dst=some y/\y<=x+e.w)\/
  ∃x,entry p.1 e.src=some x/\bL p e=(p.1.set e.dst (some (x+e.w)),true)/\∀y,entry p.1 e.dst=some y->x+e.w<y:=by
 unfold bL
 cases c1:entry p.1 e.src with
 | none=>exact .inl ⟨rfl,fun x h=>by cases h⟩
 | some x=>
  cases c2:entry p.1 e.dst with
  | none=>exact .inr ⟨x,rfl,rfl,fun y h=>by cases h⟩
  | some y=>
   by_cases c:x+e.w<y
   ·exact .inr ⟨x,rfl,if_pos c,fun z h=>by cases h;exact c⟩
   ·exact .inl ⟨if_neg c,fun z h=>by cases h;exact⟨y,rfl,by omega⟩⟩
theorem jI {p:Row×Bool} {e:Edge}:(bL p e).1.length=p.1.length:=by
 unfold bL
 split
 ·rfl
 ·split
  ·simp
  ·split
   ·simp
   ·rfl
theorem Ae {p:Row×Bool} {e:Edge} (he:e.dst<p.1.length):Below (bL p e).1 p.1:=by
 rcases nq rfl he with ⟨h,_⟩|⟨x,h1,h2,h3⟩
 ·rw[h];exact Below.refl _
 ·refine⟨jI,fun j y hy=>?_⟩
  rw[h2]
  show ∃z,entry (p.1.set e.dst (some (x+e.w))) j=some z/\z<=y
  rw[kc he]
  by_cases c:j=e.dst
  ·subst c
   rw[if_pos rfl]
   exact⟨_,rfl,by have:=h3 y hy;omega⟩
  ·rw[if_neg c];exact⟨y,hy,Int.le_refl _⟩
theorem JB {p:Row×Bool} {e:Edge} (he:e.dst<p.1.length) {x:Int} (hx:entry p.1 e.src=some x):∃y,entry (bL p e).1 e.dst=some y/\y<=x+e.w:=by
 rcases nq rfl he with ⟨h,h'⟩|⟨x',h1,h2,h3⟩
 ·rw[h];exact h' x hx
 ·rw[h1] at hx
  cases hx
  rw[h2]
  exact⟨x+e.w,by show entry (p.1.set _ _) _=_;rw[kc he,if_pos rfl],Int.le_refl _⟩
theorem wR:∀(es:List Edge) {p:Row×Bool},(es.foldl bL p).1.length=p.1.length
 | [],_=>rfl
 | e::es,p=>by rw[List.foldl_cons,wR es,jI]
theorem yx:∀(es:List Edge) {p:Row×Bool},(∀e,e∈es->e.dst<p.1.length)->Below (es.foldl bL p).1 p.1
 | [],p,_=>Below.refl _
 | e::es,p,h=>by
  rw[List.foldl_cons]
  exact(yx es (p:=bL p e) (fun f hf=>by rw[jI];exact h f (by simp[hf]))).trans (Ae (h e (by simp)))
theorem F2:∀(es:List Edge) {p:Row×Bool},(∀e,e∈es->e.dst<p.1.length)->∀{e:Edge},e∈es->∀{x:Int},entry p.1 e.src=some x->∃y,entry (es.foldl bL p).1 e.dst=some y/\y<=x+e.w
 | [],p,_,e,he,_,_=>by cases he
 | f::es,p,h,e,he,x,hx=>by
  rw[List.foldl_cons]
  have h':∀g,g∈es->g.dst<(bL p f).1.length:=fun g hg=>by rw[jI];exact h g (by simp[hg])
  rcases mem_cons.mp he with rfl | he
  ·obtain⟨y,h1,h2⟩:=JB (h e (by simp)) hx
   obtain⟨z,h3,h4⟩:=(yx es h').2 _ _ h1
   exact⟨z,h3,by omega⟩
  ·obtain⟨y,h1,h2⟩:=(Ae (p:=p) (h f (by simp))).2 _ _ hx
   obtain⟨z,h3,h4⟩:=F2 es h' he h1
   exact⟨z,h3,by omega⟩
theorem F3:∀(es:List Edge) {p:Row×Bool},(es.foldl bL p).2=false->p.2=false
 | [],_,h=>h
 | e::es,p,h=>by
  rw[List.foldl_cons] at h
  have h1:=F3 es h
  unfold bL at h1
  split at h1
  ·exact h1
  ·split at h1
   ·cases h1
   ·split at h1
    ·cases h1
    ·exact h1
theorem DU:∀(es:List Edge) {p:Row×Bool},(∀e,e∈es->e.dst<p.1.length)->(es.foldl bL p).2=false->
  (es.foldl bL p).1=p.1
 | [],_,_,_=>rfl
 | e::es,p,h,hf=>by
  rw[List.foldl_cons] at hf ⊢
  have h':∀g,g∈es->g.dst<(bL p e).1.length:=fun g hg=>by rw[jI];exact h g (by simp[hg])
  rw[DU es h' hf]
  have h1:=F3 es hf
  rcases nq rfl (h e (by simp)) with ⟨q,_⟩|⟨x,_,q,_⟩
  ·rw[q]
  ·rw[q] at h1;cases h1
theorem jq {es:List Edge} {r:Row}:(cc es r).1.length=r.length:=wR es
theorem DV {es:List Edge} {r:Row} (h:∀e,e∈es->e.dst<r.length):Below (cc es r).1 r:=yx es h
theorem xt {es:List Edge} {r:Row} (h:∀e,e∈es->e.dst<r.length) {e:Edge} (he:e∈es) {x:Int} (hx:entry r e.src=some x):∃y,entry (cc es r).1 e.dst=some y/\y<=x+e.w:=F2 es h he hx
theorem wg {es:List Edge} {r:Row} (h:∀e,e∈es->e.dst<r.length) (hf:(cc es r).2=false):(cc es r).1=r:=DU es h hf
def Made (es:List Edge) (r0 r:Row):Prop:=∀j x,entry r j=some x->nV es r0 j x
def Under (es:List Edge) (r0:Row) (t:Nat) (r:Row):Prop:=∀j w,oM es r0 t j w->∃x,entry r j=some x/\x<=w
def DW (es:List Edge) (r0 r:Row):Prop:=∀j,d5 (nV es r0 j) (entry r j)
theorem F4 {S7:List Edge} {r0:Row}:∀(es:List Edge) {p:Row×Bool},(∀e,e∈es->e∈S7)->(∀e,e∈es->e.dst<p.1.length)->Made S7 r0 p.1->Made S7 r0 (es.foldl bL p).1
 | [],_,_,_,h=>h
 | e::es,p,hs,hl,h=>by
  rw[List.foldl_cons]
  refine F4 es (fun f hf=>hs f (by simp[hf])) (fun g hg=>by rw[jI];exact hl g (by simp[hg])) ?_
  rcases nq rfl (hl e (by simp)) with ⟨q,_⟩|⟨x,hx,q,_⟩
  ·rw[q];exact h
  ·rw[q]
   intro j y hy
   rw[show entry (p.1.set e.dst (some (x+e.w))) j=_ from kc (hl e (by simp))] at hy
   by_cases c:j=e.dst
   ·subst c
    rw[if_pos rfl] at hy
    cases hy
    obtain⟨k,hk⟩:=h _ _ hx
    exact(hk.snoc (hs e (by simp))).any
   ·rw[if_neg c] at hy;exact h j y hy
theorem xu {es:List Edge} {r0 r:Row} (hl:∀e,e∈es->e.dst<r.length) (h:Made es r0 r):Made es r0 (cc es r).1:=F4 es (fun _ q=>q) hl h
theorem wj {es:List Edge} {r0 r:Row} {t:Nat} (hl:∀e,e∈es->e.dst<r.length) (h:Under es r0 t r):Under es r0 (t+1) (cc es r).1:=by
 intro j w ⟨i,x,k',v,h1,h2,h3,h4⟩
 by_cases c:k'<=t
 ·obtain⟨y,g1,g2⟩:=h j w ⟨i,x,k',v,c,h2,h3,h4⟩
  obtain⟨z,g3,g4⟩:=(DV hl).2 _ _ g1
  exact⟨z,g3,by omega⟩
 ·have e:k'=t+1:=by omega
  subst e
  cases h3 with
  | @snoc _ v e h3 he=>
   obtain⟨y,g1,g2⟩:=h e.src (x+v) ⟨i,x,t,v,Nat.le_refl _,h2,h3,rfl⟩
   obtain⟨z,g3,g4⟩:=xt hl he g1
   exact⟨z,g3,by omega⟩
def Still (es:List Edge) (r:Row):Prop:=∀e,e∈es->∀x,entry r e.src=some x->∃y,entry r e.dst=some y/\y<=x+e.w
theorem still_of {es:List Edge} {r:Row} (hl:∀e,e∈es->e.dst<r.length) (hf:(cc es r).2=false):Still es r:=fun e he x hx=>by
 have:=xt hl he hx
 rw[wg hl hf] at this
 exact this
theorem Still.walk {es:List Edge} {r:Row} (h:Still es r) {i j k:Nat} {v:Int} (hw:Walk es i j k v) {x:Int} (hx:entry r i=some x):∃y,entry r j=some y/\y<=x+v:=by
 induction hw with
 | nil=>exact⟨x,hx,by omega⟩
 | snoc _ he ih=>
  obtain⟨y,h1,h2⟩:=ih
  obtain⟨z,h3,h4⟩:=h _ he y h1
  exact⟨z,h3,by omega⟩
theorem HI {es:List Edge} {r0 r:Row} (hm:Made es r0 r) (hu:∀j w,nV es r0 j w->∃x,entry r j=some x/\x<=w):DW es r0 r:=by
 intro j
 cases c:entry r j with
 | none=>
  intro w hw
  obtain⟨x,h1,_⟩:=hu j w hw
  rw[c] at h1;cases h1
 | some x=>
  refine⟨hm j x c,fun w hw=>?_⟩
  obtain⟨y,h1,h2⟩:=hu j w hw
  rw[c] at h1
  cases h1
  exact h2
theorem Under.weak {es:List Edge} {r0 r:Row} {s t:Nat} (h:Under es r0 t r) (J0:s<=t):Under es r0 s r:=fun j w hw=>h j w (hw.mono J0)
theorem JC {es:List Edge} {r0 r:Row} (h:Under es r0 0 r) (hs:Still es r):∀j w,nV es r0 j w->∃x,entry r j=some x/\x<=w:=by
 intro j w ⟨k,i,x,k',v,_,h2,h3,h4⟩
 obtain⟨y,g1,g2⟩:=h i x ⟨i,x,0,0,by omega,h2,Walk.nil _,by omega⟩
 obtain⟨z,g3,g4⟩:=hs.walk h3 g1
 exact⟨z,g3,by omega⟩
theorem DX {es:List Edge} {r0:Row}:∀(fs:List Edge) {p:Row×Bool},(∀e,e∈fs->e∈es)->(∀e,e∈fs->e.dst<p.1.length)->DW es r0 p.1->fs.foldl bL p=p
 | [],_,_,_,_=>rfl
 | e::fs,p,hs,hl,h=>by
  have q:bL p e=p:=by
   rcases nq rfl (hl e (by simp)) with ⟨q,_⟩|⟨x,hx,_,h3⟩
   ·exact q
   ·have a1:=h e.src
    rw[hx] at a1
    obtain⟨k,hk⟩:=a1.1
    have a2:=h e.dst
    have a3:=(hk.snoc (hs e (by simp))).any
    cases c:entry p.1 e.dst with
    | none=>rw[c] at a2;exact absurd a3 (a2 _)
    | some y=>
     rw[c] at a2
     have:=h3 y c
     have:=a2.2 _ a3
     omega
  rw[List.foldl_cons,q]
  exact DX fs (fun f hf=>hs f (by simp[hf])) (fun f hf=>hl f (by simp[hf])) h
theorem o9 {es:List Edge}:∀(k:Nat) {r:Row},(settle es k r).1.length=r.length
 | 0,_=>rfl
 | k+1,r=>by
  unfold settle
  split
  ·rw[o9 k,jq]
  ·exact jq
theorem qi {n:Nat} {es:List Edge} (hE:bB n es) {r0:Row} (h0:r0.length=n):∀(k t:Nat) {r:Row},r.length=n->Made es r0 r->Under es r0 t r->(settle es k r).2=true->DW es r0 (settle es k r).1
 | 0,_,_,_,_,_,h=>by cases h
 | k+1,t,r,hr,hm,hu,h=>by
  have hl:∀e,e∈es->e.dst<r.length:=fun e he=>by rw[hr];exact(hE e he).2
  unfold settle at h ⊢
  by_cases c:(cc es r).2=true
  ·rw[if_pos c] at h ⊢
   exact qi hE h0 k (t+1) (by rw[jq,hr]) (xu hl hm) (wj hl hu) h
  ·rw[if_neg c]
   have c':(cc es r).2=false:=by simpa using c
   show DW es r0 (cc es r).1
   rw[wg hl c']
   exact HI hm (JC (hu.weak (Nat.zero_le _)) (still_of hl c'))
theorem sv {n:Nat} {es:List Edge} (hE:bB n es) (hN:bK es) {r0:Row} (h0:r0.length=n):∀(k t:Nat) {r:Row},n<=t+k->0<k->r.length=n->Made es r0 r->Under es r0 t r->(settle es k r).2=true
 | 0,_,_,_,h,_,_,_=>by omega
 | k+1,t,r,hk,_,hr,hm,hu=>by
  have hl:∀e,e∈es->e.dst<r.length:=fun e he=>by rw[hr];exact(hE e he).2
  unfold settle
  by_cases c:(cc es r).2=true
  ·rw[if_pos c]
   by_cases hz:k=0
   ·exfalso
    have hw:DW es r0 r:=HI hm fun j w ⟨k',sM⟩=>by
     obtain⟨w',g1,g2⟩:=sM.short hE hN h0
     obtain⟨x,g3,g4⟩:=hu j w' (g1.mono (by omega))
     exact⟨x,g3,by omega⟩
    have:=DX es (p:=(r,false)) (fun _ q=>q) hl hw
    unfold cc at c
    rw[this] at c
    cases c
   ·exact sv hE hN h0 k (t+1) (by omega) (by omega) (by rw[jq,hr]) (xu hl hm) (wj hl hu)
  ·rw[if_neg c]
theorem pN {es:List Edge} {r0:Row}:Made es r0 r0:=fun j x h=>⟨0,j,x,0,0,Nat.le_refl _,h,Walk.nil _,by omega⟩
theorem nW {es:List Edge} {r0:Row}:Under es r0 0 r0:=fun j w ⟨i,x,k',v,h1,h2,h3,h4⟩=>by
 have:k'=0:=by omega
 subst this
 cases h3
 exact⟨x,h2,by omega⟩
def zeros (n:Nat):Row:=List.replicate n (some 0)
theorem OZ (n:Nat):zeros n=(events n).map fun _=>some 0:=by
 unfold zeros events
 induction n with
 | zero=>rfl
 | succ n ih=>rw[List.replicate_succ',List.range_succ,map_append,ih];rfl
def M4 (n:Nat) (es:List Edge):Bool:=(settle es n (zeros n)).2
theorem M5 {n:Nat} {es:List Edge} (hE:bB n es) (hn:0<n):M4 n es=fit n es:=by
 have hz:(zeros n).length=n:=by simp[zeros]
 cases c:fit n es with
 | true=>
  exact sv hE ((gC hE).mp c) hz n 0 (by omega) hn hz pN nW
 | false=>
  cases d:M4 n es with
  | false=>rfl
  | true=>
   exfalso
   have hw:=qi hE hz n 0 hz pN nW d
   refine(F0 hE).mp c (vh (fun j=>(entry (settle es n (zeros n)).1 j).getD 0) fun e he=>?_)
   obtain⟨h1,h2⟩:=hE e he
   have a1:=hw e.src
   have a2:=hw e.dst
   have z1:nV es (zeros n) e.src 0:=⟨0,e.src,0,0,0,by omega,by rw[OZ,Cd,if_pos h1],Walk.nil _,rfl⟩
   cases c1:entry (settle es n (zeros n)).1 e.src with
   | none=>rw[c1] at a1;exact absurd z1 (a1 _)
   | some x=>
    rw[c1] at a1
    obtain⟨k,hk⟩:=a1.1
    have z2:=(hk.snoc he).any
    cases c2:entry (settle es n (zeros n)).1 e.dst with
    | none=>rw[c2] at a2;exact absurd z2 (a2 _)
    | some y=>
     rw[c2] at a2
     exact a2.2 _ z2
def ux (n:Nat) (es:List Edge) (i:Nat):Row:=(settle es n (only n i)).1
theorem vi {n:Nat} {es:List Edge} (hE:bB n es) (hN:bK es) {i:Nat} (hi:i<n) (j:Nat):d5 (fun w=>∃k,Walk es i j k w) (entry (ux n es i) j):=by
 have hz:(only n i).length=n:=dP
 have he:=sv hE hN hz n 0 (by omega) (by omega) hz pN nW
 exact(qi hE hz n 0 hz pN nW he j).iff fun w=>F1 hi
theorem zf {n:Nat} {es:List Edge} (hE:bB n es) (hN:bK es) {i:Nat} (hi:i<n):ux n es i=within_ n es i n:=by
 refine uO (by unfold ux;rw[o9,dP,iw,eE dP]) fun j _=>?_
 exact(vi hE hN hi j).uniq (gf hE hN hi j)
theorem JD {n:Nat} {es:List Edge} (hE:bB n es) (hN:bK es) {o i:Nat} (ho:o<n) (hi:i<n):entry (ux n (es.map turned) o) i=reach n es i o:=by
 refine(vi hE.turned hN.turned ho i).uniq ((gf hE hN hi o).iff fun w=>?_)
 exact⟨fun ⟨k,h⟩=>⟨k,su.mpr h⟩,fun ⟨k,h⟩=>⟨k,su.mp h⟩⟩
def gj (n a:Nat):Row:=(List.replicate n (some FAR)).set a (some 0)
def Af (es:List Edge):Prop:=∀e,e∈es->-BIG<=e.w/\e.w<=BIG
theorem Walk.small {es:List Edge} (h:Af es) {i j k:Nat} {w:Int} (hw:Walk es i j k w):-(BIG*k)<=w:=by
 induction hw with
 | nil=>simp
 | @snoc k w e h0 he ih=>
  have:=(h e he).1
  unfold BIG at *
  omega
theorem zg {n a:Nat}:(gj n a).length=n:=by simp[gj]
theorem nr {n a j:Nat} (ha:a<n):entry (gj n a) j=if j=a then some 0 else if j<n then some FAR else none:=by
 unfold gj
 rw[kc (by simpa using ha)]
 by_cases c:j=a
 ·rw[if_pos c,if_pos c]
 ·rw[if_neg c,if_neg c]
  by_cases d:j<n
  ·rw[if_pos d];apply entry_get;rw[List.getElem?_replicate,if_pos d]
  ·rw[if_neg d];exact l4 (by simpa using d)
def iR (n a:Nat):List Edge:=(events n).map fun i=>⟨a,i,FAR,0,0⟩
theorem EZ {n a:Nat} {e:Edge}:e∈iR n a↔∃i,i<n/\e=⟨a,i,FAR,0,0⟩:=by
 unfold iR events
 simp[eq_comm]
theorem O0 {n:Nat} {es:List Edge} (hE:bB n es) (hN:bK es) (hS:Af es) {a:Nat} (ha:a<n) (hn:n<=24) :
  (settle es n (gj n a)).1=(shown n es a).map some:=by
 have hz:(gj n a).length=n:=zg
 have he:=sv hE hN hz n 0 (by omega) (by omega) hz pN nW
 have hw:=qi hE hz n 0 hz pN nW he
 have h0:entry (settle es n (gj n a)).1 a=some 0:=by
  refine(hw a).uniq ⟨⟨0,a,0,0,0,by omega,by rw[nr ha,if_pos rfl],Walk.nil _,rfl⟩,?_⟩
  rintro w ⟨k,i,x,k',v,h1,h2,h3,rfl⟩
  have hi:i<n:=by rw[<- hz];exact uw h2
  rw[nr ha] at h2
  by_cases c:i=a
  ·rw[if_pos c] at h2
   cases h2
   rw[c] at h3
   have:=hN _ _ _ h3
   omega
  ·rw[if_neg c,if_pos hi] at h2
   cases h2
   obtain⟨k2,v2,g1,g2,g3,g4⟩:=short hE hN hi h3
   have:=g4.small hS
   unfold BIG at this
   unfold FAR
   omega
 have DY:∀j,j<n->∃x,entry (settle es n (gj n a)).1 j=some x/\x<=FAR:=by
  intro j hj
  have:=hw j
  have z:∃y,nV es (gj n a) j y/\y<=FAR:=by
   by_cases c:j=a
   ·exact⟨0,⟨0,j,0,0,0,by omega,by rw[nr ha,if_pos c],Walk.nil _,rfl⟩,by unfold FAR;omega⟩
   ·exact⟨FAR,⟨0,j,FAR,0,0,by omega,by rw[nr ha,if_neg c,if_pos hj],Walk.nil _,by omega⟩,Int.le_refl _⟩
  obtain⟨y,z1,z2⟩:=z
  cases c:entry (settle es n (gj n a)).1 j with
  | none=>rw[c] at this;exact absurd z1 (this _)
  | some x=>
   rw[c] at this
   exact⟨x,rfl,by have:=this.2 _ z1;omega⟩
 have S8:∀e,e∈es++iR n a->(entry (settle es n (gj n a)).1 e.dst).getD 0<=(entry (settle es n (gj n a)).1 e.src).getD 0+e.w:=by
  intro e he
  rcases mem_append.mp he with he | he
  ·obtain⟨h1,h2⟩:=hE e he
   obtain⟨x,hx,_⟩:=DY _ h1
   obtain⟨y,hy,_⟩:=DY _ h2
   have a1:=hw e.src
   have a2:=hw e.dst
   rw[hx] at a1
   rw[hy] at a2
   obtain⟨k,hk⟩:=a1.1
   have:=a2.2 _ (hk.snoc he).any
   rw[hx,hy]
   exact this
  ·obtain⟨i,hi,rfl⟩:=EZ.mp he
   obtain⟨x,hx,QK⟩:=DY _ hi
   show (entry _ i).getD 0<=(entry _ a).getD 0+FAR
   rw[h0,hx]
   show x<=0+FAR
   omega
 have HJ:bK (es++iR n a):=vh (fun j=>(entry (settle es n (gj n a)).1 j).getD 0) S8
 have ke:bB n (es++iR n a):=by
  intro e he
  rcases mem_append.mp he with he | he
  ·exact hE e he
  ·obtain⟨i,hi,rfl⟩:=EZ.mp he
   exact⟨ha,hi⟩
 have hsh:shown n es a=(within_ n (es++iR n a) a n).map fun x=>x.getD FAR:=rfl
 rw[hsh,map_map]
 have hl:(within_ n (es++iR n a) a n).length=n:=by rw[iw,eE dP]
 refine uO (by rw[o9,hz,length_map,hl]) fun j hj=>?_
 rw[o9,hz] at hj
 have key:entry (settle es n (gj n a)).1 j=entry (within_ n (es++iR n a) a n) j:=by
  refine d5.uniq (P:=fun w=>∃k,Walk (es++iR n a) a j k w) ?_ (gf ke HJ ha j)
  obtain⟨x,hx,_⟩:=DY j hj
  rw[hx]
  constructor
  ·have a1:=hw j
   rw[hx] at a1
   obtain⟨k,i,y,k',v,g1,g2,g3,rfl⟩:=a1.1
   have hi:i<n:=by rw[<- hz];exact uw g2
   have g4:Walk (es++iR n a) i j k' v:=g3.mono fun e he=>mem_append.mpr (.inl he)
   rw[nr ha] at g2
   by_cases c:i=a
   ·rw[if_pos c] at g2
    cases g2
    rw[c] at g4
    exact⟨k',by rw[Int.zero_add];exact g4⟩
   ·rw[if_neg c,if_pos hi] at g2
    cases g2
    have:=Walk.cons (e:=⟨a,i,FAR,0,0⟩) (mem_append.mpr (.inr (EZ.mpr ⟨i,hi,rfl⟩))) g4
    exact⟨_,this⟩
  ·rintro w ⟨k,hk⟩
   have:∀{i j k w},Walk (es++iR n a) i j k w->(entry (settle es n (gj n a)).1 j).getD 0<=(entry (settle es n (gj n a)).1 i).getD 0+w:=by
    intro i j k w h
    induction h with
    | nil=>omega
    | snoc _ he ih=>have:=S8 _ he;omega
   have:=this hk
   rw[h0,hx] at this
   have t2:x<=0+w:=this
   omega
 rw[key]
 have e1:=pM (r:=within_ n (es++iR n a) a n) (j:=j) (by omega)
 rw[<- key] at e1
 obtain⟨x,hx,_⟩:=DY j hj
 rw[<- key,hx]
 symm
 apply entry_get
 rw[getElem?_map,e1,hx]
 rfl
def tab (n:Nat) (es:List Edge) (k:Nat):List Row:=(events n).map fun i=>exactly n es i k
theorem DZ {n:Nat} {es:List Edge} {k:Nat}:(tab n es k).length=n:=by simp[tab,events]
theorem E1 {n:Nat} {es:List Edge} {k i:Nat} (hi:i<n):(tab n es k)[i]?=some (exactly n es i k):=by
 unfold tab events
 rw[getElem?_map,List.getElem?_range hi];rfl
theorem O1 {n:Nat} {es:List Edge} {k i j:Nat} (hi:i<n):cell (tab n es k) i j=entry (exactly n es i k) j:=by
 unfold cell
 rw[getD_eq_getElem?_getD,E1 hi];rfl
theorem xw {n:Nat} {es:List Edge} (hE:bB n es) {i j k:Nat} (hi:i<n) (hj:j<n):entry (exactly n (es.map turned) j k) i=entry (exactly n es i k) j:=by
 refine(fH hE.turned hj k i).uniq ((fH hE hi k j).iff fun w=>su.symm)
def eP (T:List Row) (p:Int×Option Nat) (i:Nat):Int×Option Nat:=match cell T i i with
 | none=>p
 | some x=>if x<p.1 then (x,some i) else p
def gg (T:List Row):Option Nat:=((events T.length).foldl (eP T) (0,none)).2
def better (p:Int×Option Nat) (y:Nat×Int):Int×Option Nat:=if y.2<p.1 then (y.2,some y.1) else p
theorem wU:∀(l:List (Nat×Int)) (i:Nat) (x:Int),l.foldl better (x,some i)=match leastOf ((i,x)::l) with
  | none=>(x,some i)
  | some y=>(y.2,some y.1)
 | [],i,x=>rfl
 | y::l,i,x=>by
  rw[List.foldl_cons]
  have hb:better (x,some i) y=if y.2<x then (y.2,some y.1) else (x,some i):=rfl
  rw[hb]
  have e1:leastOf ((i,x)::y::l)=match leastOf (y::l) with
   | none=>some (i,x)
   | some z=>if z.2<x then some z else some (i,x):=rfl
  have e2:leastOf (y::l)=match leastOf l with
   | none=>some y
   | some z=>if z.2<y.2 then some z else some y:=rfl
  by_cases c:y.2<x
  ·rw[if_pos c,wU l,e1,e2]
   show (match (match leastOf l with | none=>some (y.1,y.2) | some z=>if z.2<y.2 then some z else some (y.1,y.2)) with | none=>_ | some y=>_)=_
   cases leastOf l with
   | none=>simp[c]
   | some z=>
    by_cases d:z.2<y.2
    ·have:z.2<x:=by omega
     simp[d,this]
    ·simp[d,c]
  ·rw[if_neg c,wU l,e1,e2]
   show (match (match leastOf l with | none=>some (i,x) | some z=>if z.2<x then some z else some (i,x)) with | none=>_ | some y=>_)=_
   cases leastOf l with
   | none=>simp[c]
   | some z=>
    by_cases d:z.2<x
    ·have:z.2<y.2:=by omega
     simp[d,this]
    ·by_cases d2:z.2<y.2
     ·simp[d,d2]
     ·simp[d,d2,c]
theorem HK:∀(l:List (Nat×Int)),(∀y,y∈l->y.2<0)->l.foldl better (0,none)=match leastOf l with
  | none=>(0,none)
  | some y=>(y.2,some y.1)
 | [],_=>rfl
 | y::l,h=>by
  rw[List.foldl_cons]
  have:better (0,none) y=(y.2,some y.1):=if_pos (h y (by simp))
  rw[this,wU]
  cases e:leastOf ((y.1,y.2)::l) with
  | none=>
   exfalso
   have e1:leastOf ((y.1,y.2)::l)=match leastOf l with
    | none=>some (y.1,y.2)
    | some z=>if z.2<y.2 then some z else some (y.1,y.2):=rfl
   rw[e1] at e
   cases c:leastOf l with
   | none=>rw[c] at e;cases e
   | some z=>
    rw[c] at e
    dsimp only at e
    split at e <;> cases e
  | some z=>
   rfl
theorem sQ:∀(i:Nat) (l:List Row) (y:Nat×Int),y∈backs i l->y.2<0
 | i,[],y,h=>by cases h
 | i,r::l,y,h=>by
  unfold backs at h
  split at h
  ·exact sQ (i+1) l y h
  ·split at h
   ·rcases mem_cons.mp h with rfl | h
    ·assumption
    ·exact sQ (i+1) l y h
   ·exact sQ (i+1) l y h
theorem qj {T:List Row}:∀(l:List Row) (i:Nat),T.drop i=l->∀p:Int×Option Nat,p.1<=0->(List.range' i l.length).foldl (eP T) p=(backs i l).foldl better p
 | [],i,_,p,_=>rfl
 | r::l,i,h,p,hp=>by
  have hi:T[i]?=some r:=by
   have:=congrArg (·[0]?) h
   simpa using this
  have hc:cell T i i=entry r i:=by
   unfold cell
   rw[getD_eq_getElem?_getD,hi];rfl
  have hd:T.drop (i+1)=l:=by
   have:=congrArg (List.drop 1) h
   rw[List.drop_drop] at this
   exact this
  rw[length_cons,List.range'_succ,List.foldl_cons]
  unfold eP backs
  rw[hc]
  cases c:entry r i with
  | none=>exact qj l (i+1) hd p hp
  | some x=>
   dsimp only
   by_cases d:x<0
   ·rw[if_pos d,List.foldl_cons]
    have e:better p (i,x)=if x<p.1 then (x,some i) else p:=rfl
    rw[e]
    by_cases d2:x<p.1
    ·rw[if_pos d2];exact qj l (i+1) hd _ (by show x<=0;omega)
    ·rw[if_neg d2];exact qj l (i+1) hd p hp
   ·rw[if_neg d,if_neg (by omega)]
    exact qj l (i+1) hd p hp
theorem JE {T:List Row}:(events T.length).foldl (eP T) (0,none)=match leastOf (backs 0 T) with
  | none=>(0,none)
  | some y=>(y.2,some y.1):=by
 unfold events
 rw[List.range_eq_range',qj T 0 rfl (0,none) (Int.le_refl _),HK _ (sQ 0 T)]
theorem E2 (T:List Row):gg T=(leastOf (backs 0 T)).map (·.1):=by
 unfold gg
 rw[JE]
 cases leastOf (backs 0 T) <;> rfl
theorem Ce:∀{l:List (Nat×Int)} {y:Nat×Int},leastOf l=some y->y∈l
 | [],y,h=>by cases h
 | x::l,y,h=>by
  unfold leastOf at h
  cases c:leastOf l with
  | none=>rw[c] at h;cases h;simp
  | some z=>
   rw[c] at h
   dsimp only at h
   split at h
   ·cases h;exact mem_cons_of_mem _ (Ce c)
   ·cases h;simp
theorem HL:∀{l:List (Nat×Int)},leastOf l=none->l=[]
 | [],_=>rfl
 | x::l,h=>by
  unfold leastOf at h
  cases c:leastOf l with
  | none=>rw[c] at h;cases h
  | some z=>
   rw[c] at h
   dsimp only at h
   split at h <;> cases h
theorem F5:∀(l:List Row) (i:Nat) {y:Nat×Int},y∈backs i l->∃m r,l[m]?=some r/\y.1=i+m/\entry r y.1=some y.2
 | [],i,y,h=>by cases h
 | r::l,i,y,h=>by
  unfold backs at h
  have O2:y∈backs (i+1) l->∃m r',(r::l)[m]?=some r'/\y.1=i+m/\entry r' y.1=some y.2:=fun h=>by
   obtain⟨m,r',h1,h2,h3⟩:=F5 l (i+1) h
   exact⟨m+1,r',h1,by omega,h3⟩
  cases c:entry r i with
  | none=>rw[c] at h;exact O2 h
  | some x=>
   rw[c] at h
   dsimp only at h
   split at h
   ·rcases mem_cons.mp h with rfl | h
    ·exact⟨0,r,rfl,rfl,c⟩
    ·exact O2 h
   ·exact O2 h
def stepOk (n:Nat) (es:List Edge) (to k i:Nat) (sum:Int) (e:Edge):Bool:=e.src==i&&(match entry (exactly n es e.dst k) to with
 | none=>false
 | some x=>x+e.w==sum)
def vj (n:Nat) (es:List Edge) (to:Nat):Nat->Nat->Int->List Edge
 | 0,_,_=>[]
 | k+1,i,sum=>match es.find? (stepOk n es to k i sum) with
  | none=>[]
  | some e=>e::vj n es to k e.dst (sum-e.w)
theorem yy {α:Type} {p q:α->Bool}:∀{l:List α},(∀x,x∈l->p x=q x)->l.find? p=l.find? q
 | [],_=>rfl
 | x::l,h=>by
  rw[List.find?_cons,List.find?_cons,h x (by simp),yy fun y hy=>h y (by simp[hy])]
theorem HM {n:Nat} {es:List Edge} (hE:bB n es) {to:Nat} (ht:to<n):∀(k i:Nat) (sum:Int),wayOf n es to k i sum=vj n es to k i sum
 | 0,_,_=>rfl
 | k+1,i,sum=>by
  have hp:∀p:Edge->Bool,(∀e,e∈es->p e=stepOk n es to k i sum e)->(match es.find? p with
    | none=>[]
    | some e=>e::wayOf n es to k e.dst (sum-e.w))=vj n es to (k+1) i sum:=by
   intro p hp
   rw[yy hp]
   unfold vj
   cases es.find? (stepOk n es to k i sum) with
   | none=>rfl
   | some e=>dsimp only;rw[HM hE ht k]
  exact hp _ fun e he=>by
   unfold stepOk
   rw[xw hE (hE e he).2 ht]
   rfl
theorem D0 {n:Nat} {es:List Edge} (hE:bB n es) {i to k:Nat} (hi:i<n) {sum:Int} (h:entry (exactly n es i (k+1)) to=some sum) :
  ∃e,es.find? (stepOk n es to k i sum)=some e:=by
 have h1:=fH hE hi (k+1) to
 rw[h] at h1
 rcases h1.1.head with ⟨h0,_⟩|⟨e,k',w',he,hs,hw,hk,S9⟩
 ·omega
 ·have:k=k':=by omega
  subst this
  have h2:=fH hE (hE e he).2 k to
  cases c:entry (exactly n es e.dst k) to with
  | none=>rw[c] at h2;exact absurd hw (h2 _)
  | some x=>
   rw[c] at h2
   have h3:=h2.2 _ hw
   have h4:=Walk.cons he h2.1
   rw[hs] at h4
   have h5:=h1.2 _ h4
   have:x=w':=by omega
   subst this
   cases f:es.find? (stepOk n es to k i sum) with
   | some e=>exact⟨e,rfl⟩
   | none=>
    have:=List.find?_eq_none.mp f e he
    unfold stepOk at this
    rw[c] at this
    simp[hs] at this
    omega
theorem Kg {n:Nat} {es:List Edge} {i to k:Nat} {sum:Int} {e:Edge} (h:es.find? (stepOk n es to k i sum)=some e):e∈es/\e.src=i/\entry (exactly n es e.dst k) to=some (sum-e.w):=by
 have h1:=List.find?_some h
 have h2:=List.mem_of_find?_eq_some h
 unfold stepOk at h1
 rw[Bool.and_eq_true,beq_iff_eq] at h1
 refine⟨h2,h1.1,?_⟩
 cases c:entry (exactly n es e.dst k) to with
 | none=>rw[c] at h1;cases h1.2
 | some x=>
  rw[c] at h1
  have:=eq_of_beq h1.2
  exact congrArg some (by omega)
theorem Cf {n:Nat} {es:List Edge} (hE:bB n es) {to:Nat}:∀(k i:Nat) (sum:Int),i<n->entry (exactly n es i k) to=some sum->(vj n es to k i sum).length=k/\((vj n es to k i sum).map fun e=>e.w).sum=sum
 | 0,i,sum,_,h=>by
  have:entry (only n i) to=some sum:=h
  rw[nU] at this
  split at this
  ·cases this;exact⟨rfl,rfl⟩
  ·cases this
 | k+1,i,sum,hi,h=>by
  obtain⟨e,he⟩:=D0 hE hi h
  obtain⟨h1,h2,h3⟩:=Kg he
  have ih:=Cf hE k e.dst (sum-e.w) (hE e h1).2 h3
  unfold vj
  rw[he]
  dsimp only
  rw[length_cons,map_cons,List.sum_cons,ih.1,ih.2]
  exact⟨rfl,by omega⟩
theorem nt {n:Nat} {es:List Edge} (f k:Nat):ringFrom n es (f+1) k (tab n es k)=match leastOf (backs 0 (tab n es (k+1))) with
  | some x=>some (k+1,x.1,x.2)
  | none=>ringFrom n es f (k+1) (tab n es (k+1)):=by
 have e:(tab n es k).map (further n es)=tab n es (k+1):=by
  unfold tab
  rw[map_map];rfl
 show (match leastOf (backs 0 ((tab n es k).map (further n es))) with | some x=>_ | none=>ringFrom n es f (k+1) ((tab n es k).map (further n es)))=_
 rw[e]
theorem ql {n:Nat} {es:List Edge}:ringOf n es=ringFrom n es n 0 (tab n es 0):=rfl
theorem Ag {n:Nat} {es:List Edge} {k:Nat} {y:Nat×Int} (h:leastOf (backs 0 (tab n es k))=some y):y.1<n/\entry (exactly n es y.1 k) y.1=some y.2/\y.2<0:=by
 have h1:=Ce h
 obtain⟨m,r,h2,h3,h4⟩:=F5 _ _ h1
 have hm:m<n:=by
  have:=(List.getElem?_eq_some_iff.mp h2).1
  rw[DZ] at this;exact this
 rw[E1 hm] at h2
 cases h2
 have:y.1=m:=by omega
 rw[<- this] at h4 hm
 exact⟨hm,h4,sQ _ _ _ h1⟩
theorem zh {n:Nat} {es:List Edge} (hE:bB n es) (hN:bK es):∀(f k:Nat),ringFrom n es f k (tab n es k)=none
 | 0,_=>rfl
 | f+1,k=>by
  rw[nt]
  cases c:leastOf (backs 0 (tab n es (k+1))) with
  | none=>exact zh hE hN f (k+1)
  | some y=>
   exfalso
   obtain⟨h1,h2,h3⟩:=Ag c
   have:=fH hE h1 (k+1) y.1
   rw[h2] at this
   have:=hN _ _ _ this.1
   omega
theorem CT {n:Nat} {es:List Edge} (hE:bB n es) (hN:bK es):ring n es=none:=by
 unfold ring
 rw[ql,zh hE hN]
theorem RL {l x t:List Int} (h:PyFlat.row l=some (x,t)):l=(x.length:Int)::(x++t):=by
 cases l with
 | nil=>cases h
 | cons n r=>
  have h:(if 0<=n/\n.toNat<=r.length then some (r.take n.toNat,r.drop n.toNat) else none)=some (x,t):=h
  by_cases c:0<=n/\n.toNat<=r.length
  ·rw[if_pos c] at h
   cases h
   obtain⟨h1,h2⟩:=c
   rw[take_append_drop,length_take,Nat.min_eq_left h2]
   rw[show ((n.toNat:Nat):Int)=n by omega]
  ·rw[if_neg c] at h
   cases h
theorem F6 {p:Int} {n k:Nat} (h:PyVbedac.shape p=some (n,k)):(p=0/\n=1/\k=0)\/(p=1/\n=6/\k=0)\/(p=2/\n=1/\k=0)\/(p=3/\n=1/\k=0)\/(p=4/\n=1/\k=0)\/(p=5/\n=1/\k=0)\/(p=6/\n=0/\k=0)\/(p=7/\n=0/\k=0)\/(p=8/\n=2/\k=0)\/(p=9/\n=1/\k=0)\/(p=10/\n=1/\k=0)\/(p=11/\n=0/\k=1)\/(p=12/\n=1/\k=0)\/(p=13/\n=2/\k=0)\/(p=14/\n=1/\k=0)\/(p=15/\n=4/\k=0)\/(p=16/\n=1/\k=0)\/(p=17/\n=0/\k=0)\/(p=18/\n=2/\k=0)\/(p=19/\n=1/\k=0)\/(p=20/\n=1/\k=0)\/(p=21/\n=0/\k=0)\/(p=22/\n=0/\k=0)\/(p=23/\n=1/\k=1)\/(p=24/\n=0/\k=0)\/(p=25/\n=1/\k=0):=by
 unfold PyVbedac.shape at h
 by_cases c:p=0
 ·rw[if_pos c] at h
  cases h
  exact .inl ⟨c,rfl,rfl⟩
 rw[if_neg c] at h
 clear c
 by_cases c:p=1
 ·rw[if_pos c] at h
  cases h
  exact .inr (.inl ⟨c,rfl,rfl⟩)
 rw[if_neg c] at h
 clear c
 by_cases c:p=2
 ·rw[if_pos c] at h
  cases h
  exact .inr (.inr (.inl ⟨c,rfl,rfl⟩))
 rw[if_neg c] at h
 clear c
 by_cases c:p=3
 ·rw[if_pos c] at h
  cases h
  exact .inr (.inr (.inr (.inl ⟨c,rfl,rfl⟩)))
 rw[if_neg c] at h
 clear c
 by_cases c:p=4
 ·rw[if_pos c] at h
  cases h
  exact .inr (.inr (.inr (.inr (.inl ⟨c,rfl,rfl⟩))))
 rw[if_neg c] at h
 clear c
 by_cases c:p=5
 ·rw[if_pos c] at h
  cases h
  exact .inr (.inr (.inr (.inr (.inr (.inl ⟨c,rfl,rfl⟩)))))
 rw[if_neg c] at h
 clear c
 by_cases c:p=6
 ·rw[if_pos c] at h
  cases h
  exact .inr (.inr (.inr (.inr (.inr (.inr (.inl ⟨c,rfl,rfl⟩))))))
 rw[if_neg c] at h
 clear c
 by_cases c:p=7
 ·rw[if_pos c] at h
  cases h
  exact .inr (.inr (.inr (.inr (.inr (.inr (.inr (.inl ⟨c,rfl,rfl⟩)))))))
 rw[if_neg c] at h
 clear c
 by_cases c:p=8
 ·rw[if_pos c] at h
  cases h
  exact .inr (.inr (.inr (.inr (.inr (.inr (.inr (.inr (.inl ⟨c,rfl,rfl⟩))))))))
 rw[if_neg c] at h
 clear c
 by_cases c:p=9
 ·rw[if_pos c] at h
  cases h
  exact .inr (.inr (.inr (.inr (.inr (.inr (.inr (.inr (.inr (.inl ⟨c,rfl,rfl⟩)))))))))
 rw[if_neg c] at h
 clear c
 by_cases c:p=10
 ·rw[if_pos c] at h
  cases h
  exact .inr (.inr (.inr (.inr (.inr (.inr (.inr (.inr (.inr (.inr (.inl ⟨c,rfl,rfl⟩))))))))))
 rw[if_neg c] at h
 clear c
 by_cases c:p=11
 ·rw[if_pos c] at h
  cases h
  exact .inr (.inr (.inr (.inr (.inr (.inr (.inr (.inr (.inr (.inr (.inr (.inl ⟨c,rfl,rfl⟩)))))))))))
 rw[if_neg c] at h
 clear c
 by_cases c:p=12
 ·rw[if_pos c] at h
  cases h
  exact .inr (.inr (.inr (.inr (.inr (.inr (.inr (.inr (.inr (.inr (.inr (.inr (.inl ⟨c,rfl,rfl⟩))))))))))))
 rw[if_neg c] at h
 clear c
 by_cases c:p=13
 ·rw[if_pos c] at h
  cases h
  exact .inr (.inr (.inr (.inr (.inr (.inr (.inr (.inr (.inr (.inr (.inr (.inr (.inr (.inl ⟨c,rfl,rfl⟩)))))))))))))
 rw[if_neg c] at h
 clear c
 by_cases c:p=14
 ·rw[if_pos c] at h
  cases h
  exact .inr (.inr (.inr (.inr (.inr (.inr (.inr (.inr (.inr (.inr (.inr (.inr (.inr (.inr (.inl ⟨c,rfl,rfl⟩))))))))))))))
 rw[if_neg c] at h
 clear c
 by_cases c:p=15
 ·rw[if_pos c] at h
  cases h
  exact .inr (.inr (.inr (.inr (.inr (.inr (.inr (.inr (.inr (.inr (.inr (.inr (.inr (.inr (.inr (.inl ⟨c,rfl,rfl⟩)))))))))))))))
 rw[if_neg c] at h
 clear c
 by_cases c:p=16
 ·rw[if_pos c] at h
  cases h
  exact .inr (.inr (.inr (.inr (.inr (.inr (.inr (.inr (.inr (.inr (.inr (.inr (.inr (.inr (.inr (.inr (.inl ⟨c,rfl,rfl⟩))))))))))))))))
 rw[if_neg c] at h
 clear c
 by_cases c:p=17
 ·rw[if_pos c] at h
  cases h
  exact .inr (.inr (.inr (.inr (.inr (.inr (.inr (.inr (.inr (.inr (.inr (.inr (.inr (.inr (.inr (.inr (.inr (.inl ⟨c,rfl,rfl⟩)))))))))))))))))
 rw[if_neg c] at h
 clear c
 by_cases c:p=18
 ·rw[if_pos c] at h
  cases h
  exact .inr (.inr (.inr (.inr (.inr (.inr (.inr (.inr (.inr (.inr (.inr (.inr (.inr (.inr (.inr (.inr (.inr (.inr (.inl ⟨c,rfl,rfl⟩))))))))))))))))))
 rw[if_neg c] at h
 clear c
 by_cases c:p=19
 ·rw[if_pos c] at h
  cases h
  exact .inr (.inr (.inr (.inr (.inr (.inr (.inr (.inr (.inr (.inr (.inr (.inr (.inr (.inr (.inr (.inr (.inr (.inr (.inr (.inl ⟨c,rfl,rfl⟩)))))))))))))))))))
 rw[if_neg c] at h
 clear c
 by_cases c:p=20
 ·rw[if_pos c] at h
  cases h
  exact .inr (.inr (.inr (.inr (.inr (.inr (.inr (.inr (.inr (.inr (.inr (.inr (.inr (.inr (.inr (.inr (.inr (.inr (.inr (.inr (.inl ⟨c,rfl,rfl⟩))))))))))))))))))))
 rw[if_neg c] at h
 clear c
 by_cases c:p=21
 ·rw[if_pos c] at h
  cases h
  exact .inr (.inr (.inr (.inr (.inr (.inr (.inr (.inr (.inr (.inr (.inr (.inr (.inr (.inr (.inr (.inr (.inr (.inr (.inr (.inr (.inr (.inl ⟨c,rfl,rfl⟩)))))))))))))))))))))
 rw[if_neg c] at h
 clear c
 by_cases c:p=22
 ·rw[if_pos c] at h
  cases h
  exact .inr (.inr (.inr (.inr (.inr (.inr (.inr (.inr (.inr (.inr (.inr (.inr (.inr (.inr (.inr (.inr (.inr (.inr (.inr (.inr (.inr (.inr (.inl ⟨c,rfl,rfl⟩))))))))))))))))))))))
 rw[if_neg c] at h
 clear c
 by_cases c:p=23
 ·rw[if_pos c] at h
  cases h
  exact .inr (.inr (.inr (.inr (.inr (.inr (.inr (.inr (.inr (.inr (.inr (.inr (.inr (.inr (.inr (.inr (.inr (.inr (.inr (.inr (.inr (.inr (.inr (.inl ⟨c,rfl,rfl⟩)))))))))))))))))))))))
 rw[if_neg c] at h
 clear c
 by_cases c:p=24
 ·rw[if_pos c] at h
  cases h
  exact .inr (.inr (.inr (.inr (.inr (.inr (.inr (.inr (.inr (.inr (.inr (.inr (.inr (.inr (.inr (.inr (.inr (.inr (.inr (.inr (.inr (.inr (.inr (.inr (.inl ⟨c,rfl,rfl⟩))))))))))))))))))))))))
 rw[if_neg c] at h
 clear c
 by_cases c:p=25
 ·rw[if_pos c] at h
  cases h
  exact .inr (.inr (.inr (.inr (.inr (.inr (.inr (.inr (.inr (.inr (.inr (.inr (.inr (.inr (.inr (.inr (.inr (.inr (.inr (.inr (.inr (.inr (.inr (.inr (.inr (⟨c,rfl,rfl⟩)))))))))))))))))))))))))
 rw[if_neg c] at h
 clear c
 cases h
theorem O3 {l:List Int} {c:List (List Int)} {t:List Int} (h:PyFlat.call PyVbedac.shape l=some (c,t)) :
  ∃p xs,(PyVbedac.shape p=some (xs.length,0)/\c=[p::xs]/\l=p::(xs++t))\/
   ∃row,PyVbedac.shape p=some (xs.length,1)/\c=[p::xs,row]/\l=p::(xs++(row.length:Int)::(row++t)):=by
 cases l with
 | nil=>cases h
 | cons p r=>
  unfold PyFlat.call at h
  dsimp only at h
  cases e:PyVbedac.shape p with
  | none=>rw[e] at h;cases h
  | some nk=>
   obtain⟨n,k⟩:=nk
   rw[e] at h
   dsimp only at h
   have hk:k=0\/k=1:=by
    have:=F6 e
    omega
   by_cases hl:r.length<n
   ·rw[if_pos hl] at h;cases h
   ·rw[if_neg hl] at h
    have hlen:(r.take n).length=n:=by rw[length_take];omega
    rcases hk with rfl | rfl
    ·have:some ((p::r.take n)::[],r.drop n)=some (c,t):=h
     cases this
     exact⟨p,r.take n,.inl ⟨by rw[hlen];exact e,rfl,by rw[take_append_drop]⟩⟩
    ·unfold PyFlat.rows at h
     cases e2:PyFlat.row (r.drop n) with
     | none=>rw[e2] at h;cases h
     | some xs=>
      obtain⟨x,s⟩:=xs
      rw[e2] at h
      have:some ((p::r.take n)::[x],s)=some (c,t):=h
      cases this
      refine⟨p,r.take n,.inr ⟨x,by rw[hlen];exact e,rfl,?_⟩⟩
      rw[<- RL e2,take_append_drop]
theorem M6 {f:Nat} {l:List Int} {cs:List (List (List Int))} (h:PyFlat.calls PyVbedac.shape f l=some cs) :
  (l=[]/\cs=[])\/∃f' c t Kh,cs=c::Kh/\PyFlat.call PyVbedac.shape l=some (c,t)/\PyFlat.calls PyVbedac.shape f' t=some Kh:=by
 cases l with
 | nil=>
  have:some []=some cs:=by cases f <;> exact h
  cases this
  exact .inl ⟨rfl,rfl⟩
 | cons p r=>
  cases f with
  | zero=>cases h
  | succ f=>
   unfold PyFlat.calls at h
   cases e:PyFlat.call PyVbedac.shape (p::r) with
   | none=>rw[e] at h;cases h
   | some ct=>
    obtain⟨c,t⟩:=ct
    rw[e] at h
    dsimp only at h
    cases e2:PyFlat.calls PyVbedac.shape f t with
    | none=>rw[e2] at h;cases h
    | some Kh=>
     rw[e2] at h
     cases h
     exact .inr ⟨f,c,t,Kh,rfl,rfl,e2⟩
theorem O4 (c:List (List Int)):PyVbedac.whole c=c:=by
 unfold PyVbedac.whole
 split <;> rfl
theorem HN (l:List Int):PyVbedac.calls l=PyFlat.calls PyVbedac.shape l.length l:=by
 unfold PyVbedac.calls
 cases PyFlat.calls PyVbedac.shape l.length l with
 | none=>rfl
 | some cs=>
  show some (cs.map PyVbedac.whole)=some cs
  congr 1
  have:PyVbedac.whole=id:=funext O4
  rw[this,List.map_id]
structure Well (s:State):Prop where
 n2:2<=s.n
 D1:s.n<=24
 xx:s.said.length<=100
 sorted:(s.said.map fun x=>x.key).Pairwise (·< ·)
 key:∀x,x∈s.said->1<=x.key
 ab:∀x,x∈s.said->x.a<s.n/\x.b<s.n
 small:∀x,x∈s.said->-BIG<=x.lo/\x.lo<=BIG/\-BIG<=x.hi/\x.hi<=BIG
theorem Lx:Well start:=⟨by decide,by decide,by decide,.nil,(by intro x h;cases h),(by intro x h;cases h),(by intro x h;cases h)⟩
theorem my {l:List Said} {e:Edge} (h:e∈edgesIn l):∃x,x∈l/\(e=⟨x.a,x.b,x.hi,x.key,0⟩\/e=⟨x.b,x.a,-x.lo,x.key,1⟩):=by
 unfold edgesIn at h
 obtain⟨x,hx,he⟩:=List.mem_flatMap.mp h
 refine⟨x,hx,?_⟩
 unfold edgesOf at he
 simpa using he
theorem mn {n:Nat} {l:List Said} (h:∀x,x∈l->x.a<n/\x.b<n):bB n (edgesIn l):=by
 intro e he
 obtain⟨x,hx,rfl | rfl⟩:=my he
 ·exact h x hx
 ·exact⟨(h x hx).2,(h x hx).1⟩
theorem O5 {l:List Said} (h:∀x,x∈l->-BIG<=x.lo/\x.lo<=BIG/\-BIG<=x.hi/\x.hi<=BIG):Af (edgesIn l):=by
 intro e he
 obtain⟨x,hx,rfl | rfl⟩:=my he
 ·exact(h x hx).2.2
 ·obtain⟨h1,h2,_⟩:=h x hx
  show -BIG<=-x.lo/\-x.lo<=BIG
  omega
theorem bQ {s:State} {x:Said} (h:x∈standing s):x∈s.said/\x.on=true:=by
 unfold standing at h
 simpa using h
theorem Well.Ki {s:State} (h:Well s):bB s.n (edges s):=mn fun x hx=>h.ab x (bQ hx).1
theorem Well.S_ {s:State} (h:Well s):Af (edges s):=O5 fun x hx=>h.small x (bQ hx).1
theorem Ly (v:Bool) (p:Said->Bool) (s:State):(setOn v p s).said.map (fun x=>x.key)=s.said.map fun x=>x.key:=by
 unfold setOn
 rw[map_map]
 refine List.map_congr_left fun x _=>?_
 show (if p x=true then _ else x:Said).key=x.key
 split <;> rfl
theorem yz {s:State} (h:Well s) (v:Bool) (p:Said->Bool):Well (setOn v p s):=by
 have hm:∀x,x∈(setOn v p s).said->∃y,y∈s.said/\x.key=y.key/\x.a=y.a/\x.b=y.b/\x.lo=y.lo/\x.hi=y.hi:=by
  intro x hx
  unfold setOn at hx
  obtain⟨y,hy,rfl⟩:=mem_map.mp hx
  refine⟨y,hy,?_⟩
  split <;> exact⟨rfl,rfl,rfl,rfl,rfl⟩
 refine⟨h.n2,h.D1,by unfold setOn;rw[length_map];exact h.xx,by rw[Ly];exact h.sorted,fun x hx=>?_,fun x hx=>?_,fun x hx=>?_⟩
 ·obtain⟨y,hy,e1,_⟩:=hm x hx
  rw[e1];exact h.key y hy
 ·obtain⟨y,hy,_,e2,e3,_⟩:=hm x hx
  rw[e2,e3];exact h.ab y hy
 ·obtain⟨y,hy,_,_,_,e4,e5⟩:=hm x hx
  rw[e4,e5];exact h.small y hy
theorem pO {x y:Said}:∀{l:List Said},y∈put x l↔y=x\/y∈l
 | []=>by simp[put]
 | z::l=>by
  unfold put
  split
  ·simp
  ·rw[mem_cons,pO,mem_cons]
   constructor
   ·rintro(h | h | h)
    ·exact .inr (.inl h)
    ·exact .inl h
    ·exact .inr (.inr h)
   ·rintro(h | h | h)
    ·exact .inr (.inl h)
    ·exact .inl h
    ·exact .inr (.inr h)
theorem D4 (x:Said):∀l:List Said,(put x l).length=l.length+1
 | []=>rfl
 | z::l=>by
  unfold put
  split
  ·rfl
  ·rw[length_cons,D4,length_cons]
theorem D5 {x:Said}:∀{l:List Said},(l.map fun y=>y.key).Pairwise (·< ·)->(∀y,y∈l->y.key≠x.key)->((put x l).map fun y=>y.key).Pairwise (·< ·)
 | [],_,_=>by simp[put]
 | z::l,h,hn=>by
  rw[map_cons,List.pairwise_cons] at h
  unfold put
  split
  ·rename_i c
   rw[map_cons,map_cons,List.pairwise_cons,List.pairwise_cons]
   refine⟨fun k hk=>?_,h.1,h.2⟩
   rcases mem_cons.mp hk with rfl | hk
   ·exact c
   ·have:=h.1 k hk;omega
  ·rename_i c
   rw[map_cons,List.pairwise_cons]
   refine⟨fun k hk=>?_,D5 h.2 fun y hy=>hn y (by simp[hy])⟩
   obtain⟨y,hy,rfl⟩:=mem_map.mp hk
   rcases pO.mp hy with rfl | hy
   ·have:=hn z (by simp);omega
   ·exact h.1 _ (List.mem_map_of_mem hy)
theorem F7 (x:Said):∀l:List Said,∃l1 l2,l=l1++l2/\put x l=l1++x::l2
 | []=>⟨[],[],rfl,rfl⟩
 | z::l=>by
  unfold put
  split
  ·exact⟨[],z::l,rfl,rfl⟩
  ·obtain⟨l1,l2,h1,h2⟩:=F7 x l
   exact⟨z::l1,l2,by rw[h1];rfl,by rw[h2];rfl⟩
theorem mz {s:State} {k:Nat} (h:saidBy s k=none):∀y,y∈s.said->y.key≠k:=by
 intro y hy e
 unfold saidBy at h
 have:=List.find?_eq_none.mp h y hy
 simp[e] at this
theorem mB {s:State} {k:Nat} {x:Said} (h:saidBy s k=some x):x∈s.said/\x.key=k:=by
 unfold saidBy at h
 exact⟨List.mem_of_find?_eq_some h,by simpa using List.find?_some h⟩
theorem Bz {l:List Said} (h:(l.map fun x=>x.key).Pairwise (·< ·)):∀{x y:Said},x∈l->y∈l->x.key=y.key->x=y:=by
 induction l with
 | nil=>intro x y hx;cases hx
 | cons z l ih=>
  rw[map_cons,List.pairwise_cons] at h
  intro x y hx hy e
  rcases mem_cons.mp hx with hx | hx
  ·rcases mem_cons.mp hy with hy | hy
   ·rw[hx,hy]
   ·have:=h.1 y.key (mem_map.mpr ⟨y,hy,rfl⟩)
    rw[<- e,hx] at this;omega
  ·rcases mem_cons.mp hy with hy | hy
   ·have:=h.1 x.key (mem_map.mpr ⟨x,hx,rfl⟩)
    rw[e,hy] at this;omega
   ·exact ih h.2 hx hy e
def gk (v:Bool) (x:Said):Said:=⟨x.key,x.who,x.a,x.b,x.lo,x.hi,v⟩
theorem Lz (v:Bool) (p:Said->Bool) (s:State):changed s (setOn v p s)=(((s.said.filter p).filter fun x=>x.on != v).length:Nat):=by
 have key:∀l:List Said,((l.zip (l.map fun x=>if p x=true then gk v x else x)).filter fun x=>x.1.on != x.2.on).length=((l.filter p).filter fun x=>x.on != v).length:=by
  intro l
  induction l with
  | nil=>rfl
  | cons x l ih=>
   rw[map_cons,List.zip_cons_cons,List.filter_cons,List.filter_cons]
   by_cases c:p x=true
   ·rw[if_pos c,if_pos c,List.filter_cons]
    show (if (x.on != (gk v x).on)=true then _ else _:List _).length=(if (x.on != v)=true then _ else _:List _).length
    show (if (x.on != v)=true then _ else _:List _).length=(if (x.on != v)=true then _ else _:List _).length
    by_cases d:(x.on != v)=true
    ·rw[if_pos d,if_pos d,length_cons,length_cons,ih]
    ·rw[if_neg d,if_neg d,ih]
   ·rw[if_neg c,if_neg c]
    show (if (x.on != x.on)=true then _ else _:List _).length=_
    rw[if_neg (by simp),ih]
 unfold changed setOn nat
 exact congrArg Int.ofNat (key s.said)
theorem xy:∀{l m:List Int},l.Perm m->l.Pairwise (·<=·)->m.Pairwise (·< ·)->l=m
 | [],[],_,_,_=>rfl
 | [],b::m,h,_,_=>by have:=h.length_eq;simp at this
 | a::l,[],h,_,_=>by have:=h.length_eq;simp at this
 | a::l,b::m,h,h1,h2=>by
  rw[List.pairwise_cons] at h1 h2
  have ha:a∈b::m:=h.mem_iff.mp (by simp)
  have hb:b∈a::l:=h.mem_iff.mpr (by simp)
  have e:a=b:=by
   rcases mem_cons.mp ha with e | ha
   ·exact e
   ·rcases mem_cons.mp hb with e | hb
    ·exact e.symm
    ·have:=h1.1 b hb
     have:=h2.1 a ha
     omega
  subst e
  rw[xy ((List.perm_cons a).mp h) h1.2 h2.2]
theorem RM {l:List Said} (h:(l.map fun x=>x.key).Pairwise (·< ·)):(l.map fun x=>(x.key:Int)).Pairwise (·< ·):=by
 rw[List.pairwise_map] at h ⊢
 exact h.imp fun h=>by omega
def bk (n:Nat) (es:List Edge) (to k:Nat):Row:=exactly n (es.map turned) to k
theorem RN {n:Nat} {es:List Edge} {to:Nat}:bk n es to 0=only n to:=rfl
theorem Kj {n:Nat} {es:List Edge} {to k:Nat}:bk n es to (k+1)=further n (es.map turned) (bk n es to k):=rfl
theorem fR {n:Nat} {es:List Edge} {to k:Nat}:(bk n es to k).length=n:=xr k
theorem kN {n:Nat} {es:List Edge} (hE:bB n es) {i j k:Nat} (hi:i<n) (hj:j<n):entry (bk n es j k) i=entry (exactly n es i k) j:=xw hE hi hj
def jD (s:Row) (L:Row) (e:Edge):Row:=match entry s e.dst with
 | none=>L
 | some o=>match entry L e.src with
  | none=>L.set e.src (some (e.w+o))
  | some h=>if e.w+o<h then L.set e.src (some (e.w+o)) else L
theorem Cg {s L:Row} {e:Edge}:(jD s L e).length=L.length:=by
 unfold jD
 split
 ·rfl
 ·split
  ·simp
  ·split <;> simp
theorem l5 {s:Row}:∀(es:List Edge) {L:Row},(es.foldl (jD s) L).length=L.length
 | [],_=>rfl
 | e::es,L=>by rw[List.foldl_cons,l5 es,Cg]
theorem LA {s L:Row} {e:Edge} {j:Nat} (h:e.src<L.length):entry (jD s L e) j=if e.src=j then lesser (entry L j) (plus (entry s e.dst) e.w) else entry L j:=by
 unfold jD
 by_cases c:e.src=j
 ·subst c
  rw[if_pos rfl]
  cases h1:entry s e.dst with
  | none=>
   cases entry L e.src <;> rfl
  | some o=>
   cases h2:entry L e.src with
   | none=>
    simp only[kc h,plus,Option.map,lesser]
    rw[Int.add_comm]
    rfl
   | some x=>
    simp only[plus,Option.map,lesser]
    rw[Int.add_comm e.w o]
    split
    ·rw[kc h,if_pos rfl]
    ·exact h2
 ·rw[if_neg c]
  have hj:¬j=e.src:=fun q=>c q.symm
  split
  ·rfl
  ·split
   ·rw[kc h,if_neg hj]
   ·split
    ·rw[kc h,if_neg hj]
    ·rfl
theorem wk {s:Row} {j:Nat}:∀(es:List Edge) {L:Row},(∀e,e∈es->e.src<L.length)->
  entry (es.foldl (jD s) L) j=es.foldl (fun m e=>if e.src=j then lesser m (plus (entry s e.dst) e.w) else m) (entry L j)
 | [],_,_=>rfl
 | e::es,L,h=>by
  rw[List.foldl_cons,List.foldl_cons,wk es (fun x hx=>by rw[Cg];exact h x (by simp[hx])),LA (h e (by simp))]
theorem D6 {n j:Nat}:entry (List.replicate n (none:Option Int)) j=none:=by
 unfold entry
 rw[getD_eq_getElem?_getD,List.getElem?_replicate]
 split <;> rfl
theorem JF {n:Nat} {es:List Edge} (hE:bB n es) (s:Row):es.foldl (jD s) (List.replicate n none)=further n (es.map turned) s:=by
 refine uO (by rw[l5,nT];simp) fun j hj=>?_
 rw[l5,length_replicate] at hj
 rw[wk es (fun e he=>by rw[length_replicate];exact(hE e he).1),D6]
 unfold further
 rw[sP,if_pos hj,List.foldl_map]
 rfl
def iW (r:Row) (i:Nat) (sum:Int) (e:Edge):Bool:=e.src==i&&(match entry r e.dst with
 | none=>false
 | some x=>x+e.w==sum)
theorem CU {n:Nat} {es:List Edge} {to k i:Nat} {sum:Int} {e:Edge} (h:es.find? (iW (bk n es to k) i sum)=some e):wayOf n es to (k+1) i sum=e::wayOf n es to k e.dst (sum-e.w):=by
 show (match es.find? (iW (bk n es to k) i sum) with
  | none=>[]
  | some e=>e::wayOf n es to k e.dst (sum-e.w))=_
 rw[h]
theorem M7 {n:Nat} {es:List Edge} (hE:bB n es) {to k i:Nat} (ht:to<n) {sum:Int}:es.find? (iW (bk n es to k) i sum)=es.find? (stepOk n es to k i sum):=
 yy fun e he=>by
  unfold iW stepOk
  rw[kN hE (hE e he).2 ht] <;> rfl
theorem yA {n:Nat} {es:List Edge} (hE:bB n es) {i to k:Nat} (hi:i<n) (ht:to<n) {sum:Int} (h:entry (bk n es to (k+1)) i=some sum) :
  ∃e,es.find? (iW (bk n es to k) i sum)=some e/\e∈es/\e.src=i/\entry (bk n es to k) e.dst=some (sum-e.w):=by
 rw[kN hE hi ht] at h
 obtain⟨e,he⟩:=D0 hE hi h
 obtain⟨h1,h2,h3⟩:=Kg he
 exact⟨e,by rw[M7 hE ht];exact he,h1,h2,by rw[kN hE (hE e h1).2 ht];exact h3⟩
theorem M8 {n:Nat} {es:List Edge} (hE:bB n es) {to k i:Nat} (hi:i<n) (ht:to<n) {sum:Int} (h:entry (bk n es to k) i=some sum) :
  (wayOf n es to k i sum).length=k/\((wayOf n es to k i sum).map fun e=>e.w).sum=sum:=by
 rw[kN hE hi ht] at h
 rw[HM hE ht]
 exact Cf hE k i sum hi h
theorem Kk {n:Nat} {es:List Edge} {to:Nat}:∀(k i:Nat) (sum:Int) (e:Edge),e∈wayOf n es to k i sum->e∈es
 | 0,_,_,e,h=>by cases h
 | k+1,i,sum,e,h=>by
  have h':e∈(match es.find? (iW (bk n es to k) i sum) with
   | none=>[]
   | some e=>e::wayOf n es to k e.dst (sum-e.w)):=h
  cases he:es.find? (iW (bk n es to k) i sum) with
  | none=>rw[he] at h';cases h'
  | some e'=>
   rw[he] at h'
   rcases mem_cons.mp h' with q | q
   ·rw[q];exact List.mem_of_find?_eq_some he
   ·exact Kk k _ _ e q
def k3 (n:Nat) (es:List Edge) (k:Nat):List Row:=(events n).map fun g=>bk n es g k
theorem i5 {n:Nat} {es:List Edge} {k:Nat}:(k3 n es k).length=n:=by simp[k3,events]
theorem yB {n:Nat} {es:List Edge} {k i:Nat} (hi:i<n):(k3 n es k)[i]?=some (bk n es i k):=by
 unfold k3 events
 rw[getElem?_map,List.getElem?_range hi];rfl
theorem M9 {n:Nat} {es:List Edge} {k i j:Nat} (hi:i<n):cell (k3 n es k) i j=entry (bk n es i k) j:=by
 unfold cell
 rw[getD_eq_getElem?_getD,yB hi];rfl
theorem zi {n:Nat} {es:List Edge} (hE:bB n es) {k:Nat}:gg (k3 n es k)=(leastOf (backs 0 (tab n es k))).map (·.1):=by
 rw[<- E2]
 unfold gg
 rw[i5,DZ]
 have:∀(l:List Nat) (p:Int×Option Nat),(∀i,i∈l->i<n)->l.foldl (eP (k3 n es k)) p=l.foldl (eP (tab n es k)) p:=by
  intro l
  induction l with
  | nil=>intro p _;rfl
  | cons i l ih=>
   intro p h
   have hi:i<n:=h i (by simp)
   rw[List.foldl_cons,List.foldl_cons]
   have e:eP (k3 n es k) p i=eP (tab n es k) p i:=by
    unfold eP
    rw[M9 hi,O1 hi,kN hE hi hi]
   rw[e]
   exact ih _ fun j hj=>h j (by simp[hj])
 rw[this _ _ fun i hi=>by simpa [events] using hi]
def aQ (n:Nat) (es:List Edge):List Edge:=match ring n es with
 | none=>[]
 | some (_,_,l)=>l
def nu (n:Nat) (es:List Edge) (f k:Nat):List Edge:=match ringFrom n es f k (tab n es k) with
 | none=>[]
 | some (k,i,x)=>wayOf n es i k i x
theorem E3 {n:Nat} {es:List Edge}:aQ n es=nu n es n 0:=by
 unfold aQ nu ring
 rw[ql]
 cases ringFrom n es n 0 (tab n es 0) with
 | none=>rfl
 | some p=>rfl
theorem Gz {n:Nat} {es:List Edge} (hE:bB n es) {f k:Nat} (h:gg (k3 n es (k+1))=none):nu n es (f+1) k=nu n es f (k+1):=by
 rw[zi hE] at h
 unfold nu
 rw[nt]
 cases c:leastOf (backs 0 (tab n es (k+1))) with
 | none=>rfl
 | some y=>rw[c] at h;cases h
theorem E4 {n:Nat} {es:List Edge} (hE:bB n es) {f k i:Nat} (h:gg (k3 n es (k+1))=some i) :
  ∃x,i<n/\entry (bk n es i (k+1)) i=some x/\nu n es (f+1) k=wayOf n es i (k+1) i x:=by
 rw[zi hE] at h
 cases c:leastOf (backs 0 (tab n es (k+1))) with
 | none=>rw[c] at h;cases h
 | some y=>
  rw[c] at h
  have e:y.1=i:=Option.some.inj h
  obtain⟨h1,h2,h3⟩:=Ag c
  rw[e] at h1 h2
  refine⟨y.2,h1,by rw[kN hE h1 h1];exact h2,?_⟩
  unfold nu
  rw[nt,c]
  dsimp only
  rw[e]
theorem tJ {n:Nat} {es:List Edge}:∀(f k:Nat) {r:Nat×Nat×Int},ringFrom n es f k (tab n es k)=some r->0<r.1/\r.2.1<n/\entry (exactly n es r.2.1 r.1) r.2.1=some r.2.2/\r.2.2<0
 | 0,_,r,h=>by cases h
 | f+1,k,r,h=>by
  rw[nt] at h
  cases c:leastOf (backs 0 (tab n es (k+1))) with
  | none=>rw[c] at h;exact tJ f (k+1) h
  | some y=>
   rw[c] at h
   cases h
   obtain⟨h1,h2,h3⟩:=Ag c
   exact⟨Nat.succ_pos _,h1,h2,h3⟩
theorem qm {n:Nat} {es:List Edge} (hE:bB n es) {i:Nat} {x:Int} {l:List Edge} (h:ring n es=some (i,x,l)):(∃e r,l=e::r/\e.src=i)/\(l.map fun e=>e.w).sum=x/\(∀e,e∈l->e∈es):=by
 unfold ring at h
 rw[ql] at h
 cases c:ringFrom n es n 0 (tab n es 0) with
 | none=>rw[c] at h;cases h
 | some r=>
  rw[c] at h
  obtain⟨k,j,y⟩:=r
  obtain⟨h1,h2,h3,h4⟩:=tJ _ _ c
  dsimp only at h1 h2 h3 h4
  have e:(j,y,wayOf n es j k j y)=(i,x,l):=Option.some.inj h
  cases e
  have h5:entry (bk n es i k) i=some x:=by rw[kN hE h2 h2];exact h3
  refine⟨?_,(M8 hE h2 h2 h5).2,fun e he=>Kk _ _ _ _ he⟩
  cases k with
  | zero=>omega
  | succ k=>
   obtain⟨e,f1,f2,f3,f4⟩:=yA hE h2 h2 h5
   rw[CU f1]
   exact⟨e,_,rfl,f3⟩
theorem jJ {n:Nat} {es:List Edge} (hE:bB n es):aQ n es=[]↔ring n es=none:=by
 unfold aQ
 cases c:ring n es with
 | none=>simp
 | some p=>
  obtain⟨i,x,l⟩:=p
  obtain⟨⟨e,r,h,_⟩,_⟩:=qm hE c
  simp[h]
theorem GA {n:Nat} {es:List Edge} (hE:bB n es) (h:fit n es=true):aQ n es=[]:=(jJ hE).mpr (CT hE ((gC hE).mp h))
theorem Ci {n:Nat} {es:List Edge} {a b:Nat} {x:Int}:∀(f k0:Nat),(∃j,k0<=j/\j<k0+f/\entry (exactly n es a j) b=some x)->
  ∃k,fewest n es a b x f k0=some k/\k0<=k/\k<k0+f/\entry (exactly n es a k) b=some x/\∀k',k0<=k'->k' < k->entry (exactly n es a k') b≠some x
 | 0,k0,⟨j,h1,h2,_⟩=>by omega
 | f+1,k0,⟨j,h1,h2,h3⟩=>by
  by_cases c:entry (exactly n es a k0) b=some x
  ·refine⟨k0,?_,Nat.le_refl _,by omega,c,fun k' h h'=>by omega⟩
   unfold fewest
   rw[c]
   simp
  ·have hj:k0+1<=j:=by
    rcases Nat.lt_or_ge k0 j with q | q
    ·exact q
    ·have:j=k0:=by omega
     subst this
     exact absurd h3 c
   obtain⟨k,e1,e2,e3,e4,e5⟩:=Ci f (k0+1) ⟨j,hj,by omega,h3⟩
   refine⟨k,?_,by omega,by omega,e4,fun k' h h'=>?_⟩
   ·unfold fewest
    cases d:entry (exactly n es a k0) b with
    | none=>exact e1
    | some y=>
     have:¬y=x:=fun q=>c (by rw[d,q])
     dsimp only
     rw[if_neg this]
     exact e1
   ·rcases Nat.lt_or_ge k0 k' with q | q
    ·exact e5 k' q h'
    ·have:k'=k0:=by omega
     subst this
     exact c
theorem O6 {n:Nat} {es:List Edge} (hE:bB n es) (hN:bK es) {a b:Nat} (ha:a<n) (hb:b<n) {x:Int} (h:reach n es a b=some x) :
  ∃k,k<=n/\entry (bk n es b k) a=some x/\(∀k',k' < k->entry (bk n es b k') a≠some x)/\why n es a b=some (x,wayOf n es b k a x):=by
 have h1:=gf hE hN ha b
 rw[h] at h1
 obtain⟨⟨k0,hw⟩,LB⟩:=h1
 obtain⟨k',w',q1,q2,q3,q4⟩:=short hE hN ha hw
 have q5:=LB w' ⟨k',q4⟩
 have q6:w'=x:=by omega
 subst q6
 have q7:=fH hE ha k' b
 have q8:entry (exactly n es a k') b=some w':=by
  cases c:entry (exactly n es a k') b with
  | none=>rw[c] at q7;exact absurd q4 (q7 _)
  | some y=>
   rw[c] at q7
   have r1:=q7.2 _ q4
   have r2:=LB y ⟨k',q7.1⟩
   exact congrArg some (by omega)
 obtain⟨k,e1,_,e3,e4,e5⟩:=Ci (n:=n) (es:=es) (a:=a) (b:=b) (x:=w') (n+1) 0 ⟨k',Nat.zero_le _,by omega,q8⟩
 refine⟨k,by omega,by rw[kN hE ha hb];exact e4,fun j hj=>by rw[kN hE ha hb];exact e5 j (Nat.zero_le _) hj,?_⟩
 unfold why
 rw[h]
 dsimp only
 rw[e1]
theorem O7 {n:Nat} {es:List Edge} {a b:Nat} (h:reach n es a b=none):why n es a b=none:=by
 unfold why
 rw[h]
theorem zj (l:List Said) (k:Nat):(edgesIn l).filter (fun e=>!(e.key==k))=edgesIn (without l [k]):=by
 induction l with
 | nil=>rfl
 | cons x l ih=>
  show (edgesOf x++edgesIn l).filter _=edgesIn (List.filter _ (x::l))
  rw[List.filter_append,ih,List.filter_cons]
  unfold edgesOf
  by_cases c:x.key=k
  ·have e1:(!([k]:List Nat).contains x.key)=false:=by simp[c]
   rw[e1]
   simp[c,without]
  ·have e1:(!([k]:List Nat).contains x.key)=true:=by simp[c]
   rw[e1]
   have e2:(x.key==k)=false:=by simpa using c
   simp[e2,without]
   rfl
theorem D7 {n:Nat} {es:List Edge} (hE:bB n es) (hN:bK es) {e:Edge} (he:e∈es):∃x,reach n es e.src e.dst=some x:=by
 have h:=gf hE hN (hE e he).1 e.dst
 cases c:reach n es e.src e.dst with
 | some x=>exact⟨x,rfl⟩
 | none=>
  rw[c] at h
  exact absurd ⟨1,Walk.single he⟩ (h e.w)
theorem E5 {n:Nat} {l:List Said} (hE:bB n (edgesIn l)) (hN:bK (edgesIn l)) {x:Said} (hx:x∈l):(∃y,reach n (edgesIn l) x.a x.b=some y)/\∃y,reach n (edgesIn l) x.b x.a=some y:=by
 have h1:(⟨x.a,x.b,x.hi,x.key,0⟩:Edge)∈edgesIn l:=List.mem_flatMap.mpr ⟨x,hx,by simp[edgesOf]⟩
 have h2:(⟨x.b,x.a,-x.lo,x.key,1⟩:Edge)∈edgesIn l:=List.mem_flatMap.mpr ⟨x,hx,by simp[edgesOf]⟩
 exact⟨D7 hE hN h1,D7 hE hN h2⟩
theorem vk {n:Nat} {es:List Edge} {i j:Nat} (hi:i<n):cell (web n es) i j=reach n es i j:=by
 unfold cell web events
 rw[getD_eq_getElem?_getD,getElem?_map,List.getElem?_range hi]
 rfl
def rg (n:Nat) (es:List Edge) (i j:Nat):Bool:=rigid (web n es) i j
theorem vm {n:Nat} {es:List Edge} {i j:Nat} (hi:i<n) (hj:j<n):rg n es i j=true↔∃x y,reach n es i j=some x/\reach n es j i=some y/\x+y=0:=by
 unfold rg rigid
 rw[vk hi,vk hj]
 cases reach n es i j with
 | none=>simp
 | some x=>
  cases reach n es j i with
  | none=>simp
  | some y=>simp
theorem D8 {n:Nat} {es:List Edge} (hE:bB n es) (hN:bK es) {i:Nat} (hi:i<n):reach n es i i=some 0:=by
 have h:=gf hE hN hi i
 cases c:reach n es i i with
 | none=>rw[c] at h;exact absurd ⟨0,Walk.nil i⟩ (h 0)
 | some x=>
  rw[c] at h
  obtain⟨⟨k,hw⟩,hm⟩:=h
  have h1:=hm 0 ⟨0,Walk.nil i⟩
  have h2:=hN _ _ _ hw
  exact congrArg some (by omega)
theorem BA {n:Nat} {es:List Edge} (hE:bB n es) (hN:bK es) {i:Nat} (hi:i<n):rg n es i i=true:=(vm hi hi).mpr ⟨0,0,D8 hE hN hi,D8 hE hN hi,rfl⟩
theorem RO {n:Nat} {es:List Edge} {i j:Nat} (hi:i<n) (hj:j<n) (h:rg n es i j=true):rg n es j i=true:=by
 obtain⟨x,y,h1,h2,h3⟩:=(vm hi hj).mp h
 exact(vm hj hi).mpr ⟨y,x,h2,h1,by omega⟩
theorem F8 {n:Nat} {es:List Edge} (hE:bB n es) (hN:bK es) {i j k:Nat} (hi:i<n) (hj:j<n) {x y:Int} (h1:reach n es i j=some x) (h2:reach n es j k=some y):∃z,reach n es i k=some z/\z<=x+y:=by
 have l1:=gf hE hN hi j
 have l2:=gf hE hN hj k
 have l3:=gf hE hN hi k
 rw[h1] at l1
 rw[h2] at l2
 obtain⟨⟨k1,w1⟩,_⟩:=l1
 obtain⟨⟨k2,w2⟩,_⟩:=l2
 cases c:reach n es i k with
 | none=>rw[c] at l3;exact absurd ⟨_,w1.append w2⟩ (l3 _)
 | some z=>
  rw[c] at l3
  exact⟨z,rfl,l3.2 _ ⟨_,w1.append w2⟩⟩
theorem D9 {n:Nat} {es:List Edge} (hE:bB n es) (hN:bK es) {i j:Nat} (hi:i<n) {x:Int} (h:reach n es i j=some x):∃k,Walk es i j k x:=by
 have l1:=gf hE hN hi j
 rw[h] at l1
 exact l1.1
theorem O8 {n:Nat} {es:List Edge} (hE:bB n es) (hN:bK es) {i j k:Nat} (hi:i<n) (hj:j<n) (hk:k<n) (h1:rg n es i j=true) (h2:rg n es j k=true):rg n es i k=true:=by
 obtain⟨x,y,a1,a2,a3⟩:=(vm hi hj).mp h1
 obtain⟨u,v,b1,b2,b3⟩:=(vm hj hk).mp h2
 obtain⟨z,c1,c2⟩:=F8 hE hN hi hj a1 b1
 obtain⟨z',d1,d2⟩:=F8 hE hN hk hj b2 a2
 refine(vm hi hk).mpr ⟨z,z',c1,d1,?_⟩
 obtain⟨k1,w1⟩:=D9 hE hN hi c1
 obtain⟨k2,w2⟩:=D9 hE hN hk d1
 have:=hN _ _ _ (w1.append w2)
 omega
def gD (n:Nat) (es:List Edge) (i:Nat):Bool:=(events i).all fun j=>!rigid (web n es) j i
def cls (n:Nat) (es:List Edge) (i:Nat):List Nat:=(events n).filter fun j=>j==i||rigid (web n es) i j
theorem vn (n:Nat) (es:List Edge):classesOf n (web n es)=((events n).filter (gD n es)).map (cls n es):=rfl
theorem notFirst {n:Nat} {es:List Edge} (hE:bB n es) (hN:bK es):∀(m i:Nat),i<=m->i<n->gD n es i=false->∃f,f<i/\gD n es f=true/\rg n es f i=true
 | 0,i,hm,hi,h=>by
  have:i=0:=by omega
  subst this
  cases h
 | m+1,i,hm,hi,h=>by
  unfold gD at h
  have h':¬((events i).all fun j=>!rigid (web n es) j i)=true:=by rw[h];simp
  rw[all_eq_true] at h'
  have:∃j,j∈events i/\¬(!rigid (web n es) j i)=true:=by
   false_or_by_contra
   rename_i q
   exact h' fun j hj=>by
    false_or_by_contra
    rename_i q2
    exact q ⟨j,hj,q2⟩
  obtain⟨j,hj,hr⟩:=this
  have Ta:j<i:=by simpa [events] using hj
  have zk:rg n es j i=true:=by
   unfold rg
   cases c:rigid (web n es) j i with
   | true=>rfl
   | false=>rw[c] at hr;simp at hr
  cases c:gD n es j with
  | true=>exact⟨j,Ta,c,zk⟩
  | false=>
   obtain⟨f,h1,h2,h3⟩:=notFirst hE hN m j (by omega) (by omega) c
   exact⟨f,by omega,h2,O8 hE hN (by omega) (by omega) hi h3 zk⟩
theorem HP {n:Nat} {es:List Edge} {i j:Nat} (h:gD n es i=true) (hj:j<i):rg n es j i=false:=by
 have:=all_eq_true.mp h j (by simpa [events] using hj)
 unfold rg
 cases c:rigid (web n es) j i with
 | false=>rfl
 | true=>rw[c] at this;cases this
theorem M_ {n:Nat} {es:List Edge} (hE:bB n es) (hN:bK es) {i:Nat} (hi:i<n) (h:gD n es i=true):cls n es i=((List.range (n-i)).map fun m=>i+m).filter (rg n es i):=by
 unfold cls events
 have e:List.range n=List.range i++(List.range (n-i)).map fun m=>i+m:=by
  have:n=i+(n-i):=by omega
  conv=>lhs;rw[this]
  rw[List.range_add]
 rw[e,List.filter_append]
 have e1:(List.range i).filter (fun j=>j==i||rigid (web n es) i j)=[]:=by
  rw[List.filter_eq_nil_iff]
  intro j hj
  have Ta:j<i:=by simpa using hj
  have h1:=HP h Ta
  have h2:rigid (web n es) i j=false:=by
   cases c:rigid (web n es) i j with
   | false=>rfl
   | true=>rw[RO hi (by omega) c] at h1;cases h1
  rw[h2]
  simp;omega
 rw[e1,List.nil_append]
 refine List.filter_congr fun j hj=>?_
 by_cases c:j=i
 ·subst c
  have:=BA hE hN hi
  unfold rg at this
  show (j==j||rigid (web n es) j j)=rg n es j j
  rw[this,BA hE hN hi];simp
 ·have:(j==i)=false:=by simpa using c
  rw[this,Bool.false_or];rfl
theorem E6 {n:Nat} {es:List Edge} (hE:bB n es) (hN:bK es) {i j:Nat} (hi:i<n):j∈cls n es i↔j<n/\rg n es i j=true:=by
 unfold cls events
 rw[mem_filter,List.mem_range]
 constructor
 ·rintro⟨h1,h2⟩
  refine⟨h1,?_⟩
  by_cases c:j=i
  ·subst c;exact BA hE hN hi
  ·have:(j==i)=false:=by simpa using c
   rw[this,Bool.false_or] at h2;exact h2
 ·rintro⟨h1,h2⟩
  refine⟨h1,?_⟩
  unfold rg at h2
  rw[h2];simp
theorem CV {n:Nat} {es:List Edge} (hE:bB n es) (hN:bK es) {i:Nat} (hi:i<n) (h:gD n es i=true):∃r,cls n es i=i::r:=by
 rw[M_ hE hN hi h]
 have:n-i=(n-i-1)+1:=by omega
 rw[this,List.range_succ_eq_map,map_cons,List.filter_cons]
 have e:rg n es i (i+0)=true:=BA hE hN hi
 rw[if_pos e]
 exact⟨_,rfl⟩
def cN (c:List Nat) (y:Nat):Bool:=match c.getLast? with
 | none=>true
 | some z=>decide (z<y)
def ext (names:List Nat) (c:List Nat):List (List Nat):=(names.filter (cN c)).map fun y=>c++[y]
theorem nv:∀(k:Nat) (l:List Nat) (c:List Nat),c∈parts k l->(∀y,y∈c->y∈l)/\c.length=k
 | 0,l,c,h=>by
  unfold parts at h
  rw[mem_singleton.mp h]
  exact⟨by intro y hy;(cases hy),rfl⟩
 | k+1,[],c,h=>by unfold parts at h;cases h
 | k+1,x::r,c,h=>by
  unfold parts at h
  rcases mem_append.mp h with h | h
  ·obtain⟨c',hc,rfl⟩:=mem_map.mp h
   obtain⟨h1,h2⟩:=nv k r c' hc
   refine⟨fun y hy=>?_,by rw[length_cons,h2]⟩
   rcases mem_cons.mp hy with e | hy
   ·rw[e];simp
   ·exact mem_cons_of_mem _ (h1 y hy)
  ·obtain⟨h1,h2⟩:=nv (k+1) r c h
   exact⟨fun y hy=>mem_cons_of_mem _ (h1 y hy),h2⟩
theorem Kl {c:List Nat} {z:Nat} (h:c.getLast?=some z):z∈c:=List.mem_of_getLast? h
theorem ext_cons {x:Nat} {r:List Nat} (hx:∀y,y∈r->x<y) {c:List Nat} (hc:∀y,y∈c->y∈r):ext (x::r) (x::c)=(ext r c).map fun q=>x::q:=by
 unfold ext
 rw[map_map]
 cases c with
 | nil=>
  have e1:(x::r).filter (cN [x])=r:=by
   rw[List.filter_cons,if_neg (by simp[cN])]
   rw[List.filter_eq_self]
   intro y hy
   simp[cN];exact hx y hy
  have e2:r.filter (cN [])=r:=by
   rw[List.filter_eq_self]
   intro y hy;rfl
  rw[e1,e2]
  rfl
 | cons d c=>
  have e0:∀y,cN (x::d::c) y=cN (d::c) y:=by
   intro y
   unfold cN
   rw[List.getLast?_cons_cons]
  have e1:(x::r).filter (cN (x::d::c))=r.filter (cN (d::c)):=by
   rw[List.filter_cons,if_neg]
   ·exact List.filter_congr fun y _=>e0 y
   ·rw[e0]
    unfold cN
    cases q:(d::c).getLast? with
    | none=>simp at q
    | some z=>
     have:=hx z (hc z (Kl q))
     simp;omega
  rw[e1]
  rfl
theorem O9 {x:Nat} {r:List Nat} (hx:∀y,y∈r->x<y) {c:List Nat} (hc:∀y,y∈c->y∈r) (hl:c≠[]):ext (x::r) c=ext r c:=by
 unfold ext
 rw[List.filter_cons,if_neg]
 unfold cN
 cases q:c.getLast? with
 | none=>exact absurd (List.getLast?_eq_none_iff.mp q) hl
 | some z=>
  have:=hx z (hc z (Kl q))
  simp;omega
theorem yC {α β:Type} {f g:α->List β}:∀{l:List α},(∀x,x∈l->f x=g x)->l.flatMap f=l.flatMap g
 | [],_=>rfl
 | x::l,h=>by rw[List.flatMap_cons,List.flatMap_cons,h x (by simp),yC fun y hy=>h y (by simp[hy])]
theorem Ah {α β:Type} {f:α->List β} {g:β->β}:∀{l:List α},(l.flatMap fun x=>(f x).map g)=(l.flatMap f).map g
 | []=>rfl
 | x::l=>by rw[List.flatMap_cons,List.flatMap_cons,map_append,Ah]
theorem uy (l:List Nat):parts 0 l=[[]]:=by cases l <;> rfl
theorem qo:∀(l:List Nat),l.Pairwise (·< ·)->∀k,(parts k l).flatMap (ext l)=parts (k+1) l
 | [],_,0=>rfl
 | [],_,k+1=>rfl
 | x::r,h,0=>by
  rw[List.pairwise_cons] at h
  have ih:=qo r h.2 0
  show ext (x::r) []++[]=(parts 0 r).map (fun l=>x::l)++parts 1 r
  have e:(parts 0 r).flatMap (ext r)=ext r []:=by
   rw[uy,List.flatMap_cons,List.flatMap_nil,append_nil]
  rw[<- ih,e,append_nil,uy]
  unfold ext
  rw[List.filter_cons,if_pos (show cN [] x=true from rfl),map_cons]
  rfl
 | x::r,h,k+1=>by
  rw[List.pairwise_cons] at h
  have e1:parts (k+1) (x::r)=(parts k r).map (fun l=>x::l)++parts (k+1) r:=rfl
  have e2:parts (k+1+1) (x::r)=(parts (k+1) r).map (fun l=>x::l)++parts (k+1+1) r:=rfl
  rw[e1,e2,List.flatMap_append,List.flatMap_map]
  have f1:((parts k r).flatMap fun c=>ext (x::r) (x::c))=((parts k r).flatMap (ext r)).map fun l=>x::l:=by
   rw[yC (g:=fun c=>(ext r c).map fun l=>x::l) fun c hc=>ext_cons h.1 (nv k r c hc).1]
   exact Ah
  have f2:(parts (k+1) r).flatMap (ext (x::r))=(parts (k+1) r).flatMap (ext r):=by
   refine yC fun c hc=>?_
   obtain⟨h1,h2⟩:=nv _ _ _ hc
   exact O9 h.1 h1 (by intro e;rw[e] at h2;cases h2)
  rw[f1,f2,qo r h.2 k,qo r h.2 (k+1)]
theorem qp {ok:List Nat->Bool} {l:List Nat}:∀(f k0 k:Nat) {c:List Nat},k0<=k->k<k0+f->(∀j,k0<=j->j<k->(parts j l).find? ok=none)->(parts k l).find? ok=some c->firstPart ok l f k0=some c
 | 0,k0,k,c,h1,h2,_,_=>by omega
 | f+1,k0,k,c,h1,h2,h3,h4=>by
  unfold firstPart
  by_cases e:k=k0
  ·subst e
   rw[h4]
  ·rw[h3 k0 (Nat.le_refl _) (by omega)]
   exact qp f (k0+1) k (by omega) (by omega) (fun j a b=>h3 j (by omega) b) h4
theorem xA {ok:List Nat->Bool} {l:List Nat}:∀(f k0:Nat),(∀j,k0<=j->j<k0+f->(parts j l).find? ok=none)->firstPart ok l f k0=none
 | 0,k0,_=>rfl
 | f+1,k0,h=>by
  unfold firstPart
  rw[h k0 (Nat.le_refl _) (by omega)]
  exact xA f (k0+1) fun j a b=>h j (by omega) (by omega)
theorem F9:∀{l m:List Nat},l.Pairwise (·< ·)->m.Pairwise (·< ·)->(∀z,z∈l↔z∈m)->l=m
 | [],[],_,_,_=>rfl
 | [],b::m,_,_,h=>by have:=(h b).mpr (by simp);cases this
 | a::l,[],_,_,h=>by have:=(h a).mp (by simp);cases this
 | a::l,b::m,h1,h2,h=>by
  rw[List.pairwise_cons] at h1 h2
  have e:a=b:=by
   have p:=(h a).mp (by simp)
   have q:=(h b).mpr (by simp)
   rcases mem_cons.mp p with p | p
   ·exact p
   ·rcases mem_cons.mp q with q | q
    ·exact q.symm
    ·have:=h2.1 a p
     have:=h1.1 b q
     omega
  subst e
  congr 1
  refine F9 h1.2 h2.2 fun z=>?_
  constructor
  ·intro hz
   rcases mem_cons.mp ((h z).mp (by simp[hz])) with e | e
   ·subst e;exact absurd (h1.1 z hz) (by omega)
   ·exact e
  ·intro hz
   rcases mem_cons.mp ((h z).mpr (by simp[hz])) with e | e
   ·subst e;exact absurd (h2.1 z hz) (by omega)
   ·exact e
theorem yD {x z:Nat}:∀{l:List Nat},z∈rising x l↔z=x\/z∈l
 | []=>by simp[rising]
 | y::l=>by
  unfold rising
  split
  ·simp
  ·split
   ·rename_i h1 h2
    subst h2
    simp
   ·rw[mem_cons,yD,mem_cons]
    constructor
    ·rintro(h | h | h)
     ·exact .inr (.inl h)
     ·exact .inl h
     ·exact .inr (.inr h)
    ·rintro(h | h | h)
     ·exact .inr (.inl h)
     ·exact .inl h
     ·exact .inr (.inr h)
theorem zl {x:Nat}:∀{l:List Nat},l.Pairwise (·< ·)->(rising x l).Pairwise (·< ·)
 | [],_=>by simp[rising]
 | y::l,h=>by
  unfold rising
  have h':=List.pairwise_cons.mp h
  split
  ·rename_i c
   refine List.pairwise_cons.mpr ⟨fun z hz=>?_,h⟩
   rcases mem_cons.mp hz with e | e
   ·rw[e];exact c
   ·have:=h'.1 z e;omega
  ·split
   ·exact h
   ·refine List.pairwise_cons.mpr ⟨fun z hz=>?_,zl h'.2⟩
    rcases yD.mp hz with e | e
    ·rw[e];omega
    ·exact h'.1 z e
theorem kf (l:List Nat):(sortedKeys l).Pairwise (·< ·)/\∀z,z∈sortedKeys l↔z∈l:=by
 have key:∀(l m:List Nat),m.Pairwise (·< ·)->(l.foldl (fun m x=>rising x m) m).Pairwise (·< ·)/\∀z,z∈l.foldl (fun m x=>rising x m) m↔z∈m\/z∈l:=by
  intro l
  induction l with
  | nil=>intro m h;exact⟨h,by intro z;simp⟩
  | cons x l ih=>
   intro m h
   rw[List.foldl_cons]
   obtain⟨h1,h2⟩:=ih (rising x m) (zl h)
   refine⟨h1,fun z=>?_⟩
   rw[h2 z,yD,mem_cons]
   constructor
   ·rintro((h | h) | h)
    ·exact .inr (.inl h)
    ·exact .inl h
    ·exact .inr (.inr h)
   ·rintro(h | h | h)
    ·exact .inl (.inr h)
    ·exact .inl (.inl h)
    ·exact .inr h
 obtain⟨h1,h2⟩:=key l [] .nil
 exact⟨h1,fun z=>by rw[show sortedKeys l=l.foldl (fun m x=>rising x m) [] from rfl,h2 z];simp⟩
theorem D_ {l:List Nat} (h:l.Pairwise (·< ·)):sortedKeys l=l:=F9 (kf l).1 h (kf l).2
theorem HQ {n:Nat} {es mX:List Edge} (hE:bB n es) {to:Nat} (ht:to<n):∀(k i:Nat) (sum:Int),i<n->entry (bk n es to k) i=some sum->(∀e,e∈wayOf n es to k i sum->e∈mX)->Walk mX i to k sum
 | 0,i,sum,hi,h,_=>by
  rw[RN,nU] at h
  split at h
  ·rename_i c
   cases h
   rw[c.2]
   exact Walk.nil _
  ·cases h
 | k+1,i,sum,hi,h,hm=>by
  obtain⟨e,h1,h2,h3,h4⟩:=yA hE hi ht h
  rw[CU h1] at hm
  have ih:=HQ hE ht k e.dst (sum-e.w) (hE e h2).2 h4 fun x hx=>hm x (by simp[hx])
  have:=Walk.cons (hm e (by simp)) ih
  rw[h3] at this
  have e:e.w+(sum-e.w)=sum:=by omega
  rw[e] at this
  exact this
theorem Na {n:Nat} {es:List Edge} (hE:bB n es) {i:Nat} {x:Int} {l:List Edge} (h:ring n es=some (i,x,l)):x<0/\∀mX:List Edge,(∀e,e∈l->e∈mX)->∃k,Walk mX i i k x:=by
 unfold ring at h
 rw[ql] at h
 cases c:ringFrom n es n 0 (tab n es 0) with
 | none=>rw[c] at h;cases h
 | some r=>
  rw[c] at h
  obtain⟨k,j,y⟩:=r
  obtain⟨h1,h2,h3,h4⟩:=tJ _ _ c
  dsimp only at h1 h2 h3 h4
  have e:(j,y,wayOf n es j k j y)=(i,x,l):=Option.some.inj h
  cases e
  have h5:entry (bk n es i k) i=some x:=by rw[kN hE h2 h2];exact h3
  exact⟨h4,fun mX hm=>⟨k,HQ hE h2 k i x h2 h5 hm⟩⟩
theorem Nb {es:List Edge} {i j k:Nat} {w:Int} (h:Walk es i j k w):∃(f:Nat->Nat) (g:Nat->Int),f 0=i/\f k=j/\g 0=0/\g k=w/\∀a b,a<=b->b<=k->Walk es (f a) (f b) (b-a) (g b-g a):=by
 induction h with
 | nil=>
  refine⟨fun _=>i,fun _=>0,rfl,rfl,rfl,rfl,fun a b h1 h2=>?_⟩
  have:b-a=0:=by omega
  rw[this]
  exact Walk.nil i
 | @snoc k w e hw he ih=>
  obtain⟨f,g,h1,h2,h3,h4,h5⟩:=ih
  refine⟨fun a=>if a=k+1 then e.dst else f a,fun a=>if a=k+1 then w+e.w else g a,?_,?_,?_,?_,?_⟩
  ·dsimp only;rw[if_neg (by omega)];exact h1
  ·dsimp only;rw[if_pos rfl]
  ·dsimp only;rw[if_neg (by omega)];exact h3
  ·dsimp only;rw[if_pos rfl]
  ·intro a b ej hb
   dsimp only
   by_cases c1:b=k+1
   ·subst c1
    rw[if_pos rfl,if_pos rfl]
    by_cases c2:a=k+1
    ·subst c2
     rw[if_pos rfl,if_pos rfl,Nat.sub_self,Int.sub_self]
     exact Walk.nil _
    ·rw[if_neg c2,if_neg c2]
     have:=(h5 a k (by omega) (Nat.le_refl _))
     rw[h2,h4] at this
     have q:=Walk.snoc this he
     have e1:k-a+1=k+1-a:=by omega
     have e2:w-g a+e.w=w+e.w-g a:=by omega
     rw[e1,e2] at q
     exact q
   ·rw[if_neg c1,if_neg c1,if_neg (show ¬a=k+1 by omega),if_neg (show ¬a=k+1 by omega)]
    exact h5 a b ej (by omega)
theorem Nc:∀(n:Nat) (l:List Nat),(∀x,x∈l->x<n)->n<l.length->¬l.Nodup
 | 0,[],_,h=>by simp at h
 | 0,x::l,h,_=>by have:=h x (by simp);omega
 | n+1,l,h,hl=>by
  intro hn
  refine Nc n (l.filter fun x=>x != n) (fun x hx=>?_) ?_ (hn.sublist List.filter_sublist)
  ·obtain⟨h1,h2⟩:=mem_filter.mp hx
   have:=h x h1
   have:x≠n:=by simpa using h2
   omega
  ·have:l.length<=(l.filter fun x=>x != n).length+1:=by
    clear h hl
    induction l with
    | nil=>simp
    | cons a l ih=>
     rw[List.nodup_cons] at hn
     rw[List.filter_cons]
     by_cases c:a=n
     ·have e:(a != n)=false:=by simpa using c
      rw[e,if_neg Bool.false_ne_true]
      have e2:l.filter (fun x=>x != n)=l:=by
       rw[List.filter_eq_self]
       intro y hy
       have:y≠n:=fun q=>hn.1 (by rw[c,<- q];exact hy)
       simpa using this
      rw[e2];simp
     ·have e:(a != n)=true:=by simpa using c
      rw[e,if_pos rfl]
      have:=ih hn.2
      simp;omega
   omega
theorem yE {n:Nat} {es:List Edge} (hE:bB n es):∀(m k:Nat),k<=m->∀{i:Nat} {w:Int},i<n->Walk es i i k w->w<0->∃i' k' w',i' < n/\k'<=n/\w' < 0/\Walk es i' i' k' w'
 | 0,k,hk,i,w,hi,hw,h0=>⟨i,k,w,hi,by omega,h0,hw⟩
 | m+1,k,hk,i,w,hi,hw,h0=>by
  by_cases c:k<=n
  ·exact⟨i,k,w,hi,c,h0,hw⟩
  ·obtain⟨f,g,h1,h2,h3,h4,h5⟩:=Nb hw
   have eO:∀a,a<=k->f a<n:=by
    intro a ha
    have:=h5 0 a (Nat.zero_le _) ha
    rw[h1] at this
    exact this.lt hE hi
   have hp:=Nc n ((List.range k).map f) (fun x hx=>by
    obtain⟨a,ha,rfl⟩:=mem_map.mp hx
    exact eO a (by have:=List.mem_range.mp ha;omega)) (by simp;omega)
   have:∃a b,a<b/\b<k/\f a=f b:=by
    false_or_by_contra
    rename_i q
    refine hp ?_
    unfold List.Nodup
    rw[List.pairwise_iff_getElem]
    intro a b ha hb ej
    rw[List.getElem_map,List.getElem_map,List.getElem_range,List.getElem_range]
    intro e
    rw[length_map,List.length_range] at hb
    exact q ⟨a,b,ej,hb,e⟩
   obtain⟨a,b,ej,Ea,e⟩:=this
   have wm:=h5 a b (by omega) (by omega)
   rw[<- e] at wm
   by_cases c2:g b-g a<0
   ·exact yE hE m (b-a) (by omega) (eO a (by omega)) wm c2
   ·have w1:=h5 0 a (Nat.zero_le _) (by omega)
    have w2:=h5 b k (by omega) (Nat.le_refl _)
    rw[<- e] at w2
    have w3:=w1.append w2
    rw[h1,h2,h3,h4] at w3
    exact yE hE m (a-0+(k-b)) (by omega) hi w3 (by omega)
theorem Eb:∀(l:List Row) (i m:Nat) {r:Row} {x:Int},backs i l=[]->l[m]?=some r->entry r (i+m)=some x->0<=x
 | [],i,m,r,x,_,h,_=>by cases h
 | r0::l,i,0,r,x,hb,h,hx=>by
  cases h
  rw[Nat.add_zero] at hx
  unfold backs at hb
  rw[hx] at hb
  dsimp only at hb
  split at hb
  ·cases hb
  ·omega
 | r0::l,i,m+1,r,x,hb,h,hx=>by
  have hl:backs (i+1) l=[]:=by
   unfold backs at hb
   split at hb
   ·exact hb
   ·split at hb
    ·cases hb
    ·exact hb
  exact Eb l (i+1) m hl h (by rw[show i+1+m=i+(m+1) by omega];exact hx)
theorem xB {n:Nat} {es:List Edge}:∀(f k:Nat),ringFrom n es f k (tab n es k)=none->∀j,k<j->j<=k+f->leastOf (backs 0 (tab n es j))=none
 | 0,k,_,j,h1,h2=>by omega
 | f+1,k,h,j,h1,h2=>by
  rw[nt] at h
  cases c:leastOf (backs 0 (tab n es (k+1))) with
  | some y=>rw[c] at h;cases h
  | none=>
   rw[c] at h
   by_cases e:j=k+1
   ·rw[e];exact c
   ·exact xB f (k+1) h j (by omega) (by omega)
theorem GB {n:Nat} {es:List Edge} (hE:bB n es) (h:ring n es=none):bK es:=by
 intro i k w hw
 false_or_by_contra
 rename_i hneg
 have hi:i<n:=by
  rcases hw.head with ⟨h0,_,hw0⟩|⟨e,k',w',he,hs,_⟩
  ·omega
  ·rw[<- hs];exact(hE e he).1
 obtain⟨i',k',w',h1,h2,h3,h4⟩:=yE hE k k (Nat.le_refl _) hi hw (by omega)
 have hk:0<k':=by
  rcases h4.head with ⟨h0,_,hw0⟩|⟨e,k2,w2,_,_,_,QP,_⟩
  ·omega
  ·omega
 have hr:ringFrom n es n 0 (tab n es 0)=none:=by
  unfold ring at h
  rw[ql] at h
  cases c:ringFrom n es n 0 (tab n es 0) with
  | none=>rfl
  | some r=>rw[c] at h;cases h
 have hb:=HL (xB n 0 hr k' hk (by omega))
 have hl:=fH hE h1 k' i'
 cases c:entry (exactly n es i' k') i' with
 | none=>rw[c] at hl;exact hl _ h4
 | some x=>
  rw[c] at hl
  have:=hl.2 _ h4
  have:=Eb (tab n es k') 0 i' hb (E1 h1) (by rw[Nat.zero_add];exact c)
  omega
theorem o_ {n:Nat} {es:List Edge} (hE:bB n es):aQ n es=[]↔fit n es=true:=by
 rw[jJ hE]
 constructor
 ·intro h;exact(gC hE).mpr (GB hE h)
 ·intro h;exact CT hE ((gC hE).mp h)
def restOf (nm:Said->Nat) (l:List Said) (c:List Nat):List Said:=l.filter fun x=>!c.contains (nm x)
theorem Cj {n:Nat} {l:List Said} (ej:∀x,x∈l->x.a<n/\x.b<n) {nm:Said->Nat} {nk:Nat->Nat} (Ck:∀x,x∈l->nk x.key=nm x) {c0 c:List Nat} (h9:aQ n (edgesIn (restOf nm l c0))≠[])
  (hc:∀y,y∈(aQ n (edgesIn (restOf nm l c0))).map (fun e=>nk e.key)->y∉c):fit n (edgesIn (restOf nm l c))=false:=by
 have O_:∀(c:List Nat) x,x∈restOf nm l c->x∈l:=fun c x hx=>(mem_filter.mp hx).1
 have Tc:bB n (edgesIn (restOf nm l c0)):=mn fun x hx=>ej x (O_ c0 x hx)
 have hE:bB n (edgesIn (restOf nm l c)):=mn fun x hx=>ej x (O_ c x hx)
 rw[F0 hE]
 intro hN
 cases q:ring n (edgesIn (restOf nm l c0)) with
 | none=>exact h9 ((jJ Tc).mpr q)
 | some r=>
  obtain⟨i,x,w⟩:=r
  have e:aQ n (edgesIn (restOf nm l c0))=w:=by unfold aQ;rw[q]
  rw[e] at hc
  obtain⟨_,_,oN⟩:=qm Tc q
  obtain⟨h1,h2⟩:=Na Tc q
  obtain⟨k,hw⟩:=h2 (edgesIn (restOf nm l c)) fun e he=>by
   obtain⟨y,hy,QQ⟩:=my (oN e he)
   have Td:e.key=y.key:=by rcases QQ with rfl | rfl <;> rfl
   have MM:=O_ c0 y hy
   have hnc:nk e.key∉c:=hc _ (mem_map.mpr ⟨e,he,rfl⟩)
   rw[Td,Ck y MM] at hnc
   have hyr:y∈restOf nm l c:=mem_filter.mpr ⟨MM,by simpa using hnc⟩
   refine List.mem_flatMap.mpr ⟨y,hyr,?_⟩
   rcases QQ with rfl | rfl <;> simp[edgesOf]
  have:=hN _ _ _ hw
  omega
theorem Ec {n:Nat} {l:List Said} (hE:bB n (edgesIn l)) {i:Nat} {x:Int} {w:List Edge} (h:ring n (edgesIn l)=some (i,x,w)):(without l (sortedKeys (w.map fun e=>e.key))).length<l.length:=by
 obtain⟨⟨e,r,hw,_⟩,_,oN⟩:=qm hE h
 obtain⟨y,hy,QQ⟩:=my (oN e (by rw[hw];simp))
 have Td:e.key=y.key:=by rcases QQ with q | q <;> rw[q]
 unfold without
 refine List.length_filter_lt_length_iff_exists.mpr ⟨y,hy,?_⟩
 have:y.key∈sortedKeys (w.map fun e=>e.key):=((kf _).2 _).mpr (mem_map.mpr ⟨e,by rw[hw];simp,Td⟩)
 simpa using this
theorem HR (n:Nat):ring n (edgesIn [])=none:=CT (n:=n) (by intro e he;cases he) (by
 intro i k w hw
 rcases hw.head with ⟨_,_,h⟩|⟨e,_,_,he,_⟩
 ·omega
 ·cases he)
theorem Ai {n:Nat}:∀(f g:Nat) (l:List Said),(∀x,x∈l->x.a<n/\x.b<n)->l.length<=f->l.length<=g->peel n f l=peel n g l
 | 0,0,l,_,_,_=>rfl
 | 0,g+1,l,_,h,_=>by
  have:l=[]:=length_eq_zero_iff.mp (by omega)
  subst this
  unfold peel
  rw[HR]
 | f+1,0,l,_,_,h=>by
  have:l=[]:=length_eq_zero_iff.mp (by omega)
  subst this
  unfold peel
  rw[HR]
 | f+1,g+1,l,ej,h1,h2=>by
  unfold peel
  cases c:ring n (edgesIn l) with
  | none=>rfl
  | some r=>
   obtain⟨i,x,w⟩:=r
   dsimp only
   have:=Ec (mn ej) c
   rw[Ai f g (without l (sortedKeys (w.map fun e=>e.key))) (fun x hx=>ej x (mem_filter.mp hx).1) (by omega) (by omega)]
def m3 (k d:Int) (e:Edge):Bool:=decide ((e.key:Int)=k)&&decide ((e.dir:Int)=d)
def eF (es:List Edge):List Int->Option (List Edge)
 | []=>some []
 | [_]=>none
 | k::d::r=>match es.find? (m3 k d) with
  | none=>none
  | some e=>match eF es r with
   | none=>none
   | some fs=>some (e::fs)
theorem GC {es:List Edge} {k d:Int} {r:List Int}:eF es (k::d::r)=match es.find? (m3 k d) with
  | none=>none
  | some e=>match eF es r with
   | none=>none
   | some fs=>some (e::fs):=rfl
def wo:Nat->Int->List Edge->Option (Nat×Int)
 | i,sum,[]=>some (i,sum)
 | i,sum,e::r=>if e.src=i then wo e.dst (sum+e.w) r else none
theorem LC {i:Nat} {sum:Int} {e:Edge} {r:List Edge}:wo i sum (e::r)=if e.src=i then wo e.dst (sum+e.w) r else none:=rfl
theorem ny {k d:Int}:∀(l:List Said),(∀x,x∈l->(x.key:Int)≠k)->(edgesIn l).find? (m3 k d)=none
 | [],_=>rfl
 | x::l,h=>by
  have hx:=h x (by simp)
  show (edgesOf x++edgesIn l).find? (m3 k d)=none
  rw[List.find?_append,ny l fun y hy=>h y (by simp[hy])]
  simp[edgesOf,m3,hx]
theorem Cm {k d:Int}:∀(l:List Said),(l.map fun x=>x.key).Pairwise (·< ·)->∀x,x∈l->(x.key:Int)=k->
  (edgesIn l).find? (m3 k d)=if d=0 then some ⟨x.a,x.b,x.hi,x.key,0⟩ else if d=1 then some ⟨x.b,x.a,-x.lo,x.key,1⟩ else none
 | [],_,x,h,_=>by cases h
 | y::l,hs,x,h,hk=>by
  rw[map_cons,List.pairwise_cons] at hs
  show (edgesOf y++edgesIn l).find? (m3 k d)=_
  rw[List.find?_append]
  rcases mem_cons.mp h with e | h
  ·subst e
   have hn:(edgesIn l).find? (m3 k d)=none:=ny l fun z hz=>by
    have:=hs.1 z.key (mem_map.mpr ⟨z,hz,rfl⟩)
    omega
   rw[hn,Option.or_none]
   unfold edgesOf
   by_cases c0:d=0
   ·subst c0
    simp[m3,hk]
   ·by_cases c1:d=1
    ·subst c1
     simp[m3,hk]
    ·have e0:¬(0:Int)=d:=fun q=>c0 q.symm
     have e1:¬(1:Int)=d:=fun q=>c1 q.symm
     simp[m3,hk,c0,c1,e0,e1]
  ·have hy:(y.key:Int)≠k:=by
    have:=hs.1 x.key (mem_map.mpr ⟨x,h,rfl⟩)
    omega
   have hn:(edgesOf y).find? (m3 k d)=none:=by simp[edgesOf,m3,hy]
   rw[hn,Option.none_or]
   exact Cm l hs.2 x h hk
theorem m5 {s:State} (h:Well s):((standing s).map fun x=>x.key).Pairwise (·< ·):=h.sorted.sublist (List.filter_sublist.map _)
theorem Nd {s:State} (h:Well s) (k d:Int):edgeOf s k d=(edges s).find? (m3 k d):=by
 unfold edgeOf edges
 by_cases c:k<0
 ·rw[if_pos c,ny]
  intro x hx;omega
 ·rw[if_neg c]
  have hk:((k.toNat:Nat):Int)=k:=by omega
  cases q:saidBy s k.toNat with
  | none=>
   rw[ny]
   intro x hx
   have:=mz q x (bQ hx).1
   omega
  | some x=>
   obtain⟨h1,h2⟩:=mB q
   dsimp only
   by_cases o:x.on=false
   ·rw[if_pos o,ny]
    intro y hy e
    have Te:=bQ hy
    have:y=x:=Bz h.sorted Te.1 h1 (by omega)
    rw[this,o] at Te
    cases Te.2
   ·rw[if_neg o]
    have hx:x∈standing s:=mem_filter.mpr ⟨h1,by simpa using o⟩
    rw[Cm _ (m5 h) x hx (by omega)]
theorem Km {s:State} (h:Well s):∀(l:List Int) (i:Nat) (sum:Int),gone s i sum l=match eF (edges s) l with
  | none=>none
  | some fs=>wo i sum fs
 | [],i,sum=>rfl
 | [_],i,sum=>rfl
 | k::d::r,i,sum=>by
  unfold gone eF
  rw[Nd h]
  cases q:(edges s).find? (m3 k d) with
  | none=>rfl
  | some e=>
   dsimp only
   rw[Km h r]
   cases q2:eF (edges s) r with
   | none=>
    dsimp only
    split <;> rfl
   | some fs=>rfl
theorem JG {l:List Said} (h:(l.map fun x=>x.key).Pairwise (·< ·)):(edgesIn l).Pairwise fun e f=>¬(e.key=f.key/\e.dir=f.dir):=by
 induction l with
 | nil=>exact .nil
 | cons x l ih=>
  rw[map_cons,List.pairwise_cons] at h
  show (edgesOf x++edgesIn l).Pairwise _
  rw[List.pairwise_append]
  refine⟨?_,ih h.2,?_⟩
  ·unfold edgesOf
   simp
  ·intro e he f hf
   obtain⟨y,hy,hfy⟩:=my hf
   have h1:=h.1 y.key (mem_map.mpr ⟨y,hy,rfl⟩)
   have h2:e.key=x.key:=by
    unfold edgesOf at he
    simp at he
    rcases he with rfl | rfl <;> rfl
   have h3:f.key=y.key:=by rcases hfy with rfl | rfl <;> rfl
   omega
theorem Pa {es:List Edge} {l:List Int} {i:Nat} {k d:Int} (h1:l[2*i]?=some k) (h2:l[2*i+1]?=some d):l.drop (2*i)=k::d::l.drop (2*(i+1)):=by
 have a1:=(List.getElem?_eq_some_iff.mp h1)
 have a2:=(List.getElem?_eq_some_iff.mp h2)
 rw[List.drop_eq_getElem_cons a1.1,a1.2,List.drop_eq_getElem_cons a2.1,a2.2]
 rfl
theorem Kn {es:List Edge}:∀(l:List Int),l.length % 2≠0->eF es l=none
 | [],h=>by simp at h
 | [_],_=>rfl
 | k::d::r,h=>by
  unfold eF
  have:r.length % 2≠0:=by simp at h;omega
  rw[Kn r this]
  cases es.find? (m3 k d) <;> rfl
theorem st0 (s:State) (n:Int):step s [[0,n]]=if inR n 2 24=false then ans s [-1] else (⟨n.toNat,[]⟩,[0]):=rfl
theorem QR (s:State) (k w a b lo hi:Int):step s [[1,k,w,a,b,lo,hi]]=say s k w a b lo hi:=rfl
theorem Hm (s:State) (k:Int):step s [[2,k]]=turn s k false:=rfl
theorem Hn (s:State) (k:Int):step s [[3,k]]=turn s k true:=rfl
theorem MK (s:State) (k:Int):step s [[4,k]]=drop s k false:=rfl
theorem Dz (s:State) (k:Int):step s [[5,k]]=drop s k true:=rfl
theorem st6 (s:State):step s [[6]]=ans s [bit (fit s.n (edges s))]:=rfl
theorem ML (s:State):step s [[7]]=ans s (match ring s.n (edges s) with
  | none=>[0]
  | some (i,x,l)=>1::nat i::x::pairs l):=rfl
theorem st8 (s:State) (a b:Int):step s [[8,a,b]]=two s a b (ifFit s (open_ (neg (reach s.n (edges s) b.toNat a.toNat))++open_ (reach s.n (edges s) a.toNat b.toNat))):=rfl
theorem st9 (s:State) (o:Int):step s [[9,o]]=two s o o (ifFit s ((events s.n).flatMap fun i=>open_ (neg (reach s.n (edges s) i o.toNat)))):=rfl
theorem Tf (s:State) (o:Int):step s [[10,o]]=two s o o (ifFit s ((within_ s.n (edges s) o.toNat s.n).flatMap open_)):=rfl
theorem st11 (s:State) (t:List Int):step s [[11],t]=if t.length≠s.n\/(t.all fun x=>inR x (-FAR) FAR)=false then ans s [-2] else ans s (match (standing s).find? fun x=>!holds t x with
  | none=>[0]
  | some x=>[1,nat x.key]):=rfl
theorem Tg (s:State) (a:Int):step s [[12,a]]=two s a a (ifFit s (shown s.n (edges s) a.toNat)):=rfl
theorem Th (s:State) (a b:Int):step s [[13,a,b]]=two s a b (ifFit s (match why s.n (edges s) a.toNat b.toNat with
  | none=>[0]
  | some (x,l)=>1::x::pairs l)):=rfl
theorem Ti (s:State) (k:Int):step s [[14,k]]=if okK k=false then ans s [-1] else (match saidBy s k.toNat with
  | none=>ans s [-10]
  | some x=>if x.on=false then ans s [-7] else ifFit s [bit (follows s.n (edgesIn (without (standing s) [x.key])) x.a x.b x.lo x.hi)]):=rfl
theorem Tj (s:State) (a b lo hi:Int):step s [[15,a,b,lo,hi]]=if (okE s a&&(okE s b&&(okT lo&&okT hi)))=false then ans s [-1] else if a=b then ans s [-4] else if hi<lo then ans s [-5] else
   ifFit s [if follows s.n (edges s) a.toNat b.toNat lo hi=true then 1 else if fit s.n (edges s++edgesOf ⟨0,0,a.toNat,b.toNat,lo,hi,true⟩)=true then 0 else 2]:=rfl
theorem Tn (s:State) (k:Int):step s [[16,k]]=if okK k=false then ans s [-1] else (match saidBy s k.toNat with
  | none=>ans s [-10]
  | some x=>if x.on=false then ans s [-7] else ifFit s [-((reach s.n (edges s) x.b x.a).getD 0)-x.lo,x.hi-(reach s.n (edges s) x.a x.b).getD 0]):=rfl
theorem st17 (s:State):step s [[17]]=ifFit s (let w:=web s.n (edges s);let l:=classesOf s.n w;nat l.length::l.flatMap fun m=>listed m++m.map fun j=>(cell w (m.headD 0) j).getD 0):=rfl
theorem To (s:State) (a b:Int):step s [[18,a,b]]=two s a b (ifFit s (let hi:=reach s.n (edges s) a.toNat b.toNat;let lo:=neg (reach s.n (edges s) b.toNat a.toNat)
   [bit ((lo.map fun x=>decide (x<0)).getD true),bit ((lo.map fun x=>decide (x<=0)).getD true&&(hi.map fun x=>decide (0<=x)).getD true),bit ((hi.map fun x=>decide (0<x)).getD true)])):=rfl
theorem Tp (s:State) (m:Int):step s [[19,m]]=asked3 s m (foundPart (doubt s.n (standing s) m.toNat)):=rfl
theorem Tq (s:State) (m:Int):step s [[20,m]]=asked3 s m (foundPart (doubtWho s.n (standing s) m.toNat)):=rfl
theorem st21 (s:State):step s [[21]]=ans s (let l:=peel s.n 100 (standing s);nat l.length::l.flatMap listed):=rfl
theorem st22 (s:State):step s [[22]]=ifFit s ((web s.n (edges s)).flatMap fun r=>r.flatMap open_):=rfl
theorem Tr (s:State) (a:Int) (l:List Int):step s [[23,a],l]=if okE s a=false then ans s [-1] else (match gone s a.toNat 0 l with
  | none=>ans s [-2]
  | some (i,x)=>ans s [0,nat i,x]):=rfl
theorem st24 (s:State):step s [[24]]=ans s (nat s.n::nat s.said.length::s.said.flatMap shownSaid):=rfl
theorem Ts (s:State) (w:Int):step s [[25,w]]=if okK w=false then ans s [-1] else if (s.said.any fun x=>x.who==w.toNat)=false then ans s [-10] else ans s [bit (fit s.n (edgesIn ((standing s).filter fun x=>x.who==w.toNat)))]:=rfl
end WS
namespace WT
open PySem
def Aj (xs:Array Nat):Prop:=∀i j (hj:j<xs.size) (hi:i<j),xs[i]'(by omega)<xs[j]
theorem CW {xs:Array Nat} (hR:Aj xs) {j:Nat}:∀(f lo hi:Nat),hi-lo<=f->lo<=hi->hi<=xs.size->(∀i (h:i<xs.size),i<lo->xs[i]<j)->(∀i (h:i<xs.size),hi<=i->j<=xs[i])->
  SetTable.below.go xs j f lo hi<=xs.size/\(∀i (h:i<xs.size),i<SetTable.below.go xs j f lo hi->xs[i]<j)/\(∀i (h:i<xs.size),SetTable.below.go xs j f lo hi<=i->j<=xs[i])
 | 0,lo,hi,h1,h2,h3,h4,h5=>by
  have:lo=hi:=by omega
  subst this
  exact⟨h3,h4,h5⟩
 | f+1,lo,hi,h1,h2,h3,h4,h5=>by
  unfold SetTable.below.go
  by_cases c:lo<hi
  ·rw[if_pos c]
   dsimp only
   have hm:(lo+hi) / 2<xs.size:=by omega
   have e:xs.getD ((lo+hi) / 2) j=xs[(lo+hi) / 2]:=by simp[Array.getD,hm]
   rw[e]
   by_cases d:xs[(lo+hi) / 2]<j
   ·rw[if_pos d]
    refine CW hR f _ hi (by omega) (by omega) h3 (fun i h Tt=>?_) h5
    by_cases q:i=(lo+hi) / 2
    ·subst q;exact d
    ·have:=hR i ((lo+hi) / 2) hm (by omega)
     omega
   ·rw[if_neg d]
    refine CW hR f lo _ (by omega) (by omega) (by omega) h4 (fun i h Tt=>?_)
    by_cases q:i=(lo+hi) / 2
    ·subst q;omega
    ·have:=hR ((lo+hi) / 2) i h (by omega)
     omega
  ·rw[if_neg c]
   have:lo=hi:=by omega
   subst this
   exact⟨h3,h4,h5⟩
theorem uz {xs:Array Nat} (hR:Aj xs) (j:Nat):SetTable.below xs j<=xs.size/\(∀i (h:i<xs.size),i<SetTable.below xs j->xs[i]<j)/\(∀i (h:i<xs.size),SetTable.below xs j<=i->j<=xs[i]):=
 CW hR xs.size 0 xs.size (by omega) (by omega) (Nat.le_refl _) (fun i h h'=>by omega) (fun i h h'=>by omega)
theorem below_at {xs:Array Nat} (hR:Aj xs) {i:Nat} (hi:i<xs.size) {j:Nat} (hj:∀m (h:m<xs.size),m<i->xs[m]<j) (Tu:j<=xs[i]):SetTable.below xs j=i:=by
 obtain⟨h1,h2,h3⟩:=uz hR j
 rcases Nat.lt_trichotomy (SetTable.below xs j) i with q | q | q
 ·have:=h3 _ (by omega) (Nat.le_refl _)
  have:=hj (SetTable.below xs j) (by omega) q
  omega
 ·exact q
 ·have:=h2 i hi q
  omega
theorem Nf {xs:Array Nat} (hR:Aj xs) {j:Nat} (hj:∀m (h:m<xs.size),xs[m]<j):SetTable.below xs j=xs.size:=by
 obtain⟨h1,h2,h3⟩:=uz hR j
 rcases Nat.lt_or_ge (SetTable.below xs j) xs.size with q | q
 ·have:=h3 _ q (Nat.le_refl _)
  have:=hj _ q
  omega
 ·omega
theorem E7 {xs:Array Nat}:Aj xs↔xs.toList.Pairwise (·< ·):=by
 rw[List.pairwise_iff_getElem]
 constructor
 ·intro h i j hi hj hij
  have:=h i j (by simpa using hj) hij
  simpa using this
 ·intro h i j hj hi
  have:=h i j (by simp;omega) (by simpa using hj) hi
  simpa using this
theorem JH {α:Type} (xs:Array α) (p:Nat) (x:α) (hp:p<=xs.size):(SetTable.insertAt xs p x).toList=xs.toList.take p++x::xs.toList.drop p:=by
 unfold SetTable.insertAt
 simp
 rw[List.take_of_length_le (by simp)]
theorem LD {xs:Array Nat} (hR:Aj xs) {j:Nat} (hn:∀i (h:i<xs.size),xs[i]≠j):Aj (SetTable.insertAt xs (SetTable.below xs j) j):=by
 obtain⟨h1,h2,h3⟩:=uz hR j
 rw[E7,JH _ _ _ h1]
 have hP:=E7.mp hR
 rw[List.pairwise_append]
 refine⟨hP.sublist (List.take_sublist _ _),?_,?_⟩
 ·rw[List.pairwise_cons]
  refine⟨fun y hy=>?_,hP.sublist (List.drop_sublist _ _)⟩
  obtain⟨i,hi,rfl⟩:=List.mem_iff_getElem.mp hy
  rw[List.getElem_drop]
  rw[List.length_drop] at hi
  have eO:SetTable.below xs j+i<xs.size:=by simp at hi;omega
  have a:=h3 _ eO (by omega)
  have b:=hn _ eO
  simp;omega
 ·intro y hy z hz
  obtain⟨i,hi,rfl⟩:=List.mem_iff_getElem.mp hy
  rw[List.getElem_take]
  rw[length_take] at hi
  have eO:i<xs.size:=by simp at hi;omega
  have a:=h2 i eO (by omega)
  rcases mem_cons.mp hz with rfl | hz
  ·simpa using a
  ·obtain⟨m,hm,rfl⟩:=List.mem_iff_getElem.mp hz
   rw[List.getElem_drop]
   rw[List.length_drop] at hm
   have hlt2:SetTable.below xs j+m<xs.size:=by simp at hm;omega
   have:=hR i (SetTable.below xs j+m) hlt2 (by omega)
   simpa using this
theorem Ng (n:Nat):Aj (Array.range n):=by
 intro i j hj hi
 simp;exact hi
theorem Nh {t:SetTable} (hR:Aj t.place) {j:Nat} (h:∀i,t.slot j ≠ .live i):∀i (hi:i<t.place.size),t.place[i]≠j:=by
 intro i hi e
 have hb:SetTable.below t.place j=i:=below_at hR hi (fun m hm Tv=>by have:=hR m i hi Tv;omega) (by omega)
 refine h i ?_
 unfold SetTable.slot
 dsimp only
 rw[hb]
 have:t.place[i]?=some j:=by rw[Array.getElem?_eq_getElem hi,e]
 rw[this]
 simp
theorem CY {t:SetTable} {f:Nat->Int} {h:Int}:∀(fuel:Nat) (p:SetTable.Probe) {j:Nat} {dm:Option Nat},SetTable.probe.go t f h fuel p=some (.empty j dm)->(∀d,p.dummy=some d->t.slot d = .dummy)->t.slot j = .empty/\∀d,dm=some d->t.slot d = .dummy
 | 0,p,j,dm,e,_=>by cases e
 | fuel+1,p,j,dm,e,hd=>by
  unfold SetTable.probe.go at e
  have Tw:∀q:SetTable.Probe,(t.advance q).dummy=q.dummy:=by
   intro q
   unfold SetTable.advance
   split <;> rfl
  split at e
  ·rename_i hs
   cases e
   exact⟨hs,hd⟩
  ·rename_i hs
   refine CY fuel _ e ?_
   intro d dZ
   rw[Tw] at dZ
   cases dZ
   exact hs
  ·split at e
   ·cases e
   ·refine CY fuel _ e ?_
    intro d dZ
    rw[Tw] at dZ
    exact hd d dZ
theorem GD {t:SetTable} {h:Int} {j:Nat} {b:Bool} (e:t.freeSlot h=some (j,b)):∀i,t.slot j ≠ .live i:=by
 unfold SetTable.freeSlot at e
 split at e
 ·rename_i j' dm hp
  unfold SetTable.probe at hp
  obtain⟨h1,h2⟩:=CY _ _ hp (by intro d hd;cases hd)
  cases e
  cases dm with
  | none=>intro i;show t.slot j' ≠ _;rw[h1];intro z;cases z
  | some d=>intro i;show t.slot d≠_;rw[h2 d rfl];intro z;cases z
 ·cases e
def J (b:Bool) (t:SetTable):Prop:=Aj t.place/\t.led=b
theorem J.standIn {b:Bool} {t:SetTable} (h:J b t) (n:Nat):J b (t.standIn n):=⟨Ng n,h.2⟩
theorem J.orStandIn {b:Bool} {t:SetTable} (h:J b t) (n:Nat):J b (t.orStandIn n):=by
 unfold SetTable.orStandIn
 split
 ·exact h
 ·exact h.standIn n
theorem J.layNew {b:Bool} {t:SetTable} (h:J b t) (es:Array (Int×Value)) (k:Int) (x:Value):J b (layNew t es k x).2.1:=by
 unfold PySem.layNew
 cases c:t.freeSlot k with
 | none=>exact h.standIn _
 | some p=>
  obtain⟨slot,d⟩:=p
  have hp:J b (t.put slot).1:=by
   constructor
   ·show Aj (SetTable.insertAt t.place (SetTable.below t.place slot) slot)
    exact LD h.1 (Nh h.1 (GD c))
   ·exact h.2
  simp only
  exact hp.orStandIn _
theorem J.plain {b c:Bool} {t:SetTable} (h:J b t):J b { t with plain:=c }:=h
theorem J.fresh (b:Bool) (f m:Nat):J b (SetTable.fresh f m b):=⟨(by intro i j hj hi;exact absurd hj (by simp[SetTable.fresh])),rfl⟩
theorem J.relayAll {b:Bool} {t:SetTable} (h:J b t) (es:Array (Int×Value)) (n:Nat):J b (relayAll t es n).2.1:=by
 unfold PySem.relayAll
 split
 ·rename_i t' order hr
  dsimp only
  split
  ·show J b t'
   unfold SetTable.relaid SetTable.laid at hr
   cases c:SetTable.layClean (SetTable.sizeAbove n-1) (es.map (·.1)) with
   | none=>rw[c] at hr;cases hr
   | some owner=>
    rw[c] at hr
    simp only[Option.bind_eq_bind,Option.bind_some,Option.pure_def,Option.some.injEq,Prod.mk.injEq] at hr
    obtain⟨h1,_⟩:=hr
    subst h1
    refine⟨?_,h.2⟩
    rw[E7]
    dsimp only
    have key:∀(l:List Nat),l.Pairwise (·< ·)->((l.filterMap fun j=>(owner.getD j none).map fun x=>(j,x)).map (·.1)).Pairwise (·< ·)/\∀y,y∈(l.filterMap fun j=>(owner.getD j none).map fun x=>(j,x)).map (·.1)->y∈l:=by
     intro l
     induction l with
     | nil=>intro _;exact⟨.nil,fun y h=>h⟩
     | cons a l ih=>
      intro hp
      rw[List.pairwise_cons] at hp
      obtain⟨i1,i2⟩:=ih hp.2
      rw[List.filterMap_cons]
      cases d:owner.getD a none with
      | none=>
       simp only[Option.map_none]
       exact⟨i1,fun y hy=>mem_cons_of_mem _ (i2 y hy)⟩
      | some v=>
       simp only[Option.map_some]
       rw[map_cons]
       refine⟨List.pairwise_cons.mpr ⟨fun y hy=>hp.1 y (i2 y hy),i1⟩,fun y hy=>?_⟩
       rcases mem_cons.mp hy with rfl | hy
       ·simp
       ·exact mem_cons_of_mem _ (i2 y hy)
    exact(key _ List.pairwise_lt_range).1
  ·exact h.standIn _
 ·exact h.standIn _
theorem Ko {α:Type} {next:Nat->Nat}:∀(n k:Nat) (left:List α) (out:Array α),left.length=n->(pickOrder.go next n k left out).toList.Perm (out.toList++left)
 | 0,k,left,out,h=>by
  have:left=[]:=length_eq_zero_iff.mp h
  subst this
  simp[pickOrder.go]
 | n+1,k,left,out,h=>by
  unfold pickOrder.go
  have hm:next k % left.length<left.length:=Nat.mod_lt _ (by omega)
  rw[getElem?_eq_getElem hm]
  dsimp only
  refine(Ko n (k+1) _ _ (by rw[List.length_eraseIdx,if_pos hm];omega)).trans ?_
  rw[Array.toList_push,append_assoc]
  refine List.Perm.append_left _ ?_
  rw[List.eraseIdx_eq_take_drop_succ]
  generalize next k % left.length=i at hm
  have e:left=left.take i++left[i]::left.drop (i+1):=by simp
  conv=>rhs;rw[e]
  show (left[i]::(left.take i++left.drop (i+1))).Perm _
  exact(List.perm_middle).symm
theorem F_ {α:Type} (next:Nat->Nat) (xs:Array α):(pickOrder next xs).toList.Perm xs.toList:=by
 have:=Ko (next:=next) xs.size 0 xs.toList #[] (by simp)
 simpa [pickOrder] using this
open PySem PySem.Spec PyProof.Rows
theorem wq {us vs:List Value} (p:us.Perm vs):∀{ns:List Int},IntsAre vs ns->∃ms,IntsAre us ms/\ms.Perm ns:=by
 induction p with
 | nil=>intro ns h;exact⟨ns,h,List.Perm.refl _⟩
 | cons x _ ih=>
  intro ns h
  cases h with
  | cons n t h=>
   obtain⟨ms,h1,h2⟩:=ih h
   exact⟨n::ms,.cons n t h1,h2.cons n⟩
 | swap x y l=>
  intro ns h
  cases h with
  | cons n t h=>
   cases h with
   | cons m u h=>exact⟨m::n::_,.cons m u (.cons n t h),List.Perm.swap _ _ _⟩
 | trans _ _ ih1 ih2=>
  intro ns h
  obtain⟨ms,h1,h2⟩:=ih2 h
  obtain⟨ls,h3,h4⟩:=ih1 h1
  exact⟨ls,h3,h4.trans h2⟩
theorem ints_append:∀{us:List Value} {ns:List Int} {vs:List Value} {ms:List Int},IntsAre us ns->IntsAre vs ms->IntsAre (us++vs) (ns++ms)
 | _,_,_,_,.nil,h=>h
 | _,_,_,_,.cons n t h1,h=>.cons n t (ints_append h1 h)
theorem CZ:∀{us:List Value} {ns:List Int},IntsAre us ns->∀z,z∈ns↔∃t,Value.int z t∈us
 | _,_,.nil,z=>by simp
 | _,_,.cons n t h,z=>by
  rw[mem_cons,CZ h z]
  constructor
  ·rintro(rfl | ⟨u,hu⟩)
   ·exact⟨t,by simp⟩
   ·exact⟨u,mem_cons_of_mem _ hu⟩
  ·rintro⟨u,hu⟩
   rcases mem_cons.mp hu with e | hu
   ·cases e;exact .inl rfl
   ·exact .inr ⟨u,hu⟩
section
variable {prog:Program} {w:World} {A:Around} {E:Value->Shared->Prop} {s:Shared}
def oO (prog:Program) (w:World) (b:Bool) (h:Heap) (a:Addr) (ks:List Int):Prop:=
 ∃o es ep t,h.get? a=some o/\o.ExactSet/\o.data = .set es ep t/\ElemsOf (intKind prog w) es.toList/\IntsAre (es.toList.map (·.2)) ks/\ks.Nodup/\es.size<scanBound/\t.fits es.size=true/\J b t
theorem oO.at_ {b:Bool} {h h':Heap} {a:Addr} {ks:List Int} (H:oO prog w b h a ks) (k:∀o,h.get? a=some o->h'.get? a=some o):oO prog w b h' a ks:=by
 obtain⟨o,es,ep,t,zm,r⟩:=H
 exact⟨o,es,ep,t,k o zm,r⟩
theorem Ed {b:Bool} {h:Heap} {a:Addr} {o:Obj} {es:Array (Int×Value)} {ep:Nat} {t:SetTable} (zm:h.get? a=some o) (sR:o.ExactSet) (dat:o.data = .set es ep t)
  {mX:Array (Int×Value)} {t':SetTable} {ks:List Int} (HS:ElemsOf (intKind prog w) mX.toList) (hi:IntsAre (mX.toList.map (·.2)) ks) (hn:ks.Nodup) (room:mX.size<scanBound) (HU:t'.fits mX.size=true) (hj:J b t') :
  (h.update a (Obj.putSet mX t')).get? a=some { o with data:=.set mX (ep+1) t' }/\oO prog w b (h.update a (Obj.putSet mX t')) a ks:=by
 have quiet:(h.update a (Obj.putSet mX t')).get? a=some { o with data:=.set mX (ep+1) t' }:=by
  have:=Heap.get?_update_self (Obj.putSet mX t') zm (by rw[putSet_of mX t' dat];rfl)
  rw[putSet_of mX t' dat] at this;exact this
 exact⟨quiet,_,mX,ep+1,t',quiet,sR,rfl,HS,hi,hn,room,HU,hj⟩
theorem HV {b:Bool} {g:Bool->Sem Unit} (quiet:∀(b:Bool) (sh:Shared) (Qu:Unit->Shared->Prop),Qu () sh->wpAny (model prog w) A (g b) Qu E sh)
  {a:Addr} {o:Obj} {es:Array (Int×Value)} {ep:Nat} {t:SetTable} (zm:s.heap.get? a=some o) (sR:o.ExactSet) (dat:o.data = .set es ep t)
  {f9:Array (Int×Value)} {vo:SetTable} {ks:List Int} (Ni:ElemsOf (intKind prog w) f9.toList) (Nj:IntsAre (f9.toList.map (·.2)) ks) (Nk:ks.Nodup)
  (Nl:f9.size<scanBound) (fit2:vo.fits f9.size=true) (Tu:J b vo) {dummy:Bool} {R:Option Bool->Shared->Prop}
  (h:∀h' ff,Heap.SameBut a s.heap h'->oO prog w b h' a ff->ff.Perm ks->R (some true) { s with heap:=h' }) :
  wpAny (model prog w) A (do
    storeSet a f9 vo
    if (!dummy&&vo.tooFull)=true then do
      g (relayAll vo f9 (SetTable.grown f9.size)).2.2
      storeSet a (relayAll vo f9 (SetTable.grown f9.size)).1 (relayAll vo f9 (SetTable.grown f9.size)).2.1
      pure (some true)
     else pure (some true)) R E s:=by
 refine wpAny_bind (wpAny_storeSet_of zm dat ?_ (fits_of_scanBound Nl))
 obtain⟨Ee,gc⟩:=Ed (prog:=prog) (w:=w) zm sR dat Ni Nj Nk Nl fit2 Tu
 have Tx:=Heap.SameBut.update s.heap a (Obj.putSet f9 vo)
 split
 ·have hp:=relayAll_perm vo f9 (SetTable.grown f9.size)
  have Tz:=relayAll_fits vo f9 (SetTable.grown f9.size)
  have TB:=Tu.relayAll f9 (SetTable.grown f9.size)
  generalize hRl:relayAll vo f9 (SetTable.grown f9.size)=RP at hp Tz TB ⊢
  obtain⟨LF,tab3,gave2⟩:=RP
  dsimp only at hp Tz TB ⊢
  have el2:ElemsOf (intKind prog w) LF.toList:=Ni.perm hp
  obtain⟨QS,hi2,Hz⟩:=wq (hp.map (·.2)) Nj
  have size_eq:LF.size=f9.size:=by rw[<- Array.length_toList,hp.length_eq,Array.length_toList]
  have zb2:LF.size<scanBound:=by rw[size_eq];exact Nl
  refine wpAny_bind (quiet _ _ _ ?_)
  refine wpAny_bind (wpAny_storeSet_of Ee rfl ?_ (fits_of_scanBound zb2))
  obtain⟨_,Ak⟩:=Ed (prog:=prog) (w:=w) Ee sR rfl el2 hi2 (Hz.nodup_iff.mpr Nk) zb2 Tz TB
  exact wpAny_pure (h _ QS (Tx.trans (Heap.SameBut.update _ a _)) Ak Hz)
 ·exact wpAny_pure (h _ ks Tx gc (List.Perm.refl _))
theorem LG {b:Bool} {a:Addr} {ks:List Int} {k:Int} {tk:Tok} {Q:Bool->Shared->Prop} (hS:oO prog w b s.heap a ks) (hroom:ks.length+1<scanBound)
  (h:∀r h' ff,Heap.SameBut a s.heap h'->oO prog w b h' a ff->(∀z,z∈ff↔z∈ks\/z=k)->ff.length<=ks.length+1->Q r { s with heap:=h' }) :
  wpAny (model prog w) A (setAddHashed a (.int k tk) ((intKind prog w).hash k)) Q E s:=by
 obtain⟨o,es,ep,t,zm,sR,dat,HS,hi,hn,room,HU,hj⟩:=hS
 have isK:(intKind prog w).is k (.int k tk)=true:=intKind_is _ _ _ _
 have scan:(Value.int k tk).scannable=true:=rfl
 have size_eq:es.size=ks.length:=by
  have:=hi.length
  simpa using this
 have E8:k∈ks↔∃e∈es.toList,(intKind prog w).is k e.2=true:=by
  rw[CZ hi k]
  constructor
  ·rintro⟨u,hu⟩
   obtain⟨e,he,h2⟩:=mem_map.mp hu
   exact⟨e,he,by rw[h2];exact intKind_is _ _ _ _⟩
  ·rintro⟨e,he,h2⟩
   obtain⟨⟨k',sM,_⟩,_⟩:=HS e he
   have QP:k=k':=(intKind prog w).inj e.2 k k' h2 sM
   subst QP
   have:=(CZ hi)
   obtain⟨i,hii,TC⟩:=List.mem_iff_getElem.mp (mem_map.mpr ⟨e,he,rfl⟩:e.2∈es.toList.map (·.2))
   obtain⟨u,hu⟩:=IntsAre.int_at hi i e.2 (by rw[getElem?_eq_getElem hii,TC])
   rw[hu] at h2
   have HW:k=ks.getD i 0:=(intKind prog w).inj _ k _ h2 (intKind_is _ _ _ _)
   exact⟨u,by rw[HW,<- hu];exact mem_map.mpr ⟨e,he,rfl⟩⟩
 have Nl:es.size+1<scanBound:=by rw[size_eq];exact hroom
 unfold setAddHashed setAddHashedIn
 refine wpAny_holding (wpAny_bind (wpAny_setState_of zm dat HU ?_))
 dsimp only
 rw[byScan_of scan room HS]
 simp only[↓reduceIte]
 unfold setAddByScan
 refine wpAny_bind ?_
 refine wpAny_bind (wpAny_rule ?_)
 refine wpAny_bind (wpAny_setScan_of isK zm dat HU HS ?_)
 cases found:List.findIdx? (fun e=>(intKind prog w).is k e.2) es.toList with
 | some j=>
  dsimp only
  obtain⟨Al,hpj,_⟩:=List.findIdx?_eq_some_iff_getElem.mp found
  have hk:k∈ks:=E8.mpr ⟨es.toList[j],List.getElem_mem Al,hpj⟩
  refine wpAny_pure (wpAny_pure ?_)
  have e:s={ s with heap:=s.heap }:=by cases s;rfl
  rw[e]
  exact h _ s.heap ks (Heap.SameBut.refl a s.heap) ⟨o,es,ep,t,zm,sR,dat,HS,hi,hn,room,HU,hj⟩ (fun z=>⟨.inl,fun q=>q.elim id fun e=>e ▸ hk⟩) (by omega)
 | none=>
  dsimp only
  have hk:k∉ks:=fun hk=>by
   obtain⟨e,he,hp⟩:=E8.mp hk
   have:=List.findIdx?_eq_none_iff.mp found e he
   rw[hp] at this;cases this
  have RQ:∀(b:Bool) {sh:Shared} {Qu:Unit->Shared->Prop},Qu () sh->wpAny (model prog w) A (match b with | true=>rule "set.scan.the-table-gave-way" | false=>pure ()) Qu E sh:=
   fun b sh Qu qu=>by cases b <;> first | exact wpAny_pure qu | exact wpAny_rule qu
  have Kp:=layNew_perm t es ((intKind prog w).hash k) (.int k tk)
  have Nm:=layNew_fits t es ((intKind prog w).hash k) (.int k tk)
  have Ga:=hj.layNew es ((intKind prog w).hash k) (.int k tk)
  generalize lay_:layNew t es ((intKind prog w).hash k) (.int k tk)=L at Kp Nm Ga ⊢
  obtain⟨f9,t1,dummy,gave⟩:=L
  dsimp only at Kp Nm Ga ⊢
  rw[Array.toList_push] at Kp
  have Ni:ElemsOf (intKind prog w) f9.toList:=(HS.push isK scan).perm Kp
  have hi0:IntsAre ((es.toList++[((intKind prog w).hash k,Value.int k tk)]).map (·.2)) (ks++[k]):=by
   rw[map_append]
   exact ints_append hi (.cons k tk .nil)
  obtain⟨QT,Nj,t8⟩:=wq (Kp.map (·.2)) hi0
  have Nk:QT.Nodup:=t8.nodup_iff.mpr (List.nodup_append.mpr ⟨hn,by simp,by intro x hx y hy;rw[mem_singleton.mp hy];intro e;exact hk (e ▸ hx)⟩)
  have zb1:f9.size<scanBound:=by rw[<- Array.length_toList,Kp.length_eq,length_append,Array.length_toList];simpa using Nl
  refine wpAny_bind (RQ _ ?_)
  have TF:∀h' ff,Heap.SameBut a s.heap h'->oO prog w b h' a ff->ff.Perm QT->Q true { s with heap:=h' }:=by
   intro h' ff Am mq t9
   refine h true h' ff Am mq (fun z=>?_) ?_
   ·rw[t9.mem_iff,t8.mem_iff];simp
   ·rw[t9.length_eq,t8.length_eq];simp
  split
  ·refine wpAny_bind ?_
   rw[hashByValue_scannable 8 scan]
   refine wpAny_pure ?_
   refine HV (b:=b) ?_ zm sR dat Ni Nj Nk zb1 ?_ ?_ ?_
   ·intro b sh Qu qu;cases b <;> first | exact wpAny_pure qu | exact wpAny_rule qu
   ·split
    ·exact Nm
    ·exact SetTable.fits_plain_off Nm
   ·split
    ·exact Ga
    ·exact Ga.plain
   ·intro h' ff Am mq t9;dsimp only;exact wpAny_pure (TF h' ff Am mq t9)
  ·refine wpAny_bind (wpAny_pure ?_)
   simp only[↓reduceIte]
   refine HV (b:=b) ?_ zm sR dat Ni Nj Nk zb1 Nm Ga ?_
   ·intro b sh Qu qu;cases b <;> first | exact wpAny_pure qu | exact wpAny_rule qu
   ·intro h' ff Am mq t9;dsimp only;exact wpAny_pure (TF h' ff Am mq t9)
end
section
variable {prog:Program} {w:World} {A:Around} {R:Result->Shared->Prop} {I:Addr} {fp wr:List Addr} {G:Array GenState->Array GenState->Prop} {n:Nat} {P:Nat->Value->Prop} {St:Nat->Shared->Prop}
theorem JI {b:Bool} (W:WalksS prog w A.in1 I fp wr G n P St) (S:Addr) (QU:S∉fp)
  (val:Nat->Int) (isVal:∀i v,P i v->∃t,v = .int (val i) t) (room:n+1<scanBound) :
  ∀(k i:Nat) (s:Shared) (ks:List Int),n-i=k->i<=n->St i s->oO prog w b s.heap S ks->ks.length<=i->(∀z,z∈ks↔∃j,j<i/\val j=z)->
   (∀s' ff,Moved (S::wr) G s s'->oO prog w b s'.heap S ff->ff.length<=n->(∀z,z∈ff↔∃j,j<n/\val j=z)->R (.ok (.ret .none)) s')->
   codeAny (model prog w) A (.builtin "set.update.loop" ⟨[.ref S,.ref I],[]⟩) R s:=by
 have QV:S∉wr:=fun h=>QU (W.sub _ h)
 have TH:∀b∈wr,b∈S::wr:=fun b room=>mem_cons_of_mem _ room
 intro k
 induction k with
 | zero=>
  intro i s ks hk hi stI hS hl hz fin
  have bq:i=n:=by omega
  subst bq
  refine codeAny_builtin F.entry_set_update_loop ?_
  rw[Around.under_plainId F.plain_set_update_loop _]
  show wpAny _ A.in1 (pyNext (.ref I) >>= _) _ _ s
  refine wpAny_bind (W.done s _ _ stI fun s' mv=>?_)
  show wpAny _ A.in1 (ret Value.none) _ _ s'
  exact wpAny_pure (fin s' ks (mv.mono TH) (hS.at_ fun o e=>mv.heap S _ QV e) hl hz)
 | succ k ih=>
  intro i s ks hk hi stI hS hl hz fin
  have TJ:i<n:=by omega
  refine codeAny_builtin F.entry_set_update_loop ?_
  rw[Around.under_plainId F.plain_set_update_loop _]
  show wpAny _ A.in1 (pyNext (.ref I) >>= _) _ _ s
  refine wpAny_bind (W.item i s _ _ TJ stI fun v s' item hst' mv=>?_)
  obtain⟨t,rfl⟩:=isVal i v item
  have mq:oO prog w b s'.heap S ks:=hS.at_ fun o e=>mv.heap S _ QV e
  show wpAny _ A.in1 (holding [Value.int (val i) t] (setAdd S (.int (val i) t)) >>= _) _ _ s'
  refine wpAny_bind (wpAny_holding ?_)
  unfold setAdd
  refine wpAny_holding ?_
  refine wpAny_bind ((intKind prog w).pyHash (k:=val i) (intKind_is _ _ _ _) ?_)
  refine LG (s:={ s' with toks:=s'.toks+1 }) mq (by omega) fun r h' ff Am Ak hz2 jo=>?_
  refine wpAny_pure ⟨plainId_quiet F.plain_set_update_loop _,ih (i+1) _ ff (by omega) TJ (W.frame _ s' _ _ hst' (Nat.le_succ _) fun b room o e=>?_) Ak (by omega) (fun z=>?_) fun MB ks'' hm'' hS'' hl'' hz''=>?_⟩
  ·rw[Am.2 b (fun h:b=S=>QU (by rw[<- h];exact room))];exact e
  ·rw[hz2 z,hz z]
   constructor
   ·rintro(⟨j,h1,h2⟩|rfl)
    ·exact⟨j,by omega,h2⟩
    ·exact⟨i,by omega,rfl⟩
   ·rintro⟨j,h1,h2⟩
    by_cases e:j=i
    ·subst e;exact .inr h2.symm
    ·exact .inl ⟨j,by omega,h2⟩
  ·refine fin MB ks'' (Moved.trans W.gtrans ((mv.mono TH).then_heap (Nat.le_succ _) fun b o room e=>?_) hm'') hS'' hl'' hz''
   rw[Am.2 b (fun h:b=S=>room (by rw[h];exact List.mem_cons_self))];exact e
end
def sS (w:World):Bool:=w.params.followText "set-order"
def jr (w:World):Obj:={ cls:=.type "set",dict:=none,data:=.set #[] 0 (.fresh 0 0 (!sS w)) }
section
variable {prog:Program} {w:World} {A:Around} {E:Value->Shared->Prop} {s:Shared}
theorem newJ (v:Value) {Q1:Value->Shared->Prop} (h:Q1 (.ref s.heap.objs.size) { s with heap:=s.heap.push (jr w) }) :
  codeAny (model prog w) A (.call (.builtin "set.__new__") ⟨[.type "set",v],[]⟩) (wants Q1 E) s:=by
 refine codeAny_of_tree ?_
 show wpAny _ A.in1 (do checkBuiltinCall "set.__new__" ⟨[.type "set",v],[]⟩;again (.builtin "set.__new__" ⟨[.type "set",v],[]⟩)) _ _ s
 refine wpAny_bind (wpAny_of_eq (PySem.F.newCall_set_1 v) (wpAny_pure ⟨plainId_quiet PySem.F.plain_set_new _,codeAny_builtin PySem.F.entry_set_new ?_⟩))
 rw[Around.under_plainId PySem.F.plain_set_new _]
 unfold Builtin.«set.__new__» Builtin.Frozenset.newClass
 have subSet:=sub_set_self
 obtain⟨hp,g,d,tk,os⟩:=s
 dsimp only
 wp_walk
 refine wpAny_askSetting (wpAny_pure ?_)
 dsimp only
 simp only[newObj]
 refine wpAny_bind (wpAny_alloc (wpAny_pure ?_))
 exact wpAny_pure h
theorem Pb {l:Addr} {items:Array Value} {ns:List Int} {Q:Value->Shared->Prop}
  (hh:A.handled=none) (isL:s.heap.IsList l items) (TK:PyProof.Rows.IntsAre items.toList ns) (xx:items.size+1<scanBound)
  (h:∀(h':Heap) (tk:Nat) (ks:List Int),oO prog w (!sS w) h' s.heap.objs.size ks->ks.length<=ns.length->(∀z,z∈ks↔z∈ns)->
   (∀b o,b<s.heap.objs.size->s.heap.get? b=some o->h'.get? b=some o)->Q (.ref s.heap.objs.size) { s with heap:=h',toks:=tk }) :
  wpAny (model prog w) A (call (.type "set") [.ref l]) Q E s:=by
 have lenN:items.size=ns.length:=by have:=TK.length;simpa using this
 obtain⟨c,tl,hmro⟩:=PySem.F.called_set.mro
 have hmade:=PySem.F.called_set.made
 have oN:=PySem.F.called_set.sub
 refine wpAny_call (codeAny_of_tree ?_)
 show wpAny _ _ (callAny (.type "set") _) _ _ _
 refine wpAny_pure ⟨Code.quiet_builtin _ (by decide +kernel),codeAny_builtin PySem.F.entry_type_call ?_⟩
 rw[Around.under_plain (weight_type_call_type "set" [.ref l] []) rfl]
 have h1:=PySem.F.called_set.notType
 have h2:=PySem.F.called_set.canCreate
 have hct:=PySem.F.typeCall_set_1 (.ref l)
 repeat (any_goals (first | assumption | wp_step))
 refine codeAny_mono (newJ (.ref l) (E:=E) (Q1:=fun obj s1=>obj = .ref s.heap.objs.size/\s1={ s with heap:=s.heap.push (jr w) }) ⟨rfl,rfl⟩) fun r s1 hr=>?_
 cases r with
 | error e=>exact hr
 | ok fl=>
  cases fl with
  | ret obj=>
   obtain⟨rfl,rfl⟩:=hr
   have atS:(s.heap.push (jr w)).get? s.heap.objs.size=some (jr w):=Heap.get?_push_size _ rfl
   have hT:Shared.TypeIs { s with heap:=s.heap.push (jr w) } (.ref s.heap.objs.size) "set":=⟨_,atS,rfl⟩
   have hli:=PySem.F.called_set.init.lookup
   have hbi:=PySem.F.called_set.init.bind (.ref s.heap.objs.size)
   repeat (any_goals (first | assumption | wp_step))
   refine codeAny_mono (codeAny_call_builtin (R:=wants (fun r s2=>r = .none/\∃h' tk ks,s2={ s with heap:=h',toks:=tk }/\
     oO prog w (!sS w) h' s.heap.objs.size ks/\ks.length<=ns.length/\(∀z,z∈ks↔z∈ns)/\
     (∀b o,b<s.heap.objs.size->s.heap.get? b=some o->h'.get? b=some o)) E) PySem.F.called_set.init.plain PySem.F.entry_set_init (check_set_init_1 hT ?_)) fun r2 s2 sT=>?_
   ·obtain⟨ol,hol,oV,nl,Kq⟩:=isL
    obtain⟨ocls,odict,odata,TL⟩:=ol
    simp only at oV Kq
    subst oV;subst Kq
    have hol':(s.heap.push (jr w)).get? l=some { cls:=.type "list",dict:=odict,data:=.seq items nl,slots:=TL }:=Heap.get?_push_of_some _ hol
    have hsls:=PySem.F.sub_list_set
    have hslf:=PySem.F.sub_list_frozenset
    have h9:(Value.type "list" == Value.type "dict")=false:=by decide
    have TM:(s.heap.push (jr w)).IsList l items:=⟨_,hol',rfl,nl,rfl⟩
    have atS':(s.heap.push (jr w)).get? s.heap.objs.size=some { cls:=.type "set",dict:=none,data:=.set #[] 0 (.fresh 0 0 (!sS w)) }:=atS
    unfold Builtin.«set.__init__» noKeywords Builtin.Frozenset.updateFrom
    generalize TN:pyIter=PI
    wp_walk
    subst TN
    refine wpAny_pyIter_list TM ?_
    refine wpAny_bind (wpAny_runValue ?_)
    have ltS:l<s.heap.objs.size:=Heap.lt_size hol
    have noH:A.in1.in1.in1.handled=none:=by simp[hh]
    have neI:l≠(s.heap.push (jr w)).objs.size:=by
     rw[Heap.size_push];exact Nat.ne_of_lt (Nat.lt_succ_of_lt ltS)
    have notF:s.heap.objs.size∉[(s.heap.push (jr w)).objs.size,l]:=by
     rw[Heap.size_push];simp only[mem_cons,mem_singleton,List.not_mem_nil,or_false,not_or]
     exact⟨Nat.ne_of_lt (Nat.lt_succ_self _),Nat.ne_of_gt ltS⟩
    have vals:∀(i:Nat) (v:Value),items[i]?=some v->∃t,v = .int ((fun i=>ns.getD i 0) i) t:=fun i v hv=>
     PyProof.Rows.IntsAre.int_at TK i v (by rw[Array.getElem?_toList];exact hv)
    refine JI (b:=!sS w) ((Walks.list noH _ l neI items).toS) s.heap.objs.size
     notF (fun i=>ns.getD i 0) vals xx (items.size-0) 0 _ [] (by omega) (Nat.zero_le _)
     ⟨⟨_,Heap.get?_push_size _ rfl,rfl,rfl⟩,(TM.push _)⟩ ?hS0 (Nat.le_refl _) (by intro z;simp) ?hR
    case hS0=>
     exact⟨_,#[],0,_,Heap.get?_push_of_some _ atS',⟨rfl,rfl,rfl⟩,rfl,(by intro e he;simp at he),.nil,.nil,by decide,rfl,J.fresh _ 0 0⟩
    case hR=>
     intro s' ks mv mq hl' lM
     obtain⟨h',g',d',QJ,Sw⟩:=s'
     have eg:g'=s.gens:=mv.gens
     have ed:d'=s.drawn:=mv.drawn
     have eo:Sw=s.os:=mv.os
     subst eg;subst ed;subst eo
     show wpAny _ _ _ _ _ _
     refine wpAny_pure ?_
     show wpAny _ _ (ret Value.none) _ _ _
     refine wpAny_pure ⟨rfl,h',QJ,ks,rfl,mq,by omega,fun z=>?_,fun b o room e=>?_⟩
     ·rw[lM z,List.mem_iff_getElem]
      constructor
      ·rintro⟨j,h1,h2⟩
       refine⟨j,by omega,?_⟩
       have hj:j<ns.length:=by omega
       simp[getD_eq_getElem?_getD,getElem?_eq_getElem hj] at h2
       exact h2
      ·rintro⟨j,h1,h2⟩
       refine⟨j,by omega,?_⟩
       simp[getD_eq_getElem?_getD,getElem?_eq_getElem h1]
       exact h2
     ·have nb1:b≠s.heap.objs.size:=Nat.ne_of_lt room
      have nb2:b≠(s.heap.push (jr w)).objs.size:=by
       rw[Heap.size_push];exact Nat.ne_of_lt (Nat.lt_succ_of_lt room)
      exact mv.heap b o (by simp only[mem_cons,mem_singleton,List.not_mem_nil,or_false,not_or];exact⟨nb1,nb2⟩) (Heap.get?_push_of_some _ (Heap.get?_push_of_some _ e))
   ·cases r2 with
    | error e=>exact sT
    | ok fl2=>
     cases fl2 with
     | ret r=>
      obtain⟨rfl,h',tk,ks,rfl,a1,a2,a3,a4⟩:=sT
      repeat (any_goals (first | assumption | wp_step))
      exact h _ _ _ a1 a2 a3 a4
     | _=>exact sT.elim
  | _=>exact hr.elim
end
theorem jK:Slot "set_iterator" "__next__" "set_iterator.__next__":=
 .of (owner:="set_iterator") (n:="__next__") (by rw[typeLookup_type,builtinLookup_eq_fast];kernel_rfl) (by decide +kernel) (by decide +kernel) (by decide +kernel)
  (by first | exact .inl (by decide +kernel) | exact .inr (by decide +kernel)) (by rw[isSubtype_type];kernel_rfl)
theorem BB:Slot "set_iterator" "__iter__" "set_iterator.__iter__":=
 .of (owner:="set_iterator") (n:="__iter__") (by rw[typeLookup_type,builtinLookup_eq_fast];kernel_rfl) (by decide +kernel) (by decide +kernel) (by decide +kernel)
  (by first | exact .inl (by decide +kernel) | exact .inr (by decide +kernel)) (by rw[isSubtype_type];kernel_rfl)
theorem yF:entryFor table "set_iterator.__next__"=some Builtin.«set_iterator.__next__»:=entryFor_of_tree (by kernel_rfl)
theorem zo:entryFor table "set_iterator.__iter__"=some Builtin.«dict_keyiterator.__iter__»:=
 entryFor_alias (id':="dict_keyiterator.__iter__") (by kernel_rfl) rfl (by decide +kernel) (by kernel_rfl)
theorem E9:entryFor table "set.__iter__"=some Builtin.«frozenset.__iter__»:=
 entryFor_alias (id':="frozenset.__iter__") (by kernel_rfl) rfl (by decide +kernel) (by kernel_rfl)
theorem HX:Manifest.owners.lookup (String.ofList ['r','o','t','a','r','e','t','i','_','t','e','s'].reverse)=some Manifest.sig_set_iterator:=by kernel_rfl
theorem BC (a:Value):argsOk "set_iterator.__next__" ⟨[a],[]⟩:=by
 unfold argsOk
 rw[signature?_of (id:="set_iterator.__next__") (n:=['_','_','t','x','e','n','_','_']) (o:=['r','o','t','a','r','e','t','i','_','t','e','s']) (by kernel_rfl) HX]
 kernel_rfl
theorem An (a:Value):argsOk "set_iterator.__iter__" ⟨[a],[]⟩:=by
 unfold argsOk
 rw[signature?_of (id:="set_iterator.__iter__") (n:=['_','_','r','e','t','i','_','_']) (o:=['r','o','t','a','r','e','t','i','_','t','e','s']) (by kernel_rfl) HX]
 kernel_rfl
theorem HY:typeLookup (.type "set") "__len__"=pure (some (.builtin "set.__len__")):=by rw[typeLookup_type,builtinLookup_eq_fast];kernel_rfl
def nX (h:Heap) (it:Addr) (first:Value) (i:Nat) (a:Addr) (n ep:Nat):Prop:=∃o,h.get? it=some o/\o.cls = .type "set_iterator"/\o.data = .fields #[first,rawInt i,.ref a,rawInt n,rawInt ep]
theorem nX.typeIs {s:Shared} {it:Addr} {first:Value} {i n ep:Nat} {a:Addr} (x:nX s.heap it first i a n ep):s.TypeIs (.ref it) "set_iterator":=let ⟨o,ho,hc,_⟩:=x;⟨o,ho,hc⟩
theorem nX.at_ {h h':Heap} {it:Addr} {first:Value} {i n ep:Nat} {a:Addr} (x:nX h it first i a n ep) (k:∀o,h.get? it=some o->h'.get? it=some o):nX h' it first i a n ep:=let ⟨o,ho,r⟩:=x;⟨o,k o ho,r⟩
def qr (h:Heap) (a:Addr) (es:Array (Int×Value)) (ep:Nat) (t:SetTable):Prop:=∃o,h.get? a=some o/\o.ExactSet/\o.data = .set es ep t/\t.fits es.size=true
theorem qr.at_ {h h':Heap} {a:Addr} {es:Array (Int×Value)} {ep:Nat} {t:SetTable} (x:qr h a es ep t) (k:∀o,h.get? a=some o->h'.get? a=some o):qr h' a es ep t:=let ⟨o,ho,r⟩:=x;⟨o,k o ho,r⟩
theorem qr.typeIs {s:Shared} {a:Addr} {es:Array (Int×Value)} {ep:Nat} {t:SetTable} (x:qr s.heap a es ep t):s.TypeIs (.ref a) "set":=let ⟨o,ho,hx,_⟩:=x;⟨o,ho,hx.1⟩
section
variable {prog:Program} {w:World} {A:Around} {E:Value->Shared->Prop} {s:Shared}
theorem RR {src:Source} {n:Nat} {Q:Nat->Shared->Prop} (hn:n≠0) (h:∀i d,i<n->Q i { s with drawn:=d }):wpAny (model prog w) A (choose src n) Q E s:=
 fun Γ p _=>⟨hn,h _ _ (Nat.mod_lt _ (Nat.pos_of_ne_zero hn))⟩
theorem Ef {α:Type}:∀(n:Nat) (xs:List α) (s:Shared) {Q:List α->Shared->Prop},xs.length=n->(∀ys d,ys.Perm xs->Q ys { s with drawn:=d })->wpAny (model prog w) A (drawOrder n xs) Q E s
 | 0,[],s,Q,_,h=>by
  have e:s={ s with drawn:=s.drawn }:=by cases s;rfl
  unfold drawOrder
  rw[e]
  exact wpAny_pure (h [] s.drawn (List.Perm.refl _))
 | n+1,x::xs,s,Q,hl,h=>by
  unfold drawOrder
  refine wpAny_bind (RR (by simp) fun i d hi=>?_)
  rw[getElem?_eq_getElem hi]
  dsimp only
  refine wpAny_bind (Ef n ((x::xs).eraseIdx i) _ (by rw[List.length_eraseIdx,if_pos hi];simpa using hl) fun ys d' hp=>wpAny_pure ?_)
  refine h _ d' ?_
  refine(hp.cons _).trans ?_
  rw[List.eraseIdx_eq_take_drop_succ]
  generalize hz:(x::xs)=zs at hi
  have e:zs=zs.take i++zs[i]::zs.drop (i+1):=by simp
  conv=>rhs;rw[e]
  exact(List.perm_middle).symm
theorem Pc {it a:Addr} {first:Value} {i n ep:Nat} {es:Array (Int×Value)} {t:SetTable} {slot:Nat} {x:Value} {uA:Nat} {Q:Option Value->Shared->Prop}
  (hit:nX s.heap it (rawInt slot) i a n ep) (hS:qr s.heap a es ep t) (hn:es.size=n)
  (hx:∀(R:Option (Value×Nat)->Shared->Prop) (E:Value->Shared->Prop),R (some (x,uA)) s->wpAny (model prog w) A.in1 (setNext a slot i ep) R E s)
  (hQ:∀h',nX h' it (rawInt uA) (i+1) a n ep->Heap.SameBut it s.heap h'->Q (some x) { s with heap:=h' }) :
  wpAny (model prog w) A (pyNext (.ref it)) Q E s:=by
 obtain⟨o,ho,hc,hd⟩:=id hit
 obtain⟨oa,Gb,hex,Gd,hf⟩:=id hS
 unfold pyNext
 refine wpAny_bind (wpAny_attempt (wpAny_callSpecial?_slot (name:=Str.ofString "__next__") hit.typeIs jK
  (wpAny_call_entry jK hit.typeIs yF ?_ (BC _))))
 refine wpAny_bind (wpAny_pure ?_)
 refine wpAny_bind (wpAny_fieldsOf ho hd ?_)
 dsimp only[rawInt]
 refine wpAny_bind (wpAny_setEntries_of Gb Gd hf ?_)
 rw[if_neg (by rw[hn];simp)]
 simp only[Int.toNat_natCast]
 refine wpAny_bind (hx _ _ ?_)
 dsimp only
 refine wpAny_bind (wpAny_setField ho hd (by simp) ?_)
 have Ee:=Heap.get?_update_self (Obj.mapFields (·.setIfInBounds 0 (Value.int (uA:Int) 0))) ho (Obj.isFreed_of_fields (Obj.data_mapFields hd _))
 have C0:=Obj.data_mapFields hd (·.setIfInBounds 0 (Value.int (uA:Int) 0))
 refine wpAny_bind (wpAny_setField Ee C0 (by simp) ?_)
 have at2:=Heap.get?_update_self (Obj.mapFields (·.setIfInBounds 1 (Value.int ((i:Int)+1) 0))) Ee (Obj.isFreed_of_fields (Obj.data_mapFields C0 _))
 have dat2:=Obj.data_mapFields C0 (·.setIfInBounds 1 (Value.int ((i:Int)+1) 0))
 refine wpAny_pure ⟨_,rfl,wpAny_pure (hQ _ ⟨_,at2,?_,?_⟩ ((Heap.SameBut.update ..).trans (Heap.SameBut.update ..)))⟩
 ·rw[Obj.cls_mapFields,Obj.cls_mapFields];exact hc
 ·rw[dat2];simp[rawInt]
theorem QW {it:Addr} {o:Obj} {vs:Array Value} {k:Nat} {Q:Option Value->Shared->Prop} (hh:A.handled=none) (ho:s.heap.get? it=some o) (hd:o.data = .fields vs) (hk:k<vs.size)
  (hQ:∀h',Heap.ExtBut it s.heap h'->Q none { s with heap:=h' }) :
  wpAny (model prog w) A.in1 (do
     setField (Value.ref it) k Value.none
     let ex <- newExc (Value.type "StopIteration") []
     raiseNew ex) (fun fin s'=>∃v,fin=Fin.done (Flow.ret v)/\wpAny (model prog w) A (pure (some v)) Q E s')
   (fun e s'=>wpAny (model prog w) A (do
     let b <- isInstance e (Value.type "StopIteration")
     if b=true then pure none else throw e) Q E s') s:=by
 refine wpAny_bind (wpAny_setField ho hd hk ?_)
 refine wpAny_bind ?_
 simp only[newExc,newTuple]
 refine wpAny_bind (wpAny_newObj_type ?_ (by size_fits))
 refine wpAny_bind (m:=firstArgMember _ _) (wpAny_of_eq (a:=Value.none) (by first | rfl | (simp only[firstArgMember];rfl)) ?_)
 refine wpAny_newObj_type ?_ (by size_fits)
 simp only[raiseNew]
 refine wpAny_bind (wpAny_handled ?_)
 rw[show A.in1.handled=none from hh]
 refine wpAny_bind (wpAny_pure (wpAny_throw ?_))
 refine wpAny_bind (wpAny_isInstance (T:="StopIteration") (b:=true) ⟨_,Heap.get?_push_size _ rfl,rfl⟩ isSubtype_stop ?_)
 exact wpAny_pure (hQ _ (((Heap.SameBut.update ..).extBut.push _).push _))
theorem RS {it a:Addr} {i n ep:Nat} {es:Array (Int×Value)} {t:SetTable} {slot:Nat} {Q:Option Value->Shared->Prop} (hh:A.handled=none)
  (hit:nX s.heap it (rawInt slot) i a n ep) (hS:qr s.heap a es ep t) (hn:es.size=n)
  (hx:∀(R:Option (Value×Nat)->Shared->Prop) (E:Value->Shared->Prop),R none s->wpAny (model prog w) A.in1 (setNext a slot i ep) R E s)
  (hQ:∀h',Heap.ExtBut it s.heap h'->Q none { s with heap:=h' }) :
  wpAny (model prog w) A (pyNext (.ref it)) Q E s:=by
 obtain⟨o,ho,hc,hd⟩:=id hit
 obtain⟨oa,Gb,hex,Gd,hf⟩:=id hS
 unfold pyNext
 refine wpAny_bind (wpAny_attempt (wpAny_callSpecial?_slot (name:=Str.ofString "__next__") hit.typeIs jK
  (wpAny_call_entry jK hit.typeIs yF ?_ (BC _))))
 refine wpAny_bind (wpAny_pure ?_)
 refine wpAny_bind (wpAny_fieldsOf ho hd ?_)
 dsimp only[rawInt]
 refine wpAny_bind (wpAny_setEntries_of Gb Gd hf ?_)
 rw[if_neg (by rw[hn];simp)]
 simp only[Int.toNat_natCast]
 refine wpAny_bind (hx _ _ ?_)
 dsimp only
 exact QW hh ho hd (by simp) hQ
def C1 (h:Heap) (tp:Addr) (ps:List Nat):Prop:=∃o c,h.get? tp=some o/\o.data = .seq (ps.map fun (i:Nat)=>rawInt i).toArray c
theorem C1.at_ {h h':Heap} {tp:Addr} {ps:List Nat} (x:C1 h tp ps) (k:∀o,h.get? tp=some o->h'.get? tp=some o):C1 h' tp ps:=let ⟨o,c,ho,r⟩:=x;⟨o,c,k o ho,r⟩
theorem Nn {it a tp:Addr} {i n ep p:Nat} {es:Array (Int×Value)} {t:SetTable} {ps:List Nat} {x:Value} {e0:Int} {Q:Option Value->Shared->Prop}
  (hit:nX s.heap it (.ref tp) i a n ep) (hS:qr s.heap a es ep t) (hn:es.size=n) (hT:C1 s.heap tp ps) (hp:ps[i]?=some p) (hx:es[p]?=some (e0,x))
  (hQ:∀h',nX h' it (.ref tp) (i+1) a n ep->Heap.SameBut it s.heap h'->Q (some x) { s with heap:=h' }) :
  wpAny (model prog w) A (pyNext (.ref it)) Q E s:=by
 obtain⟨o,ho,hc,hd⟩:=id hit
 obtain⟨oa,Gb,hex,Gd,hf⟩:=id hS
 obtain⟨ot,c,TQ,TR⟩:=id hT
 unfold pyNext
 refine wpAny_bind (wpAny_attempt (wpAny_callSpecial?_slot (name:=Str.ofString "__next__") hit.typeIs jK
  (wpAny_call_entry jK hit.typeIs yF ?_ (BC _))))
 refine wpAny_bind (wpAny_pure ?_)
 refine wpAny_bind (wpAny_fieldsOf ho hd ?_)
 dsimp only[rawInt]
 refine wpAny_bind (wpAny_setEntries_of Gb Gd hf ?_)
 rw[if_neg (by rw[hn];simp)]
 simp only[Int.toNat_natCast]
 refine wpAny_bind ?_
 unfold seqItems?
 refine wpAny_bind (wpAny_load TQ ?_)
 rw[TR]
 refine wpAny_pure ?_
 have e1:((ps.map fun (i:Nat)=>rawInt i).toArray)[i]?=some (rawInt p):=by simp[hp]
 dsimp only
 rw[e1]
 dsimp only[rawInt]
 simp only[Int.toNat_natCast]
 refine wpAny_bind ?_
 unfold setNextDrawn
 refine wpAny_bind (wpAny_setState_of Gb Gd hf ?_)
 dsimp only
 rw[if_neg (by simp)]
 rw[hx]
 refine wpAny_pure ?_
 refine wpAny_bind (wpAny_setField ho hd (by simp) ?_)
 have Ee:=Heap.get?_update_self (Obj.mapFields (·.setIfInBounds 1 (Value.int ((i:Int)+1) 0))) ho (Obj.isFreed_of_fields (Obj.data_mapFields hd _))
 have C0:=Obj.data_mapFields hd (·.setIfInBounds 1 (Value.int ((i:Int)+1) 0))
 refine wpAny_pure ⟨_,rfl,wpAny_pure (hQ _ ⟨_,Ee,?_,?_⟩ (Heap.SameBut.update ..))⟩
 ·rw[Obj.cls_mapFields];exact hc
 ·rw[C0];simp[rawInt]
theorem Pd {it a tp:Addr} {i n ep:Nat} {es:Array (Int×Value)} {t:SetTable} {ps:List Nat} {Q:Option Value->Shared->Prop} (hh:A.handled=none)
  (hit:nX s.heap it (.ref tp) i a n ep) (hS:qr s.heap a es ep t) (hn:es.size=n) (hT:C1 s.heap tp ps) (hp:ps[i]?=none)
  (hQ:∀h',Heap.ExtBut it s.heap h'->Q none { s with heap:=h' }) :
  wpAny (model prog w) A (pyNext (.ref it)) Q E s:=by
 obtain⟨o,ho,hc,hd⟩:=id hit
 obtain⟨oa,Gb,hex,Gd,hf⟩:=id hS
 obtain⟨ot,c,TQ,TR⟩:=id hT
 unfold pyNext
 refine wpAny_bind (wpAny_attempt (wpAny_callSpecial?_slot (name:=Str.ofString "__next__") hit.typeIs jK
  (wpAny_call_entry jK hit.typeIs yF ?_ (BC _))))
 refine wpAny_bind (wpAny_pure ?_)
 refine wpAny_bind (wpAny_fieldsOf ho hd ?_)
 dsimp only[rawInt]
 refine wpAny_bind (wpAny_setEntries_of Gb Gd hf ?_)
 rw[if_neg (by rw[hn];simp)]
 simp only[Int.toNat_natCast]
 refine wpAny_bind ?_
 unfold seqItems?
 refine wpAny_bind (wpAny_load TQ ?_)
 rw[TR]
 refine wpAny_pure ?_
 have e1:((ps.map fun (i:Nat)=>rawInt i).toArray)[i]?=none:=by simpa using hp
 dsimp only
 rw[e1]
 dsimp only
 refine wpAny_bind (wpAny_setField ho hd (by simp) ?_)
 have Ee:=Heap.get?_update_self (Obj.mapFields (·.setIfInBounds 0 (Value.int 0 0))) ho (Obj.isFreed_of_fields (Obj.data_mapFields hd _))
 have C0:=Obj.data_mapFields hd (·.setIfInBounds 0 (Value.int 0 0))
 exact QW hh Ee C0 (by simp) fun h' x=>hQ h' ((Heap.SameBut.update ..).extBut.trans x)
end
end WT
namespace L2
open PySem PySem.Spec PyProof.Rows
section
variable {prog:Program} {w:World} {A:Around} {E:Value->Shared->Prop} {s:Shared}
theorem JJ {T:String} {r d:Addr} {n:Nat} {P:Nat->Value->Prop} {OK:Heap->Prop} {Q:List Value->Shared->Prop} (K:W.KdlSrc prog w T r d n P OK) (hh:A.handled=none) (a9:OK s.heap) (hn:n<=sizeLine)
  (h:∀(h':Heap) (tk:Nat) (acc:Array Value) (c:Nat),(∀b o,s.heap.get? b=some o->h'.get? b=some o)->h'.get? s.heap.objs.size=some { cls:=.type "list",dict:=none,data:=.seq acc c,slots:=#[] }->ItemsOf P acc n->Q acc.toList { s with heap:=h',toks:=tk }) :
  wpAny (model prog w) A (collect (.ref r)) Q E s:=by
 unfold collect
 refine wpAny_bind (wpAny_runValue (codeAny_builtin entry_proto_collect' ?_))
 show wpAny _ _ (do again (.builtin "list.__iadd__" ⟨[<- newList [],.ref r],[]⟩)) _ _ s
 refine wpAny_bind (wpAny_newList (wpAny_pure ⟨Code.quiet_builtin _ (by decide +kernel),codeAny_builtin entry_list_iadd' ?_⟩))
 have eO:=K.there _ a9
 have hS:(s.heap.push (seqObj "list" #[] 0)).get? s.heap.objs.size=some { cls:=.type "list",data:=.seq #[] 0 }:=Heap.get?_push_size _ rfl
 rw[Around.under_plainId F.plain_list_iadd _]
 show wpAny _ _ (Builtin.List.listExtendWith (.ref s.heap.objs.size) (.ref r) (.ref s.heap.objs.size)) _ _ { s with heap:=s.heap.push (seqObj "list" #[] 0) }
 refine W.kdl_extend (R:=fun (r:Result) s'=>match r with
  | .ok (.ret v)=>wpAny (model prog w) A (match v with
   | .ref a=>(do
    let o <- load a
    match o.data with
    | .seq xs _=>pure xs.toList
    | _=>unsupported "internal:collect")
   | _=>unsupported "internal:collect") Q E s'
  | .ok _=>False
  | .error e=>E e s') (s:={ s with heap:=s.heap.push (seqObj "list" #[] 0) }) K hh (K.keep _ _ a9 fun b _ o e=>Heap.get?_push_of_some _ e) s.heap.objs.size (Nat.ne_of_gt eO.1) (Nat.ne_of_gt eO.2) _ 0 hS (fun h' tk nz c' hk mq E_=>?_) hn
 show wpAny (model prog w) A (do
   let o <- load s.heap.objs.size
   match o.data with
   | .seq xs _=>pure xs.toList
   | _=>unsupported "internal:collect") Q E _
 refine wpAny_bind (wpAny_load mq ?_)
 exact wpAny_pure (h h' tk nz c' (fun b o e=>hk b o (Nat.ne_of_lt (Heap.lt_size e)) (Heap.get?_push_of_some _ e)) mq E_)
theorem LH {T:String} {r d:Addr} {n:Nat} {P:Nat->Value->Prop} {OK:Heap->Prop} {ns:List Int} {Q:Value->Shared->Prop} (K:W.KdlSrc prog w T r d n P OK) (hh:A.handled=none) (a9:OK s.heap) (hn:n<=sizeLine)
  (hI:∀acc:Array Value,ItemsOf P acc n->IntsAre acc.toList ns) (Ge:ns.length=n)
  (h:∀(h':Heap) (tk:Nat) (D:Addr) (out:List Value) (ep:Nat) (h_:List Int),(∀b o,s.heap.get? b=some o->h'.get? b=some o)->s.heap.objs.size<=D->h'.get? D=some { cls:=.type "list",data:=.seq out.toArray ep }->IntsAre out h_->h_.Perm ns->h_.Pairwise (·<=·)->Q (.ref D) { s with heap:=h',toks:=tk }) :
  wpAny (model prog w) A (call (.builtin "sorted") [.ref r]) Q E s:=by
 refine Calls.call_function_entry kind_sorted plain_sorted entry_sorted (args_sorted1 _) ?_
 unfold Builtin.«sorted»
 refine wpAny_bind (m:=checkCount "sorted" 1 1 _) (wpAny_pure ?_)
 refine wpAny_bind (JJ K hh a9 hn fun h' tk acc c hk hS E_=>?_)
 have hI':=hI acc E_
 have hsz:s.heap.objs.size<h'.objs.size:=Heap.lt_size hS
 refine wpAny_bind (wpAny_newList ?_)
 have Ms:(h'.push (seqObj "list" acc.toList.toArray 0)).get? h'.objs.size=some (seqObj "list" acc.toList.toArray 0):=Heap.get?_push_size _ rfl
 have hL:acc.toList.length<=sizeLine:=by rw[hI'.length,Ge];exact hn
 refine wpAny_bind (wpAny_holding (wpAny_call_entry slot_list_sort ⟨_,Ms,rfl⟩ entry_list_sort (list_sort_treeAny Ms hI' hL fun out h_ h1 h2 h3=>⟨_,rfl,?_⟩) (args_list_sort _)))
 obtain⟨ep,vp⟩:=PyProof.Rows.sortedHeap_at (vs:=acc.toList) (out:=out) Ms
 refine wpAny_pure ⟨_,rfl,h _ tk h'.objs.size out.toList ep h_ (fun b o e=>?_) (Nat.le_of_lt hsz) ?_ h1 h2 h3⟩
 ·have e1:=hk b o e
  have hb:b≠h'.objs.size:=Nat.ne_of_lt (Heap.lt_size e1)
  rw[PyProof.Rows.sortedHeap_old hb (Nat.lt_of_lt_of_le (Heap.lt_size e1) (by rw[size_push'];exact Nat.le_succ _))]
  exact Heap.get?_push_of_some _ e1
 ·simpa using vp
end
def Pe:List V->Hp->VK->Prop:=fun vs H Q=>∃(a:Addr) (kvs:List (Key×V)) (ns:List Int),vs=[V.ref a]/\H a=some (.dK kvs)/\kvs.map (·.1)=ns.map Sum.inl/\
 ∀(h_:List Int) (p:Addr),h_.Perm ns->h_.Pairwise (·<=·)->H p=none->Q (.ref p) (upd H p (.lst (h_.map V.int)))
theorem Eg:∀{us:List Value} {ns:List Int},us.length=ns.length->(∀(j:Nat) (v:Value) (n:Int),us[j]?=some v->ns[j]?=some n->∃t,v=Value.int n t)->IntsAre us ns
 | [],[],_,_=>.nil
 | [],_::_,h,_=>by simp at h
 | _::_,[],h,_=>by simp at h
 | v::us,n::ns,h,k=>by
  obtain⟨t,rfl⟩:=k 0 v n rfl rfl
  exact .cons n t (Eg (by simpa using h) fun j v n h1 h2=>k (j+1) v n h1 h2)
section
variable {X:Cx}
theorem LI (hc:X.calm=true):ym X (.builtin "sorted") Pe:=by
 intro pins s σ H vs us Q I r h
 obtain⟨a,kvs,ns,rfl,ha,hk,q⟩:=h
 rw[Vals.SN r]
 obtain⟨z,hd,ws,rel,dd⟩:=QH I.a9 ha
 obtain⟨ep,da⟩:=dd.dictAt
 have hlen:ws.length=ns.length:=by
  have e1:=rel.length
  have e2:=congrArg List.length hk
  rw[length_map,length_map] at e2
  omega
 have hkeys:ws.map (·.1)=kvs.map (·.1):=rel.keys.symm
 refine LH (W.kdl_dict (knd:=eh X.prog X.w) (kvs:=ws) (ep:=ep) hd) (I.ok.hd hc) da (by rw[<- rel.length];exact z) (ns:=ns) (fun acc E_=>?_) hlen.symm fun h' tk D out Mr h_ kp hD e h1 h2 h3=>?_
 ·refine Eg (by rw[Array.length_toList,E_.1,hlen]) fun j v n h1 h2=>?_
  obtain⟨k,x,hx,hv⟩:=E_.2 j v (by rw[<- Array.getElem?_toList];exact h1)
  have e1:(ws.map (·.1))[j]?=some k:=by rw[getElem?_map,hx];rfl
  rw[hkeys,hk,getElem?_map,h2] at e1
  have e2:Sum.inl n=k:=Option.some.inj e1
  subst e2
  rcases gd (k:=Sum.inl n) (v:=v) hv with ⟨i,t,e,e'⟩|⟨x,t,e,e'⟩
  ·have e3:n=i:=Sum.inl.inj e;subst e3;exact⟨t,e'⟩
  ·exact nomatch e
 ·have hz:(h_.map V.int).length<=sizeLine:=by rw[length_map,h2.length_eq,<- hlen,<- rel.length];exact z
  exact⟨.ref D,upd H D (.lst (h_.map V.int)),I.laid (t':=tk) kp hD ⟨hz,out,Mr,ve h1,e⟩,rfl,q h_ D h2 h3 (I.a9.fresh hD)⟩
end
section
variable {X:Cx} {K:W.Frag} {e:Expr} {f:Str} {pos:Pos} {ta:TE}
theorem dQ (hK:X.K=K) (he:PE X e ta) (hb:attributeBase e f X.env (eval e X.env)=eval e X.env):PE X (.Attribute e f pos) (Su K ta f):=by
 subst hK;exact aD he hb
theorem zp (hK:X.K=K):oG X (compareOp .NotIn) (SH K true):=by subst hK;exact z5
theorem HZ (hK:X.K=K):QE X (SD K):=by subst hK;exact aN
end
def bO (K:W.Frag) (a:Addr) (xs:List V):Prop:=∃(o:Obj) (aL:Array Value) (n:Nat),K.lookup a=some o/\o.cls = .type "tuple"/\o.data = .seq aL n/\aL.size<=sizeLine/\Vals xs aL.toList
theorem bO.sq {K:W.Frag} {a:Addr} {xs:List V} (h:bO K a xs) (H:Hp):mY K H a xs:=.inr h
def Np (K:W.Frag) (a:Addr) (kvs:List (Int×V)):Prop:=∃(o:Obj) (es:Array DictEntry) (ep:Nat),K.lookup a=some o/\o.ExactDict/\o.data = .dict es ep/\
 Paired (fun (p:Int×V) (e:DictEntry)=>(∃t,e.key = .int p.1 t)/\e.hash=hashInt p.1/\RelV p.2 e.val) kvs es.toList/\(kvs.map (·.1)).Nodup
theorem Nq (prog:Program) (w:World):∀{kvs:List (Int×V)} {es:List DictEntry},Paired (fun (p:Int×V) (e:DictEntry)=>(∃t,e.key = .int p.1 t)/\e.hash=hashInt p.1/\RelV p.2 e.val) kvs es->
  ∃ws:List (Int×Value),Pairs (PySem.intKind prog w) es ws/\KV kvs ws/\∀e∈es,∃k,(PySem.intKind prog w).is k e.key=true/\e.hash=(PySem.intKind prog w).hash k:=by
 intro kvs es h
 induction h with
 | nil=>exact⟨[],.nil,.nil,fun e he=>nomatch he⟩
 | @cons p e ps es hp _ ih=>
  obtain⟨ws,h1,h2,h3⟩:=ih
  obtain⟨⟨t,hk⟩,hh,hv⟩:=hp
  have hi:(PySem.intKind prog w).is p.1 e.key=true:=by rw[hk];exact intKind_is prog w p.1 t
  refine⟨(p.1,e.val)::ws,.cons hi rfl h1,.cons ⟨rfl,hv⟩ h2,fun e' vp=>?_⟩
  rcases mem_cons.mp vp with rfl | vp
  ·exact⟨p.1,hi,hh⟩
  ·exact h3 e' vp
theorem Np.dictOf {K:W.Frag} {a:Addr} {kvs:List (Int×V)} (m:Np K a kvs) {h:Heap} (KX:∀b o,K.lookup b=some o->h.get? b=some o) (prog:Program) (w:World):∃ws,KV kvs ws/\h.DictOf (PySem.intKind prog w) a ws:=by
 obtain⟨o,es,ep,hk,he,hd,hp,hn⟩:=m
 obtain⟨ws,h1,h2,h3⟩:=Nq prog w hp
 refine⟨ws,h2,o,es,ep,KX a o hk,he,hd,fun e me=>h3 e (by simpa using me),h1,?_⟩
 have e:=h2.keys
 rw[<- e];exact hn
def tMget {κ:Type} [DecidableEq κ] (kv:κ->V) (a:Addr) (kvs:List (κ×V)) (ta tb:TE):TE:=fun σ H Q=>ta σ H fun x H1=>tb σ H1 fun y H2=>∃k v,x = .ref a/\y=kv k/\dJ kvs k=some v/\Q v H2
section
variable {X:Cx} {o i:Expr} {ta tb:TE} {pos:Pos}
theorem Pf {a:Addr} {kvs:List (Int×V)} (m:Np X.K a kvs) (ho:PE X o ta) (hi:PE X i tb) (hs:Lq i):PE X (.Subscript o i pos) (tMget V.int a kvs ta tb):=by
 intro pins s σ H Q I h
 refine EU PySem.F.slot_dict_getitem.lookup hs (bH (ho pins s σ H _ I h) fun u s1 ⟨x,H1,I1,rx,q1⟩=>bH (hi pins s1 σ H1 _ I1 q1) fun iv s2 ⟨y,H2,I2,ry,k,v,ex,ey,hv,q2⟩=>?_)
 subst ex ey
 obtain rfl:u=Value.ref a:=rx
 obtain⟨t,rfl⟩:=ry
 obtain⟨ws,rel,dd⟩:=m.dictOf I2.sG X.prog X.w
 obtain⟨w',hw,z4⟩:=ng.some_of (v:=v) (o:=valueAt ws k) (by rw[<- hv];exact rel.val k)
 exact⟨dd.typeIs,wpAny_getItem_of (intKind_is _ _ k t) dd.mapOf hw ⟨v,H2,I2.tok _,z4,q2⟩⟩
end
def Nr (K:W.Frag) (a:Addr) (kvs:List (Str×Int)):Prop:=(a==sysModules)=false/\∃(o:Obj) (es:Array DictEntry) (ep:Nat),K.lookup a=some o/\o.ExactDict/\o.data = .dict es ep/\
 Paired (fun (p:Str×Int) (e:DictEntry)=>(∃t,e.key = .str p.1 t)/\∃t,e.val = .int p.2 t) kvs es.toList
theorem Pg:∀{kvs:List (Str×Int)} {es:List DictEntry} {h:Heap},Paired (fun (p:Str×Int) (e:DictEntry)=>(∃t,e.key = .str p.1 t)/\∃t,e.val = .int p.2 t) kvs es->
  PyProof.Rows.KTD.Rows (PyProof.Rows.KTD.Dat.At h) es (kvs.map fun p=>(p.1,PyProof.Rows.KTD.Dat.flat (.int p.2))):=by
 intro kvs es h p
 induction p with
 | nil=>exact .nil
 | cons hp _ ih=>
  obtain⟨⟨t,hk⟩,t',hv⟩:=hp
  refine .cons hk ?_ ih
  rw[hv]
  exact PyProof.V.Flat.int _ _
theorem wV:∀{kvs:List (Str×Int)} {k:Str} {v:Int},kvs.lookup k=some v->PyProof.Rows.KTD.datumAt k (kvs.map fun p=>(p.1,PyProof.Rows.KTD.Dat.flat (.int p.2)))=some (.flat (.int v))
 | [],k,v,h=>by cases h
 | (x,y)::kvs,k,v,h=>by
  show (if decide (k=x)=true then some _ else PyProof.Rows.KTD.datumAt k _)=_
  rw[List.lookup_cons] at h
  by_cases c:k=x
  ·subst c
   rw[if_pos (by simp)]
   rw[beq_self_eq_true] at h
   cases h;rfl
  ·rw[if_neg (by simpa using c)]
   have e:(k==x)=false:=by simpa using c
   rw[e] at h
   exact wV h
def TU (a:Addr) (kvs:List (Str×Int)) (ta tb:TE):TE:=fun σ H Q=>ta σ H fun x H1=>tb σ H1 fun y H2=>∃k v,x = .ref a/\y = .str k/\kvs.lookup k=some v/\Q (.int v) H2
section
variable {X:Cx} {o i:Expr} {ta tb:TE} {pos:Pos}
theorem H_ {a:Addr} {kvs:List (Str×Int)} (m:Nr X.K a kvs) (ho:PE X o ta) (hi:PE X i tb) (hs:Lq i):PE X (.Subscript o i pos) (TU a kvs ta tb):=by
 intro pins s σ H Q I h
 refine EU PySem.F.slot_dict_getitem.lookup hs (bH (ho pins s σ H _ I h) fun u s1 ⟨x,H1,I1,rx,q1⟩=>bH (hi pins s1 σ H1 _ I1 q1) fun iv s2 ⟨y,H2,I2,ry,k,v,ex,ey,hv,q2⟩=>?_)
 subst ex ey
 obtain rfl:u=Value.ref a:=rx
 obtain⟨t,rfl⟩:=ry
 obtain⟨lo,ob,es,ep,hk,he,hd,hp⟩:=m
 have T:PyProof.Rows.KTD.Here s2.heap s2.heap a (kvs.map fun p=>(p.1,PyProof.Rows.KTD.Dat.flat (.int p.2))):=⟨⟨lo,ob,es,ep,I2.sG a ob hk,he,hd,Pg hp⟩,fun _ _ e=>e⟩
 refine⟨T.typeIs,?_⟩
 unfold getItem
 try with_reducible refine wpAny_holding ?_
 refine wpAny_bind (wpAny_sequenceKey T.typeIs (by decide) ?_)
 refine wpAny_bind (wpAny_callSpecial?_slot (name:=Str.ofString "__getitem__") T.typeIs PySem.slot_dict_getitem
  (wpAny_call_entry PySem.slot_dict_getitem T.typeIs PySem.entry_dict_getitem ?_ (PySem.args_dict_getitem _ _)))
 show wpAny _ _ (dictGet a (.str k t) >>= _) _ _ s2
 refine wpAny_bind (PyProof.Rows.KTD.dictGet_text T (fun d u h1 h2=>?_) fun h1=>?_)
 ·rw[wV hv] at h1
  cases h1
  obtain⟨t',rfl⟩:=PyProof.V.Flat.int_inv h2
  exact wpAny_pure ⟨_,rfl,wpAny_pure ⟨.int v,H2,I2.tok _,⟨t',rfl⟩,q2⟩⟩
 ·rw[wV hv] at h1
  cases h1
end
end L2
namespace WT
open PySem PySem.Spec PyProof.Rows
section
variable {prog:Program} {w:World} {A:Around} {E:Value->Shared->Prop} {s:Shared}
theorem RT {r:Addr} {Q:Bool->Shared->Prop} (hT:s.TypeIs (.ref r) "set") (h:Q false s):wpAny (model prog w) A (Builtin.List.listLengthHint (.ref r)) Q E s:=by
 unfold Builtin.List.listLengthHint
 refine wpAny_bind (wpAny_specialOf hT HY ?_)
 generalize TV:("set.__len__":String)=id0
 wp_delta
 rw[show splitId id0=some ("set","__len__") from by subst TV;decide +kernel]
 subst TV
 refine wpAny_bind (wpAny_isInstance (T:="set") (b:=true) hT (by rw[isSubtype_type];kernel_rfl) ?_)
 refine wpAny_ite_split (fun q=>absurd q (by decide)) (fun _=>?_)
 refine wpAny_ite_split (fun _=>?_) (fun q=>absurd (by decide +kernel) q)
 refine wpAny_bind (wpAny_typeOf hT ?_)
 exact wpAny_pure h
theorem LJ {Q:Bool->Shared->Prop} (h:Q (sS w) s):wpAny (model prog w) A setsByText Q E s:=by
 unfold setsByText
 exact wpAny_bind (wpAny_askSetting (wpAny_pure h))
theorem Ia {a:Addr} {es:Array (Int×Value)} {ep:Nat} {t:SetTable} {slot g:Nat} {R:Option (Value×Nat)->Shared->Prop} (hb:sS w=true) (hS:qr s.heap a es ep t)
  (h:R (((pickOrder (w.params.setOrder a ep) es)[g]?).map fun e=>(e.2,slot)) s):wpAny (model prog w) A (setNext a slot g ep) R E s:=by
 obtain⟨o,ho,hex,hd,hf⟩:=hS
 unfold setNext
 refine wpAny_bind (wpAny_setState_of ho hd hf ?_)
 dsimp only
 refine wpAny_bind (LJ ?_)
 rw[hb,if_pos rfl,if_neg (by simp)]
 refine wpAny_bind ?_
 unfold setWalk
 refine wpAny_bind (wpAny_setState_of ho hd hf ?_)
 dsimp only
 refine wpAny_bind (LJ ?_)
 rw[hb,if_pos rfl]
 refine wpAny_bind (wpAny_askSetting ?_)
 exact wpAny_pure (wpAny_pure h)
theorem Ib {a:Addr} {es:Array (Int×Value)} {ep:Nat} {t:SetTable} {slot g:Nat} {R:Option (Value×Nat)->Shared->Prop} (hb:sS w=false) (hS:qr s.heap a es ep t) (QX:(!t.plain&&decide (es.size > 1))=false) (LK:t.led=true)
  (h:R (match es[SetTable.below t.place slot]?,t.place[SetTable.below t.place slot]? with
   | some (_,x),some j=>some (x,j+1)
   | _,_=>none) s):wpAny (model prog w) A (setNext a slot g ep) R E s:=by
 obtain⟨o,ho,hex,hd,hf⟩:=hS
 unfold setNext
 refine wpAny_bind (wpAny_setState_of ho hd hf ?_)
 dsimp only
 refine wpAny_bind (LJ ?_)
 rw[hb,if_neg Bool.false_ne_true]
 show wpAny _ _ (if (!t.plain&&decide (es.size > 1))=true then unsupported "set_iterator.__next__:the-table-is-plain-no-more" else _) _ _ _
 rw[QX,if_neg Bool.false_ne_true]
 show wpAny _ _ ((if (!t.led && !es.isEmpty)=true then unsupported "set:maker-not-led" else pure PUnit.unit) >>= _) _ _ _
 rw[LK]
 refine wpAny_bind ?_
 rw[if_neg (by simp)]
 exact wpAny_pure (wpAny_pure h)
theorem Nt (hh:A.handled=none) {I a:Addr} (h9:a≠I) {es:Array (Int×Value)} {ep:Nat} {t:SetTable} {vs:List Value} (ok:Nat->Nat->Prop) (hsz:es.size=vs.length)
  (uB:∀i slot (s:Shared),ok i slot->qr s.heap a es ep t->∀x,vs[i]?=some x->∃uA,ok (i+1) uA/\∀(R:Option (Value×Nat)->Shared->Prop) (E:Value->Shared->Prop),R (some (x,uA)) s->wpAny (model prog w) A.in1 (setNext a slot i ep) R E s)
  (Ph:∀slot (s:Shared),ok vs.length slot->qr s.heap a es ep t->∀(R:Option (Value×Nat)->Shared->Prop) (E:Value->Shared->Prop),R none s->wpAny (model prog w) A.in1 (setNext a slot vs.length ep) R E s) :
  Walks prog w A I [I,a] [I] vs.length (fun i v=>vs[i]?=some v) (fun i h=>∃slot:Nat,ok i slot/\nX h I (rawInt slot) i a vs.length ep/\qr h a es ep t) where
 sub:=fun b hb=>by simp at hb;simp[hb]
 frame:=fun _ _ _ ⟨slot,h0,h1,h2⟩ hk=>⟨slot,h0,h1.at_ fun o e=>hk I (by simp) o e,h2.at_ fun o e=>hk a (by simp) o e⟩
 item:=fun i s Q E hi ⟨slot,h0,h1,h2⟩ hQ=>by
  have hx:vs[i]?=some vs[i]:=getElem?_eq_getElem hi
  obtain⟨uA,k0,k1⟩:=uB i slot s h0 h2 _ hx
  refine Pc (first:=.none) h1 h2 hsz k1 fun h' Pj Kr=>?_
  exact hQ _ h' s.toks hx ⟨uA,k0,Pj,h2.at_ fun o e=>Kr.extBut a o h9 e⟩ fun b o hb e=>Kr.extBut b o (fun h=>hb (by simp[h])) e
 done:=fun s Q E ⟨slot,h0,h1,h2⟩ hQ=>RS hh h1 h2 hsz (Ph slot s h0 h2) fun h' vp=>hQ h' s.toks fun b o hb e=>vp b o (fun h=>hb (by simp[h])) e
 self:=fun _ s Q E ⟨slot,h0,h1,h2⟩ hQ=>by
  refine wpAny_pyIter_slot h1.typeIs BB (wpAny_call_entry BB h1.typeIs zo ?_ (An _))
  show wpAny _ _ (ret (.ref I)) _ _ s
  exact wpAny_pure ⟨_,rfl,"set_iterator",_,h1.typeIs,jK.lookup,hQ⟩
theorem TX (hh:A.handled=none) {I a tp:Addr} (h9:a≠I) (hnt:tp≠I) {es:Array (Int×Value)} {ep:Nat} {t:SetTable} {ps:List Nat} {vs:List Value} (hsz:es.size=vs.length) (gS:ps.length=vs.length)
  (hv:∀(i p:Nat) (x:Value),ps[i]?=some p->vs[i]?=some x->∃e0,es[p]?=some (e0,x)) :
  Walks prog w A I [I,a,tp] [I] vs.length (fun i v=>vs[i]?=some v) (fun i h=>nX h I (.ref tp) i a vs.length ep/\qr h a es ep t/\C1 h tp ps) where
 sub:=fun b hb=>by simp at hb;simp[hb]
 frame:=fun _ _ _ ⟨h1,h2,h3⟩ hk=>⟨h1.at_ fun o e=>hk I (by simp) o e,h2.at_ fun o e=>hk a (by simp) o e,h3.at_ fun o e=>hk tp (by simp) o e⟩
 item:=fun i s Q E hi ⟨h1,h2,h3⟩ hQ=>by
  have hx:vs[i]?=some vs[i]:=getElem?_eq_getElem hi
  have hp:ps[i]?=some (ps[i]'(by omega)):=getElem?_eq_getElem _
  obtain⟨e0,he⟩:=hv i _ _ hp hx
  refine Nn h1 h2 hsz h3 hp he fun h' Pj Kr=>?_
  exact hQ _ h' s.toks hx ⟨Pj,h2.at_ fun o e=>Kr.extBut a o h9 e,h3.at_ fun o e=>Kr.extBut tp o hnt e⟩ fun b o hb e=>Kr.extBut b o (fun h=>hb (by simp[h])) e
 done:=fun s Q E ⟨h1,h2,h3⟩ hQ=>Pd hh h1 h2 hsz h3 (by rw[List.getElem?_eq_none];omega) fun h' vp=>hQ h' s.toks fun b o hb e=>vp b o (fun h=>hb (by simp[h])) e
 self:=fun _ s Q E ⟨h1,h2,h3⟩ hQ=>by
  refine wpAny_pyIter_slot h1.typeIs BB (wpAny_call_entry BB h1.typeIs zo ?_ (An _))
  show wpAny _ _ (ret (.ref I)) _ _ s
  exact wpAny_pure ⟨_,rfl,"set_iterator",_,h1.typeIs,jK.lookup,hQ⟩
def mC (first:Value) (a:Addr) (n ep:Nat):Obj:={ cls:=.type "set_iterator",data:=.fields #[first,rawInt (0:Nat),.ref a,rawInt n,rawInt ep] }
def oW (ps:List Nat):Obj:={ cls:=.type "tuple",data:=.seq (ps.map fun (i:Nat)=>rawInt i).toArray }
theorem Nu {a:Addr} {es:Array (Int×Value)} {ep:Nat} {t:SetTable} {Q:Value->Shared->Prop} (hS:qr s.heap a es ep t) (hz:es.size<=sizeLine)
  (h1:(sS w=true\/(!t.plain&&decide (es.size > 1))=false)->Q (.ref s.heap.objs.size) { s with heap:=s.heap.push (mC (rawInt (0:Nat)) a es.size ep) })
  (h2:sS w=false->∀ps d,ps.Perm (List.range es.size)->Q (.ref (s.heap.push (oW ps)).objs.size) { s with drawn:=d,heap:=(s.heap.push (oW ps)).push (mC (.ref s.heap.objs.size) a es.size ep) }) :
  wpAny (model prog w) A (pyIter (.ref a)) Q E s:=by
 obtain⟨o,ho,hex,hd,hf⟩:=id hS
 refine wpAny_pyIter_slot hS.typeIs PySem.F.slot_set_iter (wpAny_call_entry PySem.F.slot_set_iter hS.typeIs E9 ?_ (PySem.F.args_set_iter_1 _))
 unfold Builtin.«frozenset.__iter__»
 refine wpAny_bind (wpAny_pure ?_)
 refine wpAny_bind ?_
 unfold Builtin.Frozenset.sizeOf
 refine wpAny_bind (wpAny_setEntries_of ho hd hf (wpAny_pure ?_))
 refine wpAny_bind ?_
 unfold setDrawn
 refine wpAny_bind (wpAny_setState_of ho hd hf ?_)
 dsimp only
 refine wpAny_bind (LJ ?_)
 refine wpAny_pure ?_
 show wpAny _ _ (if (!sS w&&(!t.plain&&decide (es.size > 1)))=true then _ else _) _ _ _
 by_cases c:(!sS w&&(!t.plain&&decide (es.size > 1)))=true
 ·rw[if_pos c]
  rw[Bool.and_eq_true,Bool.not_eq_true'] at c
  refine wpAny_bind (Ef es.size (List.range es.size) _ (by simp) fun ps d hp=>?_)
  refine wpAny_bind ?_
  unfold newTuple
  have gS:ps.length=es.size:=by rw[hp.length_eq];simp
  refine wpAny_newObj_type ?_ (by show (List.map _ ps).toArray.size<=sizeLine;simp;omega)
  have ho1:(s.heap.push (oW ps)).get? a=some o:=Heap.get?_push_of_some _ ho
  refine wpAny_bind (wpAny_setEpoch_of ho1 hd hf ?_)
  refine wpAny_bind ?_
  unfold newFields
  refine wpAny_newObj_type ?_
  exact wpAny_pure ⟨_,rfl,"set_iterator",_,⟨_,Heap.get?_push_size _ rfl,rfl⟩,jK.lookup,h2 c.1 ps d hp⟩
 ·rw[if_neg c]
  refine wpAny_bind (wpAny_pure ?_)
  refine wpAny_bind (wpAny_setEpoch_of ho hd hf ?_)
  refine wpAny_bind ?_
  unfold newFields
  refine wpAny_newObj_type ?_
  refine wpAny_pure ⟨_,rfl,"set_iterator",_,⟨_,Heap.get?_push_size _ rfl,rfl⟩,jK.lookup,h1 ?_⟩
  cases q:sS w with
  | true=>exact .inl rfl
  | false=>
   rw[q] at c
   exact .inr (by simpa using c)
theorem yG {R:Result->Shared->Prop} {r S I:Addr} {fp:List Addr} {n:Nat} {P:Nat->Value->Prop} {St:Nat->Heap->Prop} {res:Value} {c0:Nat} {bb:Bool} (W:Walks prog w A.in1 I fp [I] n P St) (hn:n<=sizeLine) (hT:s.TypeIs (.ref r) "set")
  (hSf:S∉fp) (st:St 0 s.heap) (hS:s.heap.get? S=some { cls:=.type "list",data:=.seq #[] c0 })
  (hR:∀h' tk nz c',(∀b o,b≠S->b≠I->s.heap.get? b=some o->h'.get? b=some o)->h'.get? S=some { cls:=.type "list",dict:=none,data:=.seq nz c',slots:=#[] }->ItemsOf P nz n->R (.ok (.ret res)) { s with heap:=h',toks:=tk }) :
  wpAny (model prog w) A.in1 (do
    let room <- holding [.ref I] (Builtin.List.listLengthHint (.ref r))
    if room||bb then
     rule "list.extend.makes-room"
     Builtin.List.listTouch (.ref S)
    again (.builtin "list.extend.loop" ⟨[.ref S,.ref I,res],[]⟩))
   (fun fin s'=>match fin with | .done f=>R (.ok f) s' | .again c'=>c'.quiet=true/\codeAny (model prog w) A c' R s') (fun e s'=>R (.error e) s') s:=by
 have loop:∀(h:Heap) (c1 tk:Nat),St 0 h->(∀b o,b≠S->s.heap.get? b=some o->h.get? b=some o)->
   h.get? S=some { cls:=.type "list",data:=.seq #[] c1 }->codeAny (model prog w) A (.builtin "list.extend.loop" ⟨[.ref S,.ref I,res],[]⟩) R { s with heap:=h,toks:=tk }:=by
  intro h c1 tk QR keep1 gc
  refine codeAny_extend_loopS W.toS hn S hSf res n 0 _ #[] c1 rfl (Nat.zero_le _) QR gc (ItemsOf.nil _) fun s' nz c' mv mq got=>?_
  rw[Moved.eq_with mv]
  refine hR s'.heap s'.toks nz c' (fun b o h1 h2 e=>mv.heap b o (fun TY=>?_) (keep1 b o h1 e)) mq got
  rcases mem_cons.mp TY with e' | TY
  ·exact h1 e'
  ·exact h2 (mem_singleton.mp TY)
 refine wpAny_bind (wpAny_holding (RT hT ?_))
 refine wpAny_ite_split (fun _=>?_) (fun _=>wpAny_pure ⟨plainId_quiet PySem.F.plain_extend_loop _,loop _ c0 _ st (fun b o _ e=>e) hS⟩)
 refine wpAny_bind (wpAny_rule ?_)
 refine wpAny_bind ?_
 show wpAny _ _ (updateSeq S (·.push .none) >>= fun _=>updateSeq S (·.pop)) _ _ _
 refine wpAny_bind (wpAny_updateSeq hS rfl ?_)
 have Ak:=Heap.get?_update_self (Obj.mapSeq (·.push Value.none)) hS rfl
 refine wpAny_updateSeq (hz:=by seq_fits) Ak rfl ?_
 have Ks:=Heap.get?_update_self (Obj.mapSeq (·.pop)) Ak rfl
 refine wpAny_pure ⟨plainId_quiet PySem.F.plain_extend_loop _,loop _ _ _ ?_ (fun b o hb e=>?_) Ks⟩
 ·refine W.frame 0 _ _ st fun b hb o e=>?_
  have nb:b≠S:=fun h=>hSf (h ▸ hb)
  exact(Heap.get?_update_other _ _ (Ne.symm nb)).trans ((Heap.get?_update_other _ _ (Ne.symm nb)).trans e)
 ·exact(Heap.get?_update_other _ _ (Ne.symm hb)).trans ((Heap.get?_update_other _ _ (Ne.symm hb)).trans e)
end
theorem Nv {es:Array (Int×Value)} {ps:List Nat} (hp:ps.Perm (List.range es.size)):(ps.map fun p=>(es[p]?.map (·.2)).getD Value.none).Perm (es.toList.map (·.2)):=by
 refine(hp.map _).trans ?_
 have e:(List.range es.size).map (fun p=>(es[p]?.map (·.2)).getD Value.none)=es.toList.map (·.2):=by
  refine List.ext_getElem (by simp) fun i h1 h2=>?_
  simp at h1
  simp[h1]
 rw[e]
section
variable {prog:Program} {w:World} {A:Around} {E:Value->Shared->Prop} {s:Shared}
theorem C2 {vs:List Value} {acc:Array Value} (h:ItemsOf (fun i v=>vs[i]?=some v) acc vs.length):acc.toList=vs:=by
 refine List.ext_getElem (by rw[Array.length_toList];exact h.1) fun i h1 h2=>?_
 have:vs[i]?=some acc.toList[i]:=h.2 i (acc.toList[i]) (by simp at h1 ⊢)
 rw[getElem?_eq_getElem h2] at this
 exact(Option.some.inj this).symm
theorem Nw {R:Result->Shared->Prop} {r S:Addr} {ks:List Int} {res:Value} {c0:Nat} (hh:A.handled=none) (hJ:oO prog w (!sS w) s.heap r ks) (TZ:S≠r) (hS:s.heap.get? S=some { cls:=.type "list",data:=.seq #[] c0 })
  (hR:∀h' tk d nz c' ms,(∀b o,b≠S->s.heap.get? b=some o->h'.get? b=some o)->h'.get? S=some { cls:=.type "list",dict:=none,data:=.seq nz c',slots:=#[] }->IntsAre nz.toList ms->ms.Perm ks->R (.ok (.ret res)) { s with heap:=h',toks:=tk,drawn:=d }) :
  wpAny (model prog w) A.in1 (Builtin.List.listExtendWith (.ref S) (.ref r) res)
   (fun fin s'=>match fin with | .done f=>R (.ok f) s' | .again c'=>c'.quiet=true/\codeAny (model prog w) A c' R s') (fun e s'=>R (.error e) s') s:=by
 obtain⟨o,es,ep,t,ho,hex,hd,Ic,hi,hnd,hb,hf,hj⟩:=id hJ
 have hA:qr s.heap r es ep t:=⟨o,ho,hex,hd,hf⟩
 have hz:es.size<=sizeLine:=fits_of_scanBound hb
 have m6:r<s.heap.objs.size:=Heap.lt_size ho
 have J_:S<s.heap.objs.size:=Heap.lt_size hS
 have T1:A.in1.handled=none:=by simp[hh]
 have hps:t.place.size=es.size:=by
  have:=hf
  simp only[SetTable.fits,Bool.and_eq_true,beq_iff_eq] at this
  exact this.1
 unfold Builtin.List.listExtendWith
 refine wpAny_bind (wpAny_typeOf (T:="set") hA.typeIs ?_)
 have q1:Builtin.List.listSameRef (.ref S) (.ref r)=false:=by simp[Builtin.List.listSameRef,TZ]
 have q2:(Value.type "set" == Value.type "list")=false:=by decide
 have q3:(Value.type "set" == Value.type "tuple")=false:=by decide
 simp only[q1,q2,q3,Bool.or_false,Bool.false_eq_true,if_false]
 refine wpAny_bind (Nu hA hz (fun hc=>?_) fun hb0 ps d hp=>?_)
 ·have gc:=Heap.get?_push_of_some (mC (rawInt (0:Nat)) r es.size ep) hS
  have Ie:qr (s.heap.push (mC (rawInt (0:Nat)) r es.size ep)) r es ep t:=hA.at_ fun o e=>Heap.get?_push_of_some _ e
  have Ig:S∉[s.heap.objs.size,r]:=by simp;exact⟨Nat.ne_of_lt J_,TZ⟩
  have T2:r≠s.heap.objs.size:=Nat.ne_of_lt m6
  cases Ny:sS w with
  | true=>
   have Ao:es.size=((pickOrder (w.params.setOrder r ep) es).toList.map (·.2)).length:=by rw[length_map,(F_ _ es).length_eq];simp
   obtain⟨ms,DK,HC⟩:=wq ((F_ (w.params.setOrder r ep) es).map (·.2)) hi
   have W:=Nt (prog:=prog) (w:=w) (A:=A.in1) T1 T2 (es:=es) (ep:=ep) (t:=t) (vs:=(pickOrder (w.params.setOrder r ep) es).toList.map (·.2)) (fun _ _=>True) Ao
    (fun i slot s _ hs x hx=>⟨slot,trivial,fun R E hr=>Ia Ny hs (by
     rw[getElem?_map,Array.getElem?_toList] at hx
     cases c:(pickOrder (w.params.setOrder r ep) es)[i]? with
     | none=>rw[c] at hx;cases hx
     | some e=>rw[c] at hx;cases hx;exact hr)⟩)
    (fun slot s _ hs R E hr=>Ia Ny hs (by
     rw[length_map,Array.length_toList,Array.getElem?_eq_none (Nat.le_refl _)]
     exact hr))
   refine yG (s:={ s with heap:=s.heap.push (mC (rawInt (0:Nat)) r es.size ep) }) W (by rw[<- Ao];exact hz) Ie.typeIs Ig ⟨0,trivial,⟨_,Heap.get?_push_size _ rfl,rfl,by rw[<- Ao];rfl⟩,Ie⟩ gc fun h' tk nz c' keep mq got=>?_
   exact hR h' tk s.drawn nz c' ms (fun b o hb e=>keep b o hb (Nat.ne_of_lt (Heap.lt_size e)) (Heap.get?_push_of_some _ e)) mq (by rw[C2 got];exact DK) HC
  | false=>
   rw[Ny] at hj hc
   have QX:(!t.plain&&decide (es.size > 1))=false:=by
    rcases hc with hc | hc
    ·cases hc
    ·exact hc
   have LK:t.led=true:=hj.2
   have Ao:es.size=(es.toList.map (·.2)).length:=by simp
   have W:=Nt (prog:=prog) (w:=w) (A:=A.in1) T1 T2 (es:=es) (ep:=ep) (t:=t) (vs:=es.toList.map (·.2)) (fun i slot=>SetTable.below t.place slot=i) Ao
    (fun i slot s a9 hs x hx=>by
     rw[getElem?_map,Array.getElem?_toList] at hx
     cases c:es[i]? with
     | none=>rw[c] at hx;cases hx
     | some e=>
      rw[c] at hx
      cases hx
      have k4:i<es.size:=(Array.getElem?_eq_some_iff.mp c).1
      have T3:i<t.place.size:=by omega
      refine⟨t.place[i] + 1,?_,fun R E hr=>Ib Ny hs QX LK ?_⟩
      ·rcases Nat.lt_or_ge (i+1) t.place.size with h | h
       ·refine below_at hj.1 h (fun m hm Tv=>?_) (by have:=hj.1 i (i+1) h (by omega);omega)
        rcases Nat.lt_or_ge m i with q | q
        ·have:=hj.1 m i T3 q;omega
        ·have:m=i:=by omega
         subst this;omega
       ·have:i+1=t.place.size:=by omega
        rw[this]
        refine Nf hj.1 fun m hm=>?_
        rcases Nat.lt_or_ge m i with q | q
        ·have:=hj.1 m i T3 q;omega
        ·have:m=i:=by omega
         subst this;omega
      ·rw[a9,c,Array.getElem?_eq_getElem T3]
       exact hr)
    (fun slot s a9 hs R E hr=>Ib Ny hs QX LK (by
     rw[a9,length_map,Array.length_toList,Array.getElem?_eq_none (Nat.le_refl _)]
     exact hr))
   refine yG (s:={ s with heap:=s.heap.push (mC (rawInt (0:Nat)) r es.size ep) }) W (by rw[<- Ao];exact hz) Ie.typeIs Ig ⟨0,?_,⟨_,Heap.get?_push_size _ rfl,rfl,by rw[<- Ao];rfl⟩,Ie⟩ gc fun h' tk nz c' keep mq got=>?_
   ·rcases Nat.eq_zero_or_pos t.place.size with h | h
    ·have:=(uz hj.1 0).1;omega
    ·exact below_at hj.1 h (fun m hm Tv=>by omega) (by omega)
   ·exact hR h' tk s.drawn nz c' ks (fun b o hb e=>keep b o hb (Nat.ne_of_lt (Heap.lt_size e)) (Heap.get?_push_of_some _ e)) mq (by rw[C2 got];exact hi) (List.Perm.refl _)
 ·have gS:ps.length=es.size:=by rw[hp.length_eq];simp
  have Ao:es.size=(ps.map fun p=>(es[p]?.map (·.2)).getD Value.none).length:=by rw[length_map,gS]
  obtain⟨ms,DK,HC⟩:=wq (Nv hp) hi
  have LL:(s.heap.push (oW ps)).objs.size=s.heap.objs.size+1:=Heap.size_push _ _
  have gc:=Heap.get?_push_of_some (mC (.ref s.heap.objs.size) r es.size ep) (Heap.get?_push_of_some (oW ps) hS)
  have Ie:qr ((s.heap.push (oW ps)).push (mC (.ref s.heap.objs.size) r es.size ep)) r es ep t:=hA.at_ fun o e=>Heap.get?_push_of_some _ (Heap.get?_push_of_some _ e)
  have hT1:C1 ((s.heap.push (oW ps)).push (mC (.ref s.heap.objs.size) r es.size ep)) s.heap.objs.size ps:=⟨_,_,Heap.get?_push_of_some _ (Heap.get?_push_size _ rfl),rfl⟩
  have Ig:S∉[(s.heap.push (oW ps)).objs.size,r,s.heap.objs.size]:=by
   rw[LL];simp;exact⟨Nat.ne_of_lt (Nat.lt_succ_of_lt J_),TZ,Nat.ne_of_lt J_⟩
  have W:=TX (prog:=prog) (w:=w) (A:=A.in1) T1 (I:=(s.heap.push (oW ps)).objs.size) (a:=r) (tp:=s.heap.objs.size) (by rw[LL];exact Nat.ne_of_lt (Nat.lt_succ_of_lt m6)) (by rw[LL];exact Nat.ne_of_lt (Nat.lt_succ_self _)) (es:=es) (ep:=ep) (t:=t) (ps:=ps) (vs:=ps.map fun p=>(es[p]?.map (·.2)).getD Value.none) Ao (by rw[length_map])
   (fun i p x h1 h2=>by
    rw[getElem?_map,h1] at h2
    have Ih:p∈List.range es.size:=hp.mem_iff.mp (mem_of_getElem? h1)
    have gS:p<es.size:=List.mem_range.mp Ih
    rw[Option.map_some,Array.getElem?_eq_getElem gS] at h2
    cases h2
    exact⟨es[p].1,by rw[Array.getElem?_eq_getElem gS];rfl⟩)
  refine yG (s:={ s with drawn:=d,heap:=(s.heap.push (oW ps)).push (mC (.ref s.heap.objs.size) r es.size ep) }) W (by rw[<- Ao];exact hz) Ie.typeIs Ig ⟨⟨_,Heap.get?_push_size _ rfl,rfl,by rw[<- Ao];rfl⟩,Ie,hT1⟩ gc fun h' tk nz c' keep mq got=>?_
  exact hR h' tk d nz c' ms (fun b o hb e=>keep b o hb (by rw[LL];exact Nat.ne_of_lt (Nat.lt_succ_of_lt (Heap.lt_size e))) (Heap.get?_push_of_some _ (Heap.get?_push_of_some _ e))) mq (by rw[C2 got];exact DK) HC
end
open PySem PySem.Spec PyProof.Rows L2
section
variable {prog:Program} {w:World} {A:Around} {E:Value->Shared->Prop} {s:Shared}
theorem LM {r:Addr} {ks:List Int} {Q:List Value->Shared->Prop} (hh:A.handled=none) (hJ:oO prog w (!sS w) s.heap r ks)
  (h:∀(h':Heap) (tk:Nat) (d:Drawn) (acc:Array Value) (c:Nat) (ms:List Int),(∀b o,s.heap.get? b=some o->h'.get? b=some o)->h'.get? s.heap.objs.size=some { cls:=.type "list",dict:=none,data:=.seq acc c,slots:=#[] }->IntsAre acc.toList ms->ms.Perm ks->Q acc.toList { s with heap:=h',toks:=tk,drawn:=d }) :
  wpAny (model prog w) A (collect (.ref r)) Q E s:=by
 unfold collect
 refine wpAny_bind (wpAny_runValue (codeAny_builtin entry_proto_collect' ?_))
 show wpAny _ _ (do again (.builtin "list.__iadd__" ⟨[<- newList [],.ref r],[]⟩)) _ _ s
 refine wpAny_bind (wpAny_newList (wpAny_pure ⟨Code.quiet_builtin _ (by decide +kernel),codeAny_builtin entry_list_iadd' ?_⟩))
 have m6:r<s.heap.objs.size:=by
  obtain⟨o,es,ep,t,ho,_⟩:=hJ
  exact Heap.lt_size ho
 have Nz:(s.heap.push (seqObj "list" #[] 0)).get? s.heap.objs.size=some { cls:=.type "list",data:=.seq #[] 0 }:=Heap.get?_push_size _ rfl
 rw[Around.under_plainId F.plain_list_iadd _]
 show wpAny _ _ (Builtin.List.listExtendWith (.ref s.heap.objs.size) (.ref r) (.ref s.heap.objs.size)) _ _ { s with heap:=s.heap.push (seqObj "list" #[] 0) }
 refine Nw (R:=fun (r:Result) s'=>match r with
  | .ok (.ret v)=>wpAny (model prog w) A (match v with
   | .ref a=>(do
    let o <- load a
    match o.data with
    | .seq xs _=>pure xs.toList
    | _=>unsupported "internal:collect")
   | _=>unsupported "internal:collect") Q E s'
  | .ok _=>False
  | .error e=>E e s') (s:={ s with heap:=s.heap.push (seqObj "list" #[] 0) }) hh (hJ.at_ fun o e=>Heap.get?_push_of_some _ e) (Nat.ne_of_gt m6) Nz fun h' tk d nz c' ms keep mq h1 h2=>?_
 show wpAny (model prog w) A (do
   let o <- load s.heap.objs.size
   match o.data with
   | .seq xs _=>pure xs.toList
   | _=>unsupported "internal:collect") Q E _
 refine wpAny_bind (wpAny_load mq ?_)
 exact wpAny_pure (h h' tk d nz c' ms (fun b o e=>keep b o (Nat.ne_of_lt (Heap.lt_size e)) (Heap.get?_push_of_some _ e)) mq h1 h2)
theorem NA {r:Addr} {ks:List Int} {Q:Value->Shared->Prop} (hh:A.handled=none) (hJ:oO prog w (!sS w) s.heap r ks)
  (h:∀(h':Heap) (tk:Nat) (d:Drawn) (D:Addr) (out:List Value) (ep:Nat) (h_:List Int),(∀b o,s.heap.get? b=some o->h'.get? b=some o)->s.heap.objs.size<=D->h'.get? D=some { cls:=.type "list",data:=.seq out.toArray ep }->IntsAre out h_->h_.Perm ks->h_.Pairwise (·<=·)->Q (.ref D) { s with heap:=h',toks:=tk,drawn:=d }) :
  wpAny (model prog w) A (call (.builtin "sorted") [.ref r]) Q E s:=by
 have DS:ks.length<=sizeLine:=by
  obtain⟨o,es,ep,t,ho,_,_,_,hi,_,hb,_⟩:=hJ
  have:=hi.length
  simp at this
  rw[<- this];exact fits_of_scanBound hb
 refine Calls.call_function_entry kind_sorted plain_sorted entry_sorted (args_sorted1 _) ?_
 unfold Builtin.«sorted»
 refine wpAny_bind (m:=checkCount "sorted" 1 1 _) (wpAny_pure ?_)
 refine wpAny_bind (LM hh hJ fun h' tk d acc c ms keep hS hI hp=>?_)
 have more:s.heap.objs.size<h'.objs.size:=Heap.lt_size hS
 have xx:acc.toList.length<=sizeLine:=by rw[hI.length,hp.length_eq];exact DS
 refine wpAny_bind (wpAny_newList (hsz:=xx) ?_)
 have Nz:(h'.push (seqObj "list" acc.toList.toArray 0)).get? h'.objs.size=some (seqObj "list" acc.toList.toArray 0):=Heap.get?_push_size _ rfl
 refine wpAny_bind (wpAny_holding (wpAny_call_entry slot_list_sort ⟨_,Nz,rfl⟩ entry_list_sort (list_sort_treeAny Nz hI xx fun out h_ h1 h2 h3=>⟨_,rfl,?_⟩) (args_list_sort _)))
 obtain⟨ep,vp⟩:=PyProof.Rows.sortedHeap_at (vs:=acc.toList) (out:=out) Nz
 refine wpAny_pure ⟨_,rfl,h _ tk d h'.objs.size out.toList ep h_ (fun b o e=>?_) (Nat.le_of_lt more) ?_ h1 (h2.trans hp) h3⟩
 ·have e1:=keep b o e
  have nb:b≠h'.objs.size:=Nat.ne_of_lt (Heap.lt_size e1)
  rw[PyProof.Rows.sortedHeap_old nb (Nat.lt_of_lt_of_le (Heap.lt_size e1) (by rw[size_push'];exact Nat.le_succ _))]
  exact Heap.get?_push_of_some _ e1
 ·simpa using vp
theorem JK {l m:List Int} (hp:l.Perm m) (hn:m.Nodup) (hs:l.Pairwise (·<=·)):l.Pairwise (·< ·):=by
 have h1:l.Nodup:=hp.nodup_iff.mpr hn
 exact(hs.and h1).imp fun ⟨a,b⟩=>by omega
end
end WT
namespace L2
open PySem PySem.Spec PyProof.Rows
def LN (K:W.Frag) (te:TE):TE:=fun σ H Q=>te σ H fun x H1=>∃(a:Addr) (ns:List Int),x=V.ref a/\aE K H1 a (ns.map V.int)/\ns.length<4000/\
 ∀(h_:List Int) (p:Addr),h_.Pairwise (·< ·)->(∀z,z∈h_↔z∈ns)->H1 p=none->Q (.ref p) (upd H1 p (.lst (h_.map V.int)))
section
variable {X:Cx} {e:Expr} {te:TE} {p1 p2 T4 Ii:Pos}
theorem Ap (hc:X.calm=true) (hg1:Gl X "sorted") (DK:X.mg "sorted"=none) (hg2:Gl X "set") (HC:X.mg "set"=none) (he:PE X e te)
  (Cc:starEach [Expr.Call (.Name "set" p2) [e] [] Ii] X.env=[(false,eval (Expr.Call (.Name "set" p2) [e] [] Ii) X.env)]:=by rfl) (t7:starEach [e] X.env=[(false,eval e X.env)]:=by rfl) :
  PE X (.Call (.Name "sorted" p1) [.Call (.Name "set" p2) [e] [] Ii] [] T4) (LN X.K te):=by
 intro pins s σ H Q I h
 refine wpAny_Call_Name_kw (sH I hg1 DK PyProof.Rows.boot_sorted ?_)
 refine PyProof.Rows.callWith_builtin1 ?_ Cc rfl
 rw[Cc]
 show wpAny _ _ (spliced ((false,eval (Expr.Call (.Name "set" p2) [e] [] Ii) X.env)::backTo T4 [])) _ _ s
 refine Calls.spliced_cons ?_
 refine wpAny_Call_Name_kw (sH I hg2 HC PyProof.Rows.boot_set ?_)
 refine PyProof.Rows.callWith_type1 ?_ t7 rfl
 rw[t7]
 show wpAny _ _ (spliced ((false,eval e X.env)::backTo Ii [])) _ _ s
 refine Calls.spliced_cons (bH (he pins s σ H _ I h) fun u s1 ⟨x,H1,I1,r1,q1⟩=>?_)
 refine Calls.spliced_nil ?_
 obtain⟨a,ns,rfl,hq,hlen,k⟩:=q1
 cases r1
 obtain⟨aL,rv,hl,hz⟩:=I1.list hq
 have hi:IntsAre aL ns:=rv.ints
 have k4:aL.length=ns.length:=hi.length
 refine WT.Pb (items:=aL.toArray) (ns:=ns) (I1.ok.hd hc) hl.isList (by simpa using hi) (by simp[scanBound];omega) fun h' tk ks hJ DS QY keep=>?_
 refine Calls.spliced_nil ?_
 refine WT.NA (s:={ s1 with heap:=h',toks:=tk }) (I1.ok.hd hc) hJ fun h2 tk2 d D out ep h_ keep2 hD atD o1 o2 o3=>?_
 have hnd:ks.Nodup:=by
  obtain⟨_,_,_,_,_,_,_,_,_,hn,_⟩:=hJ
  exact hn
 have hk:∀b u,s1.heap.get? b=some u->h2.get? b=some u:=fun b u e=>keep2 b u (keep b u (Heap.lt_size e) e)
 have hDs:s1.heap.objs.size<=D:=by
  obtain⟨o,es,ep0,t,ho,_⟩:=hJ
  exact Nat.le_trans (Nat.le_of_lt (Heap.lt_size ho)) hD
 have hlen2:(h_.map V.int).length<=sizeLine:=by rw[length_map,o2.length_eq,sizeLine_eq];omega
 have IL:Inv X pins σ (upd H1 D (.lst (h_.map V.int))) { s1 with heap:=h2,toks:=tk2 }:=I1.laid (t':=tk2) hk hDs ⟨hlen2,out,ep,ve o1,atD⟩
 exact⟨.ref D,upd H1 D (.lst (h_.map V.int)),⟨IL.ok,IL.os,IL.bare,IL.base,IL.loc,IL.cell,IL.free,IL.o6,IL.pin,IL.a9,IL.len⟩,rfl,k h_ D (WT.JK o2 hnd o3) (fun z=>by rw[o2.mem_iff,QY]) (I1.a9.fresh hDs)⟩
end
end L2
namespace Ws
open PySem PySem.Spec PyProof.Rows L2
open Vbedac (Edge Said State)
def top (i:Nat):Stmt:=PySem.Challenge.pw_whenstated_s01_answers.main.body.getD i (.Pass ⟨0,0,0,0⟩)
abbrev pj:Stmt:=inClass (top 1) 0
abbrev wW:Stmt:=inClass (top 2) 0
abbrev m7:Stmt:=inClass (top 2) 1
abbrev iY:Stmt:=inClass (top 2) 2
abbrev ib:Stmt:=inClass (top 2) 3
abbrev Fb:Stmt:=top 15
abbrev k5:Stmt:=top 16
abbrev LO:Stmt:=top 17
abbrev Aq:Stmt:=top 18
abbrev As:Stmt:=top 19
abbrev qt:Stmt:=top 20
abbrev jE:Stmt:=top 22
abbrev yH:Stmt:=top 23
abbrev oP:Stmt:=top 24
abbrev pk:Stmt:=top 25
abbrev pq:Stmt:=top 26
abbrev wX:Stmt:=inClass (top 28) 0
abbrev vq:Stmt:=top 29
abbrev qv:Stmt:=top 30
abbrev vr:Stmt:=top 31
abbrev C3:Stmt:=top 32
abbrev oQ:Stmt:=top 33
abbrev nA:Stmt:=top 34
abbrev pw:Stmt:=top 35
abbrev vt:Stmt:=top 36
abbrev mS:Stmt:=top 38
abbrev mD:Stmt:=top 39
abbrev vv:Stmt:=top 41
abbrev vw:Stmt:=top 42
abbrev mT:Stmt:=top 43
abbrev yI:Stmt:=top 44
abbrev nB:Stmt:=top 47
abbrev vx:Stmt:=top 48
abbrev vy:Stmt:=top 49
abbrev gT:Stmt:=top 50
abbrev pb:Stmt:=top 51
abbrev tK:Stmt:=top 52
abbrev BD:Stmt:=top 53
abbrev G6:Stmt:=top 54
abbrev Au:Stmt:=top 55
abbrev BE:Stmt:=top 56
abbrev rO:Stmt:=top 57
abbrev uC:Stmt:=top 60
abbrev vz:Stmt:=top 61
abbrev tL:Stmt:=top 62
abbrev LP:Stmt:=top 63
abbrev uD:Stmt:=top 64
abbrev Fc:Stmt:=top 65
abbrev Fd:Stmt:=top 66
abbrev vA:Stmt:=top 67
abbrev nY:Stmt:=top 68
abbrev yJ:Stmt:=top 69
abbrev Fe:Stmt:=top 70
abbrev LQ:Stmt:=top 71
abbrev k6:Stmt:=top 72
abbrev l6:Stmt:=top 73
abbrev rP:Stmt:=top 74
abbrev px:Stmt:=top 75
abbrev LR:Stmt:=top 79
abbrev Eh:Stmt:=top 80
abbrev C4:Stmt:=top 81
abbrev Ff:Stmt:=top 82
abbrev Ij:Stmt:=top 83
abbrev wY:Stmt:=top 84
abbrev Fg:Stmt:=top 85
abbrev Fh:Stmt:=top 86
abbrev oR:Stmt:=top 87
abbrev wZ:Stmt:=inClass (top 92) 0
abbrev tM:Stmt:=inClass (top 93) 0
abbrev oS:Stmt:=inClass (top 93) 1
abbrev l7:Stmt:=inClass (top 93) 2
abbrev oT:Stmt:=inClass (top 93) 3
abbrev w4:Stmt:=top 94
abbrev vB:Stmt:=top 95
abbrev tN:Stmt:=top 96
abbrev tO:Stmt:=top 97
abbrev kO:Stmt:=top 98
abbrev mU:Stmt:=top 100
abbrev Ik:Stmt:=top 101
abbrev pz:Stmt:=top 102
abbrev w6:Stmt:=top 103
abbrev qw:Stmt:=top 104
abbrev tP:Stmt:=top 106
abbrev Av:Stmt:=top 107
structure aW where
 a5:Addr
 eG:Addr
 e_:Addr
 d6:Addr
 b_:Addr
 fO:Addr
 gE:FuncData
 kP:Addr
 k7:FuncData
 gm:Addr
 gW:FuncData
 dA:Addr
 el:FuncData
 cS:Addr
 dt:FuncData
 uP:Addr
 rQ:FuncData
 et:Addr
 dR:FuncData
 BF:Addr
 xC:FuncData
 pP:Addr
 nZ:FuncData
 pQ:Addr
 n0:FuncData
 iH:Addr
 gX:FuncData
 du:Addr
 c9:FuncData
 n8:Addr
 mE:FuncData
 gF:Addr
 fS:FuncData
 gY:Addr
 gG:FuncData
 gZ:Addr
 gH:FuncData
 kQ:Addr
 k8:FuncData
 k9:Addr
 jL:FuncData
 k_:Addr
 jM:FuncData
 la:Addr
 jN:FuncData
 rR:Addr
 pR:FuncData
 gI:Addr
 fT:FuncData
 fU:Addr
 fm:FuncData
 g7:Addr
 gJ:FuncData
 lb:Addr
 jO:FuncData
 fo:Addr
 eQ:FuncData
 mF:Addr
 lg:FuncData
 lh:Addr
 jP:FuncData
 lj:Addr
 jQ:FuncData
 ft:Addr
 eR:FuncData
 n9:Addr
 mG:FuncData
 fV:Addr
 fu:FuncData
 ll:Addr
 jR:FuncData
 lp:Addr
 jS:FuncData
 fv:Addr
 eS:FuncData
 jT:Addr
 jb:FuncData
 jU:Addr
 jc:FuncData
 uQ:Addr
 rS:FuncData
 BG:Addr
 xD:FuncData
 xE:Addr
 uR:FuncData
 uS:Addr
 rT:FuncData
 jd:Addr
 iI:FuncData
 n_:Addr
 mH:FuncData
 lq:Addr
 jV:FuncData
 jW:Addr
 je:FuncData
 BH:Addr
 xF:FuncData
 oe:Addr
 mI:FuncData
 uT:Addr
 rV:FuncData
 uU:Addr
 rW:FuncData
 lu:Addr
 jX:FuncData
 jf:Addr
 iJ:FuncData
 rX:Addr
 pS:FuncData
 uV:Addr
 rY:FuncData
 BI:Addr
 xG:FuncData
 ez:Addr
 dS:FuncData
 eT:Addr
 eA:FuncData
 jg:Addr
 iK:FuncData
 g8:Addr
 gK:FuncData
 BJ:Addr
 xH:FuncData
 xI:Addr
 uW:FuncData
 rZ:Addr
 pT:FuncData
 uX:Addr
 r6:FuncData
 xJ:Addr
 uY:FuncData
 mJ:Addr
 lx:FuncData
 uZ:Addr
 r8:FuncData
 u0:Addr
 r9:FuncData
 gL:Addr
 fW:FuncData
 kR:Addr
 ly:FuncData
 iS:Addr
 jh:FuncData
 fb:Addr
 fX:FuncData
 dB:Addr
 eB:FuncData
 fe:Addr
 fY:FuncData
 mK:Addr
 lz:FuncData
 lA:Addr
 jY:FuncData
 jZ:Addr
 ji:FuncData
 j0:Addr
 jj:FuncData
 dU:Addr
 dv:FuncData
 fw:Addr
 eU:FuncData
 xK:Addr
 u1:FuncData
 g9:Addr
 gM:FuncData
 mL:Addr
 lB:FuncData
 iL:Addr
 g_:FuncData
 j6:Addr
 jk:FuncData
 kg:Addr
 l8:FuncData
 og:Tok
 uE:Tok
 wt:Tok
 sx:Tok
 qx:Tok
 pf:Tok
 uF:Tok
 qy:Tok
 l9:Tok
 sy:Tok
 kX:Tok
 m8:Tok
 fg:Addr
 m9:Tok
 f_:Tok
 r_:Addr
 lN:Addr
 lO:Addr
 lP:Addr
 lQ:Addr
 lR:Addr
 lS:Addr
 lT:Addr
 lU:Addr
 lV:Addr
 lW:Addr
 kh:Addr
 ki:Addr
 kj:Addr
 kl:Addr
 km:Addr
 kn:Addr
 ko:Addr
 kq:Addr
 kr:Addr
 ku:Addr
 kx:Addr
 kz:Addr
 kC:Addr
 kD:Addr
 kE:Addr
 kF:Addr
 sd:Addr
 l_:Addr
structure Txt (K:W.Frag) (mg:Str->Option Value) (A:aW):Prop where
 aC:qe K A.a5
 w8:mg "Statement"=some (.ref A.a5)
 lC:Mk K A.a5 A.fO
 bp:dj K A.a5 "key"
 cW:dj K A.a5 "witness"
 cw:dj K A.a5 "a"
 cx:dj K A.a5 "b"
 c_:dj K A.a5 "lo"
 df:dj K A.a5 "hi"
 bJ:dj K A.a5 "stands"
 ba:qe K A.eG
 NB:mg "Kept"=some (.ref A.eG)
 xM:Mk K A.eG A.kP
 cn:dj K A.eG "n"
 bD:dj K A.eG "by_key"
 bw:qe K A.e_
 Ei:mg "Edge"=some (.ref A.e_)
 se:Mk K A.e_ A.kQ
 cK:dj K A.e_ "source"
 cM:dj K A.e_ "target"
 cZ:dj K A.e_ "weight"
 gn:dj K A.e_ "key"
 eI:dj K A.e_ "direction"
 az:qe K A.d6
 NC:mg "Call"=some (.ref A.d6)
 xN:Mk K A.d6 A.kR
 au:dj K A.d6 "name"
 js:dj K A.d6 "kinds"
 bo:dj K A.d6 "numbers"
 kG:dj K A.d6 "row"
 cu:qe K A.b_
 Il:mg "Reader"=some (.ref A.b_)
 sU:Mk K A.b_ A.iS
 fh:dj K A.b_ "source"
 eK:dj K A.b_ "at"
 hU:bt K "__init__" "Statement.__init__" pj A.fO A.gE
 pA:Binds K A.gE ["self","key","witness","a","b","lo","hi"] []
 mM:bt K "__init__" "Kept.__init__" wW A.kP A.k7
 Cn:Binds K A.k7 ["self"] []
 iM:bt K "list_all" "Kept.list_all" m7 A.gm A.gW
 m_:Binds K A.gW ["self"] []
 fP:Meth K A.eG "list_all" A.gm
 eV:bt K "list_standing" "Kept.list_standing" iY A.dA A.el
 dC:Binds K A.el ["self"] []
 bP:Meth K A.eG "list_standing" A.dA
 dW:bt K "list_of_witness" "Kept.list_of_witness" ib A.cS A.dt
 kS:Binds K A.dt ["self","witness"] []
 dw:Meth K A.eG "list_of_witness" A.cS
 oh:bt K "begin" "begin" Fb A.uP A.rQ
 Kt:Binds K A.rQ ["kept","n"] []
 Ku:mg "begin"=some (.ref A.uP)
 b0:bt K "find_refusal_of_say" "find_refusal_of_say" k5 A.et A.dR
 pU:Binds K A.dR ["kept","statement"] []
 pV:mg "find_refusal_of_say"=some (.ref A.et)
 uG:bt K "say" "say" LO A.BF A.xC
 QZ:Binds K A.xC ["kept","statement"] []
 Q0:mg "say"=some (.ref A.BF)
 i6:bt K "set_one" "set_one" Aq A.pP A.nZ
 Aw:Binds K A.nZ ["kept","key","stands"] []
 Ax:mg "set_one"=some (.ref A.pP)
 i7:bt K "set_all" "set_all" As A.pQ A.n0
 Ay:Binds K A.n0 ["kept","witness","stands"] []
 Az:mg "set_all"=some (.ref A.pQ)
 d7:bt K "answer_change" "answer_change" qt A.iH A.gX
 wu:Binds K A.gX ["kept","name","numbers"] []
 wx:mg "answer_change"=some (.ref A.iH)
 bI:bt K "make_sums_of_no_edges" "make_sums_of_no_edges" jE A.du A.c9
 jF:Binds K A.c9 ["n","goal"] []
 jG:mg "make_sums_of_no_edges"=some (.ref A.du)
 ic:bt K "lengthen" "lengthen" yH A.n8 A.mE
 yK:Binds K A.mE ["edges","sums"] []
 yL:mg "lengthen"=some (.ref A.n8)
 cX:bt K "find_first_edge" "find_first_edge" oP A.gF A.fS
 t_:Binds K A.fS ["edges","source","sums","total"] []
 ua:mg "find_first_edge"=some (.ref A.gF)
 cT:bt K "find_first_way" "find_first_way" pk A.gY A.gG
 pB:Binds K A.gG ["edges","steps","source"] []
 pC:mg "find_first_way"=some (.ref A.gY)
 dD:bt K "find_least_way" "find_least_way" pq A.gZ A.gH
 vC:Binds K A.gH ["n","edges","a","b","bound"] []
 vD:mg "find_least_way"=some (.ref A.gZ)
 mN:bt K "__init__" "Edge.__init__" wX A.kQ A.k8
 sA:Binds K A.k8 ["self","source","target","weight","key","direction"] []
 cg:bt K "list_edges" "list_edges" vq A.k9 A.jL
 gp:Binds K A.jL ["statements"] []
 gq:mg "list_edges"=some (.ref A.k9)
 gr:bt K "turn_edges" "turn_edges" qv A.k_ A.jM
 AA:Binds K A.jM ["edges"] []
 AB:mg "turn_edges"=some (.ref A.k_)
 gu:bt K "lower_once" "lower_once" vr A.la A.jN
 AD:Binds K A.jN ["edges","sums"] []
 AE:mg "lower_once"=some (.ref A.la)
 jt:bt K "settle" "settle" C3 A.rR A.pR
 yM:Binds K A.pR ["edges","sums"] []
 yN:mg "settle"=some (.ref A.rR)
 bu:bt K "can_all_be_true" "can_all_be_true" oQ A.gI A.fT
 cD:Binds K A.fT ["n","edges"] []
 cE:mg "can_all_be_true"=some (.ref A.gI)
 bM:bt K "find_bounds_from" "find_bounds_from" nA A.fU A.fm
 iy:Binds K A.fm ["n","edges","event"] []
 iz:mg "find_bounds_from"=some (.ref A.fU)
 dE:bt K "find_bounds_to" "find_bounds_to" pw A.g7 A.gJ
 vE:Binds K A.gJ ["n","edges","event"] []
 vF:mg "find_bounds_to"=some (.ref A.g7)
 bY:bt K "find_bound" "find_bound" vt A.lb A.jO
 fA:Binds K A.jO ["n","edges","a","b"] []
 fB:mg "find_bound"=some (.ref A.lb)
 cz:bt K "find_least_return" "find_least_return" mS A.fo A.eQ
 rq:Binds K A.eQ ["table"] []
 rz:mg "find_least_return"=some (.ref A.fo)
 eL:bt K "find_ring" "find_ring" mD A.mF A.lg
 oX:Binds K A.lg ["n","edges"] []
 oY:mg "find_ring"=some (.ref A.mF)
 cy:bt K "tell_truth" "tell_truth" vv A.lh A.jP
 iA:Binds K A.jP ["truth"] []
 iB:mg "tell_truth"=some (.ref A.lh)
 eJ:bt K "tell_maybe" "tell_maybe" vw A.lj A.jQ
 qz:Binds K A.jQ ["number"] []
 qA:mg "tell_maybe"=some (.ref A.lj)
 b9:bt K "tell_maybe_turned" "tell_maybe_turned" mT A.ft A.eR
 mV:Binds K A.eR ["number"] []
 mW:mg "tell_maybe_turned"=some (.ref A.ft)
 ie:bt K "tell_way" "tell_way" yI A.n9 A.mG
 yO:Binds K A.mG ["way"] []
 yP:mg "tell_way"=some (.ref A.n9)
 cO:bt K "lengthen_choices" "lengthen_choices" nB A.fV A.fu
 sV:Binds K A.fu ["choices","names"] []
 sW:mg "lengthen_choices"=some (.ref A.fV)
 gv:bt K "has_one_of" "has_one_of" vx A.ll A.jR
 AF:Binds K A.jR ["choice","names"] []
 AG:mg "has_one_of"=some (.ref A.ll)
 gw:bt K "breaks_all" "breaks_all" vy A.lp A.jS
 AH:Binds K A.jS ["choice","rings"] []
 AI:mg "breaks_all"=some (.ref A.lp)
 cA:bt K "find_ring_without" "find_ring_without" gT A.fv A.eS
 rB:Binds K A.eS ["n","statements","name_of","choice"] []
 rC:mg "find_ring_without"=some (.ref A.fv)
 fI:bt K "find_fewest" "find_fewest" pb A.jT A.jb
 zq:Binds K A.jb ["n","statements","name_of","most"] []
 zr:mg "find_fewest"=some (.ref A.jT)
 eM:bt K "tell_fewest" "tell_fewest" tK A.jU A.jc
 tQ:Binds K A.jc ["n","statements","name_of","most"] []
 tR:mg "tell_fewest"=some (.ref A.jU)
 oi:bt K "doubt" "doubt" BD A.uQ A.rS
 Kv:Binds K A.rS ["n","statements","most"] []
 Kw:mg "doubt"=some (.ref A.uQ)
 uH:bt K "who" "who" G6 A.BG A.xD
 Q2:Binds K A.xD ["n","statements","most"] []
 Q3:mg "who"=some (.ref A.BG)
 qB:bt K "peel" "peel" Au A.xE A.uR
 ND:Binds K A.uR ["n","statements"] []
 NF:mg "peel"=some (.ref A.xE)
 oj:bt K "alone" "alone" BE A.uS A.rT
 Kx:Binds K A.rT ["n","statements"] []
 Ky:mg "alone"=some (.ref A.uS)
 eW:bt K "answer_doubt" "answer_doubt" rO A.jd A.iI
 xO:Binds K A.iI ["kept","call"] []
 xP:mg "answer_doubt"=some (.ref A.jd)
 ig:bt K "find_web" "find_web" uC A.n_ A.mH
 yQ:Binds K A.mH ["n","edges"] []
 yR:mg "find_web"=some (.ref A.n_)
 fC:bt K "is_at_most" "is_at_most" vz A.lq A.jV
 vG:Binds K A.jV ["bound","number"] []
 vH:mg "is_at_most"=some (.ref A.lq)
 eN:bt K "does_follow" "does_follow" tL A.jW A.je
 tS:Binds K A.je ["n","edges","statement"] []
 tT:mg "does_follow"=some (.ref A.jW)
 uI:bt K "why" "why" LP A.BH A.xF
 Q4:Binds K A.xF ["n","edges","a","b"] []
 Q5:mg "why"=some (.ref A.BH)
 iZ:bt K "needless" "needless" uD A.oe A.mI
 Ej:Binds K A.mI ["n","edges","statement"] []
 Ek:mg "needless"=some (.ref A.oe)
 om:bt K "if_of" "if_of" Fc A.uT A.rV
 Kz:Binds K A.rV ["n","edges","statement"] []
 KA:mg "if_of"=some (.ref A.uT)
 oo:bt K "slack" "slack" Fd A.uU A.rW
 KC:Binds K A.rW ["n","edges","statement"] []
 KD:mg "slack"=some (.ref A.uU)
 gx:bt K "are_pinned" "are_pinned" vA A.lu A.jX
 AJ:Binds K A.jX ["web_of_all","i","j"] []
 AK:mg "are_pinned"=some (.ref A.lu)
 eX:bt K "list_classes" "list_classes" nY A.jf A.iJ
 xQ:Binds K A.iJ ["web_of_all"] []
 xR:mg "list_classes"=some (.ref A.jf)
 ma:bt K "pinned" "pinned" yJ A.rX A.pS
 Im:Binds K A.pS ["n","edges"] []
 Io:mg "pinned"=some (.ref A.rX)
 oq:bt K "order" "order" Fe A.uV A.rY
 KG:Binds K A.rY ["n","edges","a","b"] []
 KH:mg "order"=some (.ref A.uV)
 uJ:bt K "web" "web" LQ A.BI A.xG
 Q6:Binds K A.xG ["n","edges"] []
 Q7:mg "web"=some (.ref A.BI)
 b6:bt K "find_refusal_of_key" "find_refusal_of_key" k6 A.ez A.dS
 pW:Binds K A.dS ["kept","key"] []
 pX:mg "find_refusal_of_key"=some (.ref A.ez)
 cp:bt K "find_refusal_of_if" "find_refusal_of_if" l6 A.eT A.eA
 qC:Binds K A.eA ["a","b","lo","hi"] []
 qD:mg "find_refusal_of_if"=some (.ref A.eT)
 eY:bt K "find_refusal" "find_refusal" rP A.jg A.iK
 xS:Binds K A.iK ["kept","call","edges"] []
 xT:mg "find_refusal"=some (.ref A.jg)
 dF:bt K "answer_follows" "answer_follows" px A.g8 A.gK
 vI:Binds K A.gK ["kept","call"] []
 vJ:mg "answer_follows"=some (.ref A.g8)
 uK:bt K "fit" "fit" LR A.BJ A.xH
 Q8:Binds K A.xH ["n","edges"] []
 Q9:mg "fit"=some (.ref A.BJ)
 qE:bt K "ring" "ring" Eh A.xI A.uW
 NG:Binds K A.uW ["n","edges"] []
 NH:mg "ring"=some (.ref A.xI)
 md:bt K "bounds" "bounds" C4 A.rZ A.pT
 Ip:Binds K A.pT ["n","edges","a","b"] []
 Iq:mg "bounds"=some (.ref A.rZ)
 ou:bt K "early" "early" Ff A.uX A.r6
 KI:Binds K A.r6 ["n","edges","event"] []
 KJ:mg "early"=some (.ref A.uX)
 qF:bt K "late" "late" Ij A.xJ A.uY
 NI:Binds K A.uY ["n","edges","event"] []
 NJ:mg "late"=some (.ref A.xJ)
 ij:bt K "are_times" "are_times" wY A.mJ A.lx
 Co:Binds K A.lx ["n","row"] []
 Cp:mg "are_times"=some (.ref A.mJ)
 ow:bt K "tried" "tried" Fg A.uZ A.r8
 KL:Binds K A.r8 ["n","statements","row"] []
 KN:mg "tried"=some (.ref A.uZ)
 ox:bt K "shown" "shown" Fh A.u0 A.r9
 KO:Binds K A.r9 ["n","edges","event"] []
 KP:mg "shown"=some (.ref A.u0)
 cY:bt K "answer_question" "answer_question" oR A.gL A.fW
 ub:Binds K A.fW ["kept","call"] []
 uc:mg "answer_question"=some (.ref A.gL)
 mO:bt K "__init__" "Call.__init__" wZ A.kR A.ly
 Cq:Binds K A.ly ["self","name"] []
 j7:bt K "__init__" "Reader.__init__" tM A.iS A.jh
 zt:Binds K A.jh ["self","source"] []
 gN:bt K "has_more" "Reader.has_more" oS A.fb A.fX
 ud:Binds K A.fX ["self"] []
 iC:Meth K A.b_ "has_more" A.fb
 eZ:bt K "read_number" "Reader.read_number" l7 A.dB A.eB
 i0:Binds K A.eB ["self"] []
 dg:Meth K A.b_ "read_number" A.dB
 gO:bt K "read_row" "Reader.read_row" oT A.fe A.fY
 ue:Binds K A.fY ["self"] []
 iD:Meth K A.b_ "read_row" A.fe
 ik:bt K "read_call" "read_call" w4 A.mK A.lz
 Cr:Binds K A.lz ["reader"] []
 Cs:mg "read_call"=some (.ref A.mK)
 gy:bt K "read_calls" "read_calls" vB A.lA A.jY
 AL:Binds K A.jY ["numbers"] []
 AM:mg "read_calls"=some (.ref A.lA)
 fJ:bt K "greatest_of" "greatest_of" tN A.jZ A.ji
 zu:Binds K A.ji ["kind","n"] []
 zv:mg "greatest_of"=some (.ref A.jZ)
 fK:bt K "is_in_range" "is_in_range" tO A.j0 A.jj
 zw:Binds K A.jj ["kind","number","n"] []
 zx:mg "is_in_range"=some (.ref A.j0)
 bV:bt K "has_numbers_in_range" "has_numbers_in_range" kO A.dU A.dv
 oZ:Binds K A.dv ["call","n"] []
 o4:mg "has_numbers_in_range"=some (.ref A.dU)
 cB:bt K "find_edges_of_row" "find_edges_of_row" mU A.fw A.eU
 rD:Binds K A.eU ["edges","row"] []
 rE:mg "find_edges_of_row"=some (.ref A.fw)
 qG:bt K "walk" "walk" Ik A.xK A.u1
 NK:Binds K A.u1 ["edges","event","row"] []
 NL:mg "walk"=some (.ref A.xK)
 dG:bt K "tell_statement" "tell_statement" pz A.g9 A.gM
 vK:Binds K A.gM ["statement"] []
 vL:mg "tell_statement"=some (.ref A.g9)
 il:bt K "tell_kept" "tell_kept" w6 A.mL A.lB
 Ct:Binds K A.lB ["n","statements"] []
 Cu:mg "tell_kept"=some (.ref A.mL)
 d8:bt K "answer_report" "answer_report" qw A.iL A.g_
 wz:Binds K A.g_ ["kept","call"] []
 wA:mg "answer_report"=some (.ref A.iL)
 fL:bt K "answer_call" "answer_call" tP A.j6 A.jk
 zy:Binds K A.jk ["kept","call"] []
 zz:mg "answer_call"=some (.ref A.j6)
 kH:bt K "answers" "answers" Av A.kg A.l8
 NM:Binds K A.l8 ["calls"] []
 Gf:mg "answers"=some (.ref A.kg)
 hX:mg "range"=none
 d9:mg "len"=none
 BK:mg "sum"=none
 nD:mg "sorted"=none
 oy:mg "reversed"=none
 yS:mg "set"=none
 vM:mg "dict"=none
 jl:mg "OUT_OF_RANGE"=some (.int (-1) A.og)
 kI:mg "BAD_LIST"=some (.int (-2) A.uE)
 kJ:mg "UNKNOWN"=some (.int (-10) A.wt)
 mP:mg "KEY_TAKEN"=some (.int (-3) A.sx)
 ju:mg "SAME_EVENT"=some (.int (-4) A.qx)
 iT:mg "HI_BELOW_LO"=some (.int (-5) A.pf)
 oz:mg "TOO_MANY"=some (.int (-6) A.uF)
 jv:mg "ALREADY_SO"=some (.int (-7) A.qy)
 hZ:mg "TOO_MANY_STAND"=some (.int (-11) A.l9)
 gh:mg "CANNOT_BE"=some (.int (-8) A.sy)
 gP:mg "MOST_STATEMENTS"=some (.int 100 A.kX)
 iN:mg "MOST_TO_DOUBT"=some (.int 24 A.m8)
 iO:mg "ANSWERED_HERE"=some (.ref A.fg)
 kK:bO K A.fg [V.str "why",V.str "needless",V.str "if_of",V.str "slack",V.str "pinned",V.str "order",V.str "web"]
 gz:mg "FARTHEST_TIME"=some (.int 1000000000000 A.m9)
 cU:mg "WEIGHT_OF_FURTHER_EDGES"=some (.int 1000000000000 A.f_)
 u4:mg "FORMS"=some (.ref A.r_)
 xU:Np K A.r_ [(0,.ref A.lN),(1,.ref A.lO),(2,.ref A.lP),(3,.ref A.lQ),(4,.ref A.lR),(5,.ref A.lS),(6,.ref A.lT),(7,.ref A.lU),(8,.ref A.lV),(9,.ref A.lW),(10,.ref A.kh),(11,.ref A.ki),(12,.ref A.kj),(13,.ref A.kl),(14,.ref A.km),(15,.ref A.kn),(16,.ref A.ko),(17,.ref A.kq),(18,.ref A.kr),(19,.ref A.ku),(20,.ref A.kx),(21,.ref A.kz),(22,.ref A.kC),(23,.ref A.kD),(24,.ref A.kE),(25,.ref A.kF)]
 sX:bO K A.lN [V.str "begin",V.str "events"]
 sY:bO K A.lO [V.str "say",V.str "key",V.str "witness",V.str "event",V.str "event",V.str "span",V.str "span"]
 sZ:bO K A.lP [V.str "take",V.str "key"]
 s_:bO K A.lQ [V.str "give",V.str "key"]
 tf:bO K A.lR [V.str "drop",V.str "witness"]
 tj:bO K A.lS [V.str "trust",V.str "witness"]
 tm:bO K A.lT [V.str "fit"]
 tq:bO K A.lU [V.str "ring"]
 tu:bO K A.lV [V.str "bounds",V.str "event",V.str "event"]
 tw:bO K A.lW [V.str "early",V.str "event"]
 qH:bO K A.kh [V.str "late",V.str "event"]
 qI:bO K A.ki [V.str "tried",V.str "row"]
 qJ:bO K A.kj [V.str "shown",V.str "event"]
 qK:bO K A.kl [V.str "why",V.str "event",V.str "event"]
 qL:bO K A.km [V.str "needless",V.str "key"]
 qM:bO K A.kn [V.str "if_of",V.str "event",V.str "event",V.str "span",V.str "span"]
 qN:bO K A.ko [V.str "slack",V.str "key"]
 qO:bO K A.kq [V.str "pinned"]
 qP:bO K A.kr [V.str "order",V.str "event",V.str "event"]
 qQ:bO K A.ku [V.str "doubt",V.str "doubted"]
 qR:bO K A.kx [V.str "who",V.str "doubted"]
 qS:bO K A.kz [V.str "peel"]
 qT:bO K A.kC [V.str "web"]
 qU:bO K A.kD [V.str "walk",V.str "event",V.str "row"]
 qV:bO K A.kE [V.str "told"]
 qW:bO K A.kF [V.str "alone",V.str "witness"]
 u5:mg "LEAST"=some (.ref A.sd)
 xV:Nr K A.sd [("events",2),("key",1),("witness",1),("event",0),("span",-1000000000),("doubted",0)]
 oA:mg "GREATEST"=some (.ref A.l_)
 qX:Nr K A.l_ [("events",24),("key",1000000000),("witness",1000000000),("span",1000000000),("doubted",3)]
abbrev kT:=Vbedac.Row
theorem jm {σ:L2.St} {H:Hp} {Q:Bool->Hp->Prop} (h:Q true H):SS σ H Q:=h
def fD:Option Int->V
 | none=>.bE
 | some x=>.int x
def LS (e:Edge):List (Str×V):=[("source",.int e.src),("target",.int e.dst),("weight",.int e.w),("key",.int e.key),("direction",.int e.dir)]
def AN (x:Said):List (Str×V):=[("key",.int x.key),("witness",.int x.who),("a",.int x.a),("b",.int x.b),("lo",.int x.lo),("hi",.int x.hi),("stands",.bl x.on)]
def fE (A:aW) (H:Hp) (a:Addr) (e:Edge):Prop:=∃dx,H a=some (.ins A.e_ dx (LS e))
def jw (A:aW) (H:Hp) (a:Addr) (x:Said):Prop:=∃dx,H a=some (.ins A.a5 dx (AN x))
def bc {α:Type} (R:Addr->α->Prop) (as:List Addr) (xs:List α):Prop:=as.length=xs.length/\∀(i:Nat) (a:Addr) (x:α),as[i]?=some a->xs[i]?=some x->R a x
def jx {α:Type} (R:Hp->Addr->α->Prop) (H:Hp) (l:Addr) (xs:List α):Prop:=∃as,H l=some (.lst (as.map V.ref))/\bc (R H) as xs
abbrev a7 (A:aW):=jx (fE A)
abbrev dN (A:aW):=jx (jw A)
def d_ (H:Hp) (l:Addr) (r:kT):Prop:=H l=some (.lst (r.map fD))
def bA (l:Addr) (H H':Hp):Prop:=∀b o,H b=some o->b≠l->H' b=some o
theorem bA.refl {l:Addr} {H:Hp}:bA l H H:=fun _ _ h _=>h
theorem bA.trans {l:Addr} {H H1 H2:Hp} (a:bA l H H1) (b:bA l H1 H2):bA l H H2:=fun c o h n=>b c o (a c o h n) n
theorem bA.upd {l:Addr} {H:Hp} {o:HO}:bA l H (upd H l o):=fun b u h n=>by rw[aw n];exact h
theorem C5 {l:Addr} {H H':Hp} (h:aq H H'):bA l H H':=fun b o e _=>h b o e
theorem aq.new {H:Hp} {l:Addr} {o:HO} (n:H l=none):aq H (upd H l o):=fun b u h=>by rw[aw (aK h n)];exact h
theorem aq.but {H H1 H2:Hp} {l:Addr} (s:aq H H1) (n:H l=none) (b:bA l H1 H2):aq H H2:=fun c o h=>b c o (s c o h) (aK h n)
theorem bc.nil {α:Type} {R:Addr->α->Prop}:bc R [] []:=⟨rfl,fun i a x h=>by cases h⟩
theorem bc.imp {α:Type} {R R':Addr->α->Prop} {as:List Addr} {xs:List α} (h:bc R as xs) (k:∀a x,R a x->R' a x):bc R' as xs:=⟨h.1,fun i a x h1 h2=>k a x (h.2 i a x h1 h2)⟩
theorem bc.snoc {α:Type} {R:Addr->α->Prop} {as:List Addr} {xs:List α} {a:Addr} {x:α} (h:bc R as xs) (q:R a x):bc R (as++[a]) (xs++[x]):=by
 refine⟨by simp[h.1],fun i b y h1 h2=>?_⟩
 by_cases c:i<as.length
 ·rw[List.getElem?_append_left c] at h1
  rw[List.getElem?_append_left (by rw[<- h.1];exact c)] at h2
  exact h.2 i b y h1 h2
 ·rw[List.getElem?_append_right (by omega)] at h1
  rw[List.getElem?_append_right (by rw[<- h.1];omega)] at h2
  have e:i-as.length=0:=by
   have:=(List.getElem?_eq_some_iff.mp h1).1
   simp at this;omega
  have e2:i-xs.length=0:=by rw[<- h.1];exact e
  rw[e] at h1
  rw[e2] at h2
  have e3:a=b:=Option.some.inj h1
  have e4:x=y:=Option.some.inj h2
  rw[<- e3,<- e4];exact q
theorem bc.get {α:Type} {R:Addr->α->Prop} {as:List Addr} {xs:List α} (h:bc R as xs) {i:Nat} {a:Addr} (ha:as[i]?=some a):∃x,xs[i]?=some x/\R a x:=by
 have hi:=(List.getElem?_eq_some_iff.mp ha).1
 have hj:i<xs.length:=by rw[<- h.1];exact hi
 have hx:xs[i]?=some xs[i]:=getElem?_eq_getElem hj
 exact⟨_,hx,h.2 i a _ ha hx⟩
theorem jx.mono {α:Type} {R:Hp->Addr->α->Prop} {H H':Hp} {l:Addr} {xs:List α} (h:jx R H l xs) (hl:∀o,H l=some o->H' l=some o) (k:∀a x,R H a x->R H' a x):jx R H' l xs:=by
 obtain⟨as,h1,h2⟩:=h
 exact⟨as,hl _ h1,h2.imp k⟩
theorem jx.same {α:Type} {R:Hp->Addr->α->Prop} {H H':Hp} {l:Addr} {xs:List α} (h:jx R H l xs) (s:aq H H') (k:∀a x,R H a x->R H' a x):jx R H' l xs:=h.mono (fun o e=>s _ o e) k
theorem fE.same {A:aW} {H H':Hp} (s:aq H H') {a:Addr} {e:Edge} (h:fE A H a e):fE A H' a e:=by
 obtain⟨dx,h⟩:=h
 exact⟨dx,s _ _ h⟩
theorem jw.same {A:aW} {H H':Hp} (s:aq H H') {a:Addr} {x:Said} (h:jw A H a x):jw A H' a x:=by
 obtain⟨dx,h⟩:=h
 exact⟨dx,s _ _ h⟩
theorem bj {A:aW} {H H':Hp} {l:Addr} {es:List Edge} (h:a7 A H l es) (s:aq H H'):a7 A H' l es:=jx.same h s fun _ _=>fE.same s
theorem mf {A:aW} {H H':Hp} {l:Addr} {es:List Said} (h:dN A H l es) (s:aq H H'):dN A H' l es:=jx.same h s fun _ _=>jw.same s
theorem qY {A:aW} {H:Hp} {a l:Addr} {e:Edge} {xs:List V} (h:fE A H a e) (hl:H l=some (.lst xs)):a≠l:=by
 obtain⟨dx,h⟩:=h
 exact dh h hl (by intro z;cases z)
theorem NN {A:aW} {H H':Hp} {l ls:Addr} {es:List Edge} {xs:List V} (h:a7 A H l es) (hs:H ls=some (.lst xs)) (n:l≠ls) (b:bA ls H H'):a7 A H' l es:=
 jx.mono h (fun o e=>b _ o e n) fun a e he=>by
  have hn:=qY he hs
  obtain⟨dx,he⟩:=he
  exact⟨dx,b _ _ he hn⟩
theorem bh {as:List Addr} {i:Nat} {y:V} (h:(as.map V.ref)[i]?=some y):∃a,as[i]?=some a/\y=V.ref a:=by
 rw[getElem?_map] at h
 cases e:as[i]? with
 | none=>rw[e] at h;cases h
 | some a=>rw[e] at h;exact⟨a,rfl,(Option.some.inj h).symm⟩
theorem get_map {α:Type} {f:α->V} {l:List α} {i:Nat} {y:V} (h:(l.map f)[i]?=some y):∃a,l[i]?=some a/\y=f a:=by
 rw[getElem?_map] at h
 cases e:l[i]? with
 | none=>rw[e] at h;cases h
 | some a=>rw[e] at h;exact⟨a,rfl,(Option.some.inj h).symm⟩
theorem take_snoc {α:Type}:∀{l:List α} {i:Nat} {x:α},l[i]?=some x->l.take (i+1)=l.take i++[x]
 | [],i,x,h=>by simp at h
 | a::l,0,x,h=>by
  have e:a=x:=Option.some.inj h
  subst e
  rfl
 | a::l,i+1,x,h=>by
  have ih:=take_snoc (l:=l) (i:=i) (x:=x) h
  show a::l.take (i+1)=a::l.take i++[x]
  rw[ih]
  rfl
theorem mr {r:kT} {j:Nat} (h:j<r.length):z0 (r.map fD) (j:Int)=some (fD (Vbedac.entry r j)):=a_ (by rw[getElem?_map,WS.pM h];rfl)
theorem vN {n j:Nat} (h:j<n):zZ n (j:Int)=some j:=by
 unfold zZ
 rw[if_pos (by omega),if_pos (by omega)];simp
theorem kU (r:kT) (j:Nat) (x:Int):(r.map fD).set j (.int x)=(r.set j (some x)).map fD:=by
 rw[List.map_set];rfl
section
variable {P:Program} {w:World} {K:W.Frag} {mg:Str->Option Value} {base:Heap} {A:aW}
def Ir (A:aW):Sp:=fun vs H Q _=>∃(p dx:Addr) (e:Edge),vs=[.ref p,.int e.src,.int e.dst,.int e.w,.int e.key,.int e.dir]/\H p=some (.ins A.e_ dx [])/\
 ∀H':Hp,H' p=some (.ins A.e_ dx (LS e))->bA p H H'->Q .bE H'
theorem Iu:aJ ["self","source","target","weight","key","direction"] ["self","source","target","weight","key","direction"] (ay wX):=by refine⟨rfl,rfl,rfl,?_,rfl,?_,?_⟩ <;> decide +kernel
theorem vO (T:Txt K mg A):aY P w K mg base bF 1 A.kQ A.k8 ["self","source","target","weight","key","direction"] (Ir A):=by
 refine T.mN.ok Iu (fun vs H Q E h=>?_) (fun bg Ar outer s H vs Q E hr h=>?_)
 ·obtain⟨p,dx,e,rfl,_⟩:=h
  rfl
 ·obtain⟨p,dx,e,rfl,hp,k⟩:=h
  refine⟨_,(ae (c5 (pv 0) (pv 1) rfl)
   (ae (c5 (pv 0) (pv 2) rfl)
   (ae (c5 (pv 0) (pv 3) rfl)
   (ae (c5 (pv 0) (pv 4) rfl)
   (ao (c5 (pv 0) (pv 5) rfl)))))),?_⟩
  refine⟨_,rfl,_,rfl,p,_,dx,_,rfl,hp,T.bw,T.cK,(by show 0<1000;decide),?_⟩
  refine⟨_,rfl,_,rfl,p,_,dx,_,rfl,ah,T.bw,T.cM,(by show 1<1000;decide),?_⟩
  refine⟨_,rfl,_,rfl,p,_,dx,_,rfl,ah,T.bw,T.cZ,(by show 2<1000;decide),?_⟩
  refine⟨_,rfl,_,rfl,p,_,dx,_,rfl,ah,T.bw,T.gn,(by show 3<1000;decide),?_⟩
  refine⟨_,rfl,_,rfl,p,_,dx,_,rfl,ah,T.bw,T.eI,(by show 4<1000;decide),?_⟩
  refine k _ ah fun b o h n=>?_
  rw[aw n,aw n,aw n,aw n,aw n]
  exact h
def GF (A:aW):Sp:=fun vs H Q _=>∃(le ls:Addr) (es:List Edge) (r:kT),vs=[.ref le,.ref ls]/\a7 A H le es/\d_ H ls r/\le≠ls/\WS.bB r.length es/\
 ∀H':Hp,d_ H' ls (WS.cc es r).1->bA ls H H'->Q (.bl (WS.cc es r).2) H'
theorem iU:aJ ["edges","sums","lowered","edge","before","reached","held"] ["edges","sums"] (ay vr):=by refine⟨rfl,rfl,rfl,?_,rfl,?_,?_⟩ <;> decide +kernel
theorem GG (T:Txt K mg A):aY P w K mg base bF 1 A.la A.jN ["edges","sums"] (GF A):=by
 refine T.gu.ok iU (fun vs H Q E h=>?_) (fun bg Ar outer s H vs Q E hr h=>?_)
 ·obtain⟨le,ls,es,r,rfl,_⟩:=h
  rfl
 ·obtain⟨le,ls,es,r,rfl,hE,hR,h9,hN,k⟩:=h
  obtain⟨as,hl,hA⟩:=hE
  refine⟨_,(ae (aG (i:=2) iU.nd rfl (Or.inl rfl) iG)
   (ae (cq PassesOwn.never rfl (bz (pv 0)) (a6 (i:=3) iU.nd rfl (Or.inl rfl))
    (ae (aG (i:=4) iU.nd rfl (Or.inl rfl) (bf aN (pv 1) (aD (pv 3) rfl) (fun _ _=>rfl)))
   (ae (aP (d3 (gR (pv 4))) (ao oU) aI)
   (ae (aG (i:=5) iU.nd rfl (Or.inl rfl) (dM nh (pv 4) (aD (pv 3) rfl)))
   (ae (aG (i:=6) iU.nd rfl (Or.inl rfl) (bf aN (pv 1) (aD (pv 3) rfl) (fun _ _=>rfl)))
   (ao (aP (PW.pt (Bq (d3 (gR (pv 6))) (xn (aO uu (pv 5) (pv 6) (aU _))))) (ae (zT (pv 5) (zS (pv 1) (aD (pv 3) rfl) set_list))
   (ao (aG (i:=2) iU.nd rfl (Or.inl rfl) iG))) aI)))))))
   (ao (ax (pv 2))))),?_⟩
  refine⟨_,rfl,le,rfl,⟨_,aE.of hl⟩,ck (K:=K) (a:=le) (xs:=as.map V.ref) (fun i σ H'=>∃v3 v4 v5 v6,σ=[some (.ref le),some (.ref ls),some (.bl ((es.take i).foldl WS.bL (r,false)).2),v3,v4,v5,v6]/\d_ H' ls ((es.take i).foldl WS.bL (r,false)).1/\bA ls H H')
   ⟨none,none,none,none,rfl,hR,bA.refl⟩ (fun i σ H' _ ⟨_,_,_,_,_,_,b⟩=>aE.of (b _ _ hl h9)) ?_ ?_⟩
  ·rintro i y σ H' hi ⟨v3,v4,v5,v6,rfl,jB,b⟩
   obtain⟨a,ha,rfl⟩:=bh hi
   obtain⟨e,he,hd⟩:=hA.get ha
   have hn:=qY hd hR
   obtain⟨dx,hd⟩:=hd
   have dZ:=b _ _ hd hn
   have hm:e∈es:=mem_of_getElem? he
   have hlen:((es.take i).foldl WS.bL (r,false)).1.length=r.length:=WS.wR _
   have h1:e.src<((es.take i).foldl WS.bL (r,false)).1.length:=by rw[hlen];exact(hN e hm).1
   have h2:e.dst<((es.take i).foldl WS.bL (r,false)).1.length:=by rw[hlen];exact(hN e hm).2
   have uB:(es.take (i+1)).foldl WS.bL (r,false)=WS.bL ((es.take i).foldl WS.bL (r,false)) e:=by rw[take_snoc he,List.foldl_append];rfl
   rw[uB]
   generalize (es.take i).foldl WS.bL (r,false)=p at jB h1 h2 ⊢
   refine⟨_,rfl,_,rfl,a,_,dx,_,_,rfl,dZ,T.bw,T.cK,rfl,ls,_,_,_,rfl,rfl,aE.of jB,mr h1,?_⟩
   refine⟨_,rfl,_,rfl,?_⟩
   cases c1:Vbedac.entry p.1 e.src with
   | none=>
    refine aS ?_
    have:WS.bL p e=p:=by unfold WS.bL;rw[c1]
    rw[this]
    exact⟨_,_,_,_,rfl,jB,b⟩
   | some x=>
    refine aZ ?_
    refine⟨_,rfl,_,rfl,a,_,dx,_,_,rfl,dZ,T.bw,T.cZ,rfl,_,_,rfl,rfl,?_⟩
    refine⟨_,rfl,_,rfl,a,_,dx,_,_,rfl,dZ,T.bw,T.cM,rfl,ls,_,_,_,rfl,rfl,aE.of jB,mr h2,?_⟩
    refine⟨_,rfl,_,rfl,?_⟩
    cases c2:Vbedac.entry p.1 e.dst with
    | none=>
     refine aS ?_
     refine aS ?_
     have:WS.bL p e=(p.1.set e.dst (some (x+e.w)),true):=by unfold WS.bL;rw[c1,c2]
     rw[this]
     refine⟨_,rfl,_,rfl,_,rfl,a,_,dx,_,_,rfl,dZ,T.bw,T.cM,rfl,ls,_,_,_,rfl,rfl,jB,vN (by rw[length_map];exact h2),?_⟩
     refine⟨_,_,_,_,rfl,?_,b.trans bA.upd⟩
     show upd _ _ _ _=_
     rw[ah,kU]
    | some y=>
     refine aZ ?_
     refine⟨_,rfl,_,rfl,_,_,rfl,rfl,_,rfl,?_⟩
     by_cases c:x+e.w<y
     ·have:WS.bL p e=(p.1.set e.dst (some (x+e.w)),true):=by unfold WS.bL;rw[c1,c2];exact if_pos c
      rw[this,decide_eq_true c]
      refine aS ?_
      refine⟨_,rfl,_,rfl,_,rfl,a,_,dx,_,_,rfl,dZ,T.bw,T.cM,rfl,ls,_,_,_,rfl,rfl,jB,vN (by rw[length_map];exact h2),?_⟩
      refine⟨_,_,_,_,rfl,?_,b.trans bA.upd⟩
      show upd _ _ _ _=_
      rw[ah,kU]
     ·have:WS.bL p e=p:=by unfold WS.bL;rw[c1,c2];exact if_neg c
      rw[this,decide_eq_false c]
      refine aZ ?_
      exact⟨_,_,_,_,rfl,jB,b⟩
  ·rintro σ H' ⟨v3,v4,v5,v6,rfl,jB,b⟩
   have hlen:(as.map V.ref).length=es.length:=by rw[length_map];exact hA.1
   rw[hlen,take_length] at jB ⊢
   exact⟨_,rfl,k H' jB b⟩
def NO (A:aW):Sp:=fun vs H Q _=>∃(le ls:Addr) (es:List Edge) (r:kT),vs=[.ref le,.ref ls]/\a7 A H le es/\d_ H ls r/\le≠ls/\WS.bB r.length es/\r.length<=1000/\
 ∀H':Hp,d_ H' ls (WS.settle es r.length r).1->bA ls H H'->Q (.bl (WS.settle es r.length r).2) H'
theorem Gg:aJ ["edges","sums","turn"] ["edges","sums"] (ay C3):=by refine⟨rfl,rfl,rfl,?_,rfl,?_,?_⟩ <;> decide +kernel
theorem AO (T:Txt K mg A):aY P w K mg base bF 2 A.rR A.pR ["edges","sums"] (NO A):=by
 refine T.jt.ok Gg (fun vs H Q E h=>?_) (fun bg Ar outer s H vs Q E hr h=>?_)
 ·obtain⟨le,ls,es,r,rfl,_⟩:=h
  rfl
 ·obtain⟨le,ls,es,r,rfl,hE,hR,h9,hN,hz,k⟩:=h
  refine⟨_,(ae (cq PassesOwn.never rfl (lK rfl T.hX (aa (bX bx (by rfl) T.d9 PySem.boot_len (aa (pv 1) ag)) ag)) (a6 (i:=2) Gg.nd rfl (Or.inl rfl))
    (ao (aP (kZ (fz (aA (GG T) (hr.mono (by decide:1<=1)) rfl T.AE T.gu.kp T.AD .nil aF (aa (pv 0) (aa (pv 1) ag))))) (ao (ax iG)) aI)))
   (ao (ax iG))),?_⟩
  refine⟨_,rfl,ls,_,rfl,.inl (aE.of hR),?_⟩
  rw[length_map]
  refine⟨_,rfl,by omega,by omega,pL (lo:=0) (n:=r.length) (fun i σ H'=>∃v2 r',σ=[some (.ref le),some (.ref ls),v2]/\d_ H' ls r'/\bA ls H H'/\r'.length=r.length/\WS.settle es r.length r=WS.settle es (r.length-i) r')
   ⟨none,r,rfl,hR,bA.refl,rfl,rfl⟩ ?_ ?_⟩
  ·rintro i σ H' hi ⟨v2,r',rfl,jB,b,hl,hs⟩
   have hE':a7 A H' le es:=NN hE hR h9 b
   refine⟨_,rfl,_,rfl,le,ls,es,r',rfl,hE',jB,h9,by rw[hl];exact hN,fun H2 KQ b2=>?_⟩
   refine⟨_,rfl,?_⟩
   have e1:r.length-i=(r.length-(i+1))+1:=by omega
   rw[e1,show WS.settle es (r.length-(i+1)+1) r'=if (WS.cc es r').2=true then WS.settle es (r.length-(i+1)) (WS.cc es r').1 else ((WS.cc es r').1,true) from rfl] at hs
   cases c:(WS.cc es r').2 with
   | true=>
    rw[if_pos c] at hs
    refine aZ ?_
    exact⟨_,_,rfl,KQ,b.trans b2,by rw[WS.jq];exact hl,hs⟩
   | false=>
    rw[if_neg (by rw[c];exact Bool.false_ne_true)] at hs
    refine aS ?_
    have:=k H2 (by rw[hs];exact KQ) (b.trans b2)
    rw[hs] at this
    exact this
  ·rintro σ H' ⟨v2,r',rfl,jB,b,hl,hs⟩
   rw[Nat.sub_self] at hs
   have:=k H' (by rw[hs];exact jB) b
   rw[hs] at this
   exact this
theorem pY (v:V) (n:Nat):(List.replicate n [v]).flatten=List.replicate n v:=by
 induction n with
 | zero=>rfl
 | succ n ih=>rw[List.replicate_succ,List.flatten_cons,ih,List.replicate_succ];rfl
theorem xW (x:Option Int) (n:Nat):List.replicate n (fD x)=(List.replicate n x).map fD:=by rw[List.map_replicate]
def AQ (A:aW):Sp:=fun vs H Q _=>∃(n:Nat) (le:Addr) (es:List Edge),vs=[.int n,.ref le]/\a7 A H le es/\WS.bB n es/\0<n/\n<=1000/\
 ∀H':Hp,aq H H'->Q (.bl (Vbedac.fit n es)) H'
theorem AR:aJ ["n","edges"] ["n","edges"] (ay oQ):=by refine⟨rfl,rfl,rfl,?_,rfl,?_,?_⟩ <;> decide +kernel
theorem cP (T:Txt K mg A):aY P w K mg base bF 3 A.gI A.fT ["n","edges"] (AQ A):=by
 refine T.bu.ok AR (fun vs H Q E h=>?_) (fun bg Ar outer s H vs Q E hr h=>?_)
 ·obtain⟨n,le,es,rfl,_⟩:=h
  rfl
 ·obtain⟨n,le,es,rfl,hE,hN,h0,hz,k⟩:=h
  refine⟨_,(ao (ax (aA (AO T) (hr.mono (by decide:2<=2)) rfl T.yN T.jt.kp T.yM .nil aF (aa (pv 1) (aa (dM z6 (aR (aa aH ag)) (pv 0)) ag))))),?_⟩
  refine⟨_,rfl,zl1,fun l1 jA=>?_⟩
  refine⟨_,rfl,l1,_,_,rfl,rfl,ah,(by omega),(by omega),(by show 1*_<=sizeLine;rw[sizeLine_eq];omega),fun l2 jo=>?_⟩
  have s1:aq H (upd H l1 (.lst [.int 0])):=aq.new jA
  have s2:aq (upd H l1 (.lst [.int 0])) _:=aq.new (o:=.lst (List.replicate ((n:Int)).toNat [V.int 0]).flatten) jo
  have ke:=bj hE (s1.trans s2)
  have hR:d_ (upd (upd H l1 (.lst [.int 0])) l2 (.lst (List.replicate ((n:Int)).toNat [V.int 0]).flatten)) l2 (WS.zeros n):=by
   show upd _ _ _ _=_
   rw[ah,pY]
   exact congrArg (fun q=>some (HO.lst q)) (xW (some 0) n)
  have h9:le≠l2:=by
   obtain⟨as,h1,_⟩:=bj hE s1
   exact aK h1 jo
  have hlen:(WS.zeros n).length=n:=by simp[WS.zeros]
  refine⟨le,l2,es,WS.zeros n,rfl,ke,hR,h9,by rw[hlen];exact hN,by rw[hlen];exact hz,fun H' jB b=>?_⟩
  have:=k H' (aq.but (s1.trans s2) (s1.free jo) b)
  rw[hlen]
  rw[<- WS.M5 hN h0] at this
  exact this
theorem fE.upd {A:aW} {H:Hp} {a q:Addr} {e:Edge} {xs:List V} {o:HO} (h:fE A H a e) (hq:H q=some (.lst xs)):fE A (upd H q o) a e:=by
 have n:=qY h hq
 obtain⟨dx,h⟩:=h
 exact⟨dx,by rw[aw n];exact h⟩
theorem pZ {A:aW} {H:Hp} {q x:Addr} {as:List Addr} {es:List Edge} {e:Edge} (hq:H q=some (.lst (as.map V.ref))) (h:bc (fE A H) as es) (he:fE A H x e) :
  upd H q (.lst (as.map V.ref++[.ref x])) q=some (.lst ((as++[x]).map V.ref))/\bc (fE A (upd H q (.lst (as.map V.ref++[.ref x])))) (as++[x]) (es++[e]):=by
 refine⟨by rw[ah,map_append];rfl,(h.imp fun a e h=>h.upd hq).snoc (he.upd hq)⟩
def GH (A:aW):Sp:=fun vs H Q _=>∃(l:Addr) (xs:List Said),vs=[.ref l]/\dN A H l xs/\xs.length<=1000/\
 ∀(H':Hp) (p:Addr),aq H H'->a7 A H' p (Vbedac.edgesIn xs)->Q (.ref p) H'
theorem tU:aJ ["statements","edges","statement"] ["statements"] (ay vq):=by refine⟨rfl,rfl,rfl,?_,rfl,?_,?_⟩ <;> decide +kernel
theorem gQ (T:Txt K mg A):aY P w K mg base bF 3 A.k9 A.jL ["statements"] (GH A):=by
 refine T.cg.ok tU (fun vs H Q E h=>?_) (fun bg Ar outer s H vs Q E hr h=>?_)
 ·obtain⟨l,xs,rfl,_⟩:=h
  rfl
 ·obtain⟨l,xs,rfl,⟨as,hl,hA⟩,hz,k⟩:=h
  refine⟨_,(ae (aG (i:=1) tU.nd rfl (Or.inl rfl) (aR ag))
   (ae (cq PassesOwn.never rfl (bz (pv 0)) (a6 (i:=2) tU.nd rfl (Or.inl rfl))
    (ae (cv (fG PySem.F.plainAttrs_list PySem.F.slot_list_append PySem.F.type_list_append dn (pv 1) (aa (rJ T.se (vO T) (hr.mono (by decide:2<=2)) rfl T.Ei T.sA .nil aF (aa (aD (pv 2) rfl) (aa (aD (pv 2) rfl) (aa (aD (pv 2) rfl) (aa (aD (pv 2) rfl) (aa aH ag)))))) ag)))
   (ao (cv (fG PySem.F.plainAttrs_list PySem.F.slot_list_append PySem.F.type_list_append dn (pv 1) (aa (rJ T.se (vO T) (hr.mono (by decide:2<=2)) rfl T.Ei T.sA .nil aF (aa (aD (pv 2) rfl) (aa (aD (pv 2) rfl) (aa (mZ j_ (aD (pv 2) rfl)) (aa (aD (pv 2) rfl) (aa aH ag)))))) ag))))))
   (ao (ax (pv 1))))),?_⟩
  refine⟨zl0,fun q hq=>?_⟩
  have s0:aq H (upd H q (.lst [])):=aq.new hq
  refine⟨_,rfl,l,rfl,⟨_,aE.of (s0 _ _ hl)⟩,ck (K:=K) (a:=l) (xs:=as.map V.ref) (fun i σ H'=>∃v2 bs,σ=[some (.ref l),some (.ref q),v2]/\aq H H'/\H' q=some (.lst (bs.map V.ref))/\bc (fE A H') bs (Vbedac.edgesIn (xs.take i)))
   ⟨none,[],rfl,s0,ah,bc.nil⟩ (fun i σ H' _ ⟨_,_,_,s1,_⟩=>aE.of (s1 _ _ hl)) ?_ ?_⟩
  ·rintro i y σ H' hi ⟨v2,bs,rfl,s1,Gh,hB⟩
   obtain⟨a,ha,rfl⟩:=bh hi
   obtain⟨x,hx,dx,hd⟩:=hA.get ha
   have Cv:=s1 _ _ hd
   have k4:i<xs.length:=(List.getElem?_eq_some_iff.mp hx).1
   have hlen:bs.length<=2000:=by
    rw[hB.1]
    have:∀l:List Said,(Vbedac.edgesIn l).length=2*l.length:=by
     intro l
     induction l with
     | nil=>rfl
     | cons x l ih=>show (Vbedac.edgesOf x++Vbedac.edgesIn l).length=_;rw[length_append,ih];show 2+_=_;simp;omega
    rw[this,length_take];omega
   have uB:Vbedac.edgesIn (xs.take (i+1))=(Vbedac.edgesIn (xs.take i)++[⟨x.a,x.b,x.hi,x.key,0⟩])++[⟨x.b,x.a,-x.lo,x.key,1⟩]:=by
    rw[take_snoc hx]
    unfold Vbedac.edgesIn
    rw[List.flatMap_append,append_assoc]
    rfl
   rw[uB]
   refine⟨_,rfl,.inl ⟨rfl,_,aE.of Gh⟩,?_⟩
   refine⟨_,rfl,a,_,dx,_,_,rfl,Cv,T.aC,T.cw,rfl,?_⟩
   refine⟨_,rfl,a,_,dx,_,_,rfl,Cv,T.aC,T.cx,rfl,?_⟩
   refine⟨_,rfl,a,_,dx,_,_,rfl,Cv,T.aC,T.df,rfl,?_⟩
   refine⟨_,rfl,a,_,dx,_,_,rfl,Cv,T.aC,T.bp,rfl,?_⟩
   intro x1 d1 n1 m1 e1
   refine⟨x1,d1,⟨x.a,x.b,x.hi,x.key,0⟩,rfl,ah,fun H2 c2 b2=>⟨rfl,?_⟩⟩
   have s2:aq H' H2:=aq.made n1 m1 b2
   have oH:=s2 _ _ Gh
   obtain⟨g1,g2⟩:=pZ oH (hB.imp fun a e h=>h.same s2) (x:=x1) (e:=⟨x.a,x.b,x.hi,x.key,0⟩) ⟨d1,c2⟩
   refine⟨q,_,_,rfl,rfl,oH,(by rw[length_map,sizeLine_eq];omega),?_⟩
   have s3:aq H (upd H2 q (.lst (bs.map V.ref++[.ref x1]))):=aq.but (s1.trans s2) hq bA.upd
   have AS:=s3 _ _ hd
   refine⟨_,rfl,.inl ⟨rfl,_,aE.of g1⟩,?_⟩
   refine⟨_,rfl,a,_,dx,_,_,rfl,AS,T.aC,T.cx,rfl,?_⟩
   refine⟨_,rfl,a,_,dx,_,_,rfl,AS,T.aC,T.cw,rfl,?_⟩
   refine⟨_,rfl,a,_,dx,_,_,rfl,AS,T.aC,T.c_,rfl,_,rfl,?_⟩
   refine⟨_,rfl,a,_,dx,_,_,rfl,AS,T.aC,T.bp,rfl,?_⟩
   intro x2 d2 n2 m2 e2
   refine⟨x2,d2,⟨x.b,x.a,-x.lo,x.key,1⟩,rfl,ah,fun H4 c4 b4=>⟨rfl,?_⟩⟩
   have s4:aq _ H4:=aq.made n2 m2 b4
   have eC:=s4 _ _ g1
   obtain⟨g3,g4⟩:=pZ eC (g2.imp fun a e h=>h.same s4) (x:=x2) (e:=⟨x.b,x.a,-x.lo,x.key,1⟩) ⟨d2,c4⟩
   refine⟨q,_,_,rfl,rfl,eC,(by rw[length_map,sizeLine_eq,length_append];simp;omega),?_⟩
   exact⟨_,_,rfl,aq.but (s3.trans s4) hq bA.upd,g3,g4⟩
  ·rintro σ H' ⟨v2,bs,rfl,s1,Gh,hB⟩
   have hlen:(as.map V.ref).length=xs.length:=by rw[length_map];exact hA.1
   rw[hlen,take_length] at hB
   exact⟨_,rfl,k H' q s1 ⟨bs,Gh,hB⟩⟩
def GI (A:aW):Sp:=fun vs H Q _=>∃(l:Addr) (es:List Edge),vs=[.ref l]/\a7 A H l es/\es.length<=10000/\
 ∀(H':Hp) (p:Addr),aq H H'->a7 A H' p (es.map Vbedac.turned)->Q (.ref p) H'
theorem tV:aJ ["edges","edge"] ["edges"] (ay qv):=by refine⟨rfl,rfl,rfl,?_,rfl,?_,?_⟩ <;> decide +kernel
theorem GJ (T:Txt K mg A):aY P w K mg base bF 3 A.k_ A.jM ["edges"] (GI A):=by
 refine T.gr.ok tV (fun vs H Q E h=>?_) (fun bg Ar outer s H vs Q E hr h=>?_)
 ·obtain⟨l,xs,rfl,_⟩:=h
  rfl
 ·obtain⟨l,es,rfl,⟨as,hl,hA⟩,hz,k⟩:=h
  refine⟨_,(ao (ax (lZ rfl tV.nd (bz (pv 0)) (c8 (N:=["edges","edge"]) (sc:=ay qv) (own:=[("edge",1)]) (by decide +kernel)) (fun _ _ _ _ _=>(a6 (i:=1) tV.nd rfl (Or.inl rfl))) (fun _ _ _ _ _=>ja) (fun _ _ _ _ _=>by exact(rJ T.se (vO T) (hr.mono (by decide:2<=2)) rfl T.Ei T.sA .nil aF (aa (dQ (K:=K) rfl (pv 1) rfl) (aa (dQ (K:=K) rfl (pv 1) rfl) (aa (dQ (K:=K) rfl (pv 1) rfl) (aa (dQ (K:=K) rfl (pv 1) rfl) (aa (dQ (K:=K) rfl (pv 1) rfl) ag)))))))))),?_⟩
  refine⟨_,rfl,l,rfl,⟨_,aE.of hl⟩,fun D hD=>?_⟩
  refine fQ (K:=K) (a:=l) (xs:=as.map V.ref) (fun i H'=>∃bs,aq H H'/\H' D=some (.lst (bs.map V.ref))/\bc (fE A H') bs ((es.take i).map Vbedac.turned))
   ⟨[],aq.new hD,ah,bc.nil⟩ (fun i H' _ ⟨_,s1,_⟩=>aE.of (s1 _ _ hl)) ?_ ?_
  ·rintro i y H' hi ⟨bs,s1,zA,hB⟩
   obtain⟨a,ha,rfl⟩:=bh hi
   obtain⟨e,he,dx,hd⟩:=hA.get ha
   have Cv:=s1 _ _ hd
   have k4:i<es.length:=(List.getElem?_eq_some_iff.mp he).1
   have hlen:bs.length<=10000:=by rw[hB.1,length_map,length_take];omega
   refine⟨rfl,jm (aS ?_)⟩
   refine⟨_,rfl,a,_,dx,_,_,rfl,Cv,T.bw,T.cM,rfl,?_⟩
   refine⟨_,rfl,a,_,dx,_,_,rfl,Cv,T.bw,T.cK,rfl,?_⟩
   refine⟨_,rfl,a,_,dx,_,_,rfl,Cv,T.bw,T.cZ,rfl,?_⟩
   refine⟨_,rfl,a,_,dx,_,_,rfl,Cv,T.bw,T.gn,rfl,?_⟩
   refine⟨_,rfl,a,_,dx,_,_,rfl,Cv,T.bw,T.eI,rfl,?_⟩
   intro x1 d1 n1 m1 e1
   refine⟨x1,d1,Vbedac.turned e,rfl,ah,fun H2 c2 b2=>⟨rfl,?_⟩⟩
   have s2:aq H' H2:=aq.made n1 m1 b2
   have dq:=s2 _ _ zA
   obtain⟨g1,g2⟩:=pZ dq (hB.imp fun a e h=>h.same s2) (x:=x1) (e:=Vbedac.turned e) ⟨d1,c2⟩
   refine⟨_,dq,(by rw[length_map,sizeLine_eq];omega),_,aq.but (s1.trans s2) hD bA.upd,g1,?_⟩
   rw[take_snoc he,map_append]
   exact g2
  ·rintro H' ⟨bs,s1,zA,hB⟩
   have hlen:(as.map V.ref).length=es.length:=by rw[length_map];exact hA.1
   rw[hlen,take_length] at hB
   exact k H' D s1 ⟨bs,zA,hB⟩
def zK (A:aW):Sp:=fun vs H Q _=>∃(n:Nat) (le:Addr) (i:Nat) (es:List Edge),vs=[.int n,.ref le,.int i]/\a7 A H le es/\WS.bB n es/\WS.bK es/\i<n/\n<=1000/\
 ∀(H':Hp) (p:Addr),aq H H'->d_ H' p (Vbedac.within_ n es i n)->Q (.ref p) H'
theorem KR (n i:Nat) (hi:i<n):(List.replicate n (none:Option Int)).set i (some 0)=Vbedac.only n i:=by
 refine WS.uO (by simp[WS.dP]) fun j hj=>?_
 rw[WS.kc (by simpa using hi),WS.nU]
 simp at hj
 by_cases c:j=i
 ·rw[if_pos c,if_pos ⟨hj,c⟩]
 ·rw[if_neg c,if_neg fun q=>c q.2]
  exact WS.entry_get (by rw[List.getElem?_replicate,if_pos hj])
theorem rF:aJ ["n","edges","event","sums"] ["n","edges","event"] (ay nA):=by refine⟨rfl,rfl,rfl,?_,rfl,?_,?_⟩ <;> decide +kernel
theorem jy (T:Txt K mg A):aY P w K mg base bF 3 A.fU A.fm ["n","edges","event"] (zK A):=by
 refine T.bM.ok rF (fun vs H Q E h=>?_) (fun bg Ar outer s H vs Q E hr h=>?_)
 ·obtain⟨n,le,i,es,rfl,_⟩:=h
  rfl
 ·obtain⟨n,le,i,es,rfl,hE,hN,hG,hi,hz,k⟩:=h
  refine⟨_,(ae (aG (i:=3) rF.nd rfl (Or.inl rfl) (dM z6 (aR (aa iu ag)) (pv 0)))
   (ae (zT aH (zS (pv 3) (pv 2) set_list))
   (ae (cv (aA (AO T) (hr.mono (by decide:2<=2)) rfl T.yN T.jt.kp T.yM .nil aF (aa (pv 1) (aa (pv 3) ag))))
   (ao (ax (pv 3)))))),?_⟩
  refine⟨zl1,fun l1 jA=>?_⟩
  refine⟨_,rfl,l1,_,_,rfl,rfl,ah,(by omega),(by omega),(by show 1*_<=sizeLine;rw[sizeLine_eq];omega),fun l2 jo=>?_⟩
  have s1:aq H (upd H l1 (.lst [.bE])):=aq.new jA
  have s2:aq (upd H l1 (.lst [.bE])) _:=aq.new (o:=.lst (List.replicate ((n:Int)).toNat [V.bE]).flatten) jo
  refine⟨_,rfl,_,rfl,l2,_,_,i,rfl,rfl,ah,(by rw[pY,length_replicate];exact vN hi),?_⟩
  rw[Bn]
  have hR:d_ (upd (upd H l1 (.lst [.bE])) l2 (.lst ((List.replicate ((n:Int)).toNat [V.bE]).flatten.set i (.int 0)))) l2 (Vbedac.only n i):=by
   show upd _ _ _ _=_
   rw[ah,pY]
   show some (HO.lst ((List.replicate n (fD none)).set i (.int 0)))=_
   rw[xW,kU,KR n i hi]
  have s3:aq (upd H l1 (.lst [.bE])) (upd (upd H l1 (.lst [.bE])) l2 (.lst ((List.replicate ((n:Int)).toNat [V.bE]).flatten.set i (.int 0)))):=aq.new jo
  have ke:=bj hE (s1.trans s3)
  have h9:le≠l2:=by
   obtain⟨as,h1,_⟩:=bj hE s1
   exact aK h1 jo
  have hlen:(Vbedac.only n i).length=n:=WS.dP
  refine⟨_,rfl,_,rfl,le,l2,es,Vbedac.only n i,rfl,ke,hR,h9,by rw[hlen];exact hN,by rw[hlen];exact hz,fun H' jB b=>?_⟩
  refine⟨_,rfl,k H' l2 (aq.but (s1.trans s3) (s1.free jo) b) ?_⟩
  rw[hlen] at jB
  rw[<- WS.zf hN hG hi]
  exact jB
def BU (A:aW):Sp:=fun vs H Q _=>∃(n:Nat) (le:Addr) (i:Nat) (es:List Edge),vs=[.int n,.ref le,.int i]/\a7 A H le es/\es.length<=10000/\WS.bB n es/\WS.bK es/\i<n/\n<=1000/\
 ∀(H':Hp) (p:Addr),aq H H'->d_ H' p ((Vbedac.events n).map fun j=>Vbedac.reach n es j i)->Q (.ref p) H'
theorem BV:aJ ["n","edges","event"] ["n","edges","event"] (ay pw):=by refine⟨rfl,rfl,rfl,?_,rfl,?_,?_⟩ <;> decide +kernel
theorem BW (T:Txt K mg A):aY P w K mg base bF 4 A.g7 A.gJ ["n","edges","event"] (BU A):=by
 refine T.dE.ok BV (fun vs H Q E h=>?_) (fun bg Ar outer s H vs Q E hr h=>?_)
 ·obtain⟨n,le,i,es,rfl,_⟩:=h
  rfl
 ·obtain⟨n,le,i,es,rfl,hE,hL,hN,hG,hi,hz,k⟩:=h
  refine⟨_,(ao (ax (aA (jy T) (hr.mono (by decide:3<=3)) rfl T.iz T.bM.kp T.iy .nil aF (aa (pv 0) (aa (aA (GJ T) (hr.mono (by decide:3<=3)) rfl T.AB T.gr.kp T.AA .nil aF (aa (pv 1) ag)) (aa (pv 2) ag)))))),?_⟩
  refine⟨_,rfl,_,rfl,le,es,rfl,hE,hL,fun H1 p1 s1 KS=>?_⟩
  refine⟨_,rfl,n,p1,i,_,rfl,KS,hN.turned,hG.turned,hi,hz,fun H2 p2 s2 hR=>?_⟩
  refine k H2 p2 (s1.trans s2) ?_
  have e:Vbedac.within_ n (es.map Vbedac.turned) i n=(Vbedac.events n).map fun j=>Vbedac.reach n es j i:=by
   refine WS.uO (by rw[WS.iw,WS.eE WS.dP];simp[Vbedac.events]) fun j hj=>?_
   rw[WS.iw,WS.eE WS.dP] at hj
   rw[show Vbedac.events n=List.range n from rfl,WS.sP,if_pos hj,<- WS.JD hN hG hi hj,WS.zf hN.turned hG.turned hi]
  rw[<- e];exact hR
theorem RU {K:PySem.W.Frag} {a:Addr} {xs:List V} {g:TG} {tb:TS} {D:Ends} {σ:L2.St} {H:Hp} (Pv:Nat->L2.St->Hp->Prop) (h0:Pv 0 σ H) (hl:∀i σ H,i<=xs.length->Pv i σ H->aE K H a xs)
  (hs:∀i x σ H,i<xs.length->xs[xs.length-1-i]?=some x->Pv i σ H->g x σ H fun σ2 H2=>tb { D with nx:=Pv (i+1),ct:=Pv (i+1),bk:=D.nx } σ2 H2) (hd:∀σ H,Pv xs.length σ H->D.nx σ H) :
  ∃W:Nat->Nat->L2.St->Hp->Prop,(∃m,W 0 m σ H)/\∀i m σ H,W i m σ H->
   ((MV K a xs.length).stop i H/\D.nx σ H)\/((MV K a xs.length).go i H/\∃N:L2.St->Hp->Prop,(∀σ' H',N σ' H'->∃m',m' < m/\W (i+1) m' σ' H')/\∀x H',(MV K a xs.length).B6 i H x H'->g x σ H' fun σ2 H2=>tb { D with nx:=N,ct:=N,bk:=D.nx } σ2 H2):=by
 refine⟨fun i m σ H=>m=xs.length-i/\i<=xs.length/\Pv i σ H,⟨xs.length,by simp,Nat.zero_le _,h0⟩,?_⟩
 rintro i m σ H ⟨rfl,hi,p⟩
 have q:=hl i σ H hi p
 by_cases eO:i<xs.length
 ·have hj:xs.length-1-i<xs.length:=by omega
  refine .inr ⟨⟨eO,xs,xs[xs.length-1-i],q,getElem?_eq_getElem hj⟩,Pv (i+1),fun σ' H' p'=>⟨xs.length-(i+1),by omega,rfl,eO,p'⟩,fun x H' y=>?_⟩
  obtain⟨e,y⟩:=y
  subst e
  exact hs i x σ _ eO (y xs q) p
 ·have e:i=xs.length:=by omega
  subst e
  exact .inl ⟨Nat.le_refl _,hd σ H p⟩
theorem u6 {α:Type} {xs:List α} {k:Nat} {v:α} (hl:xs.length=k+1) (h:xs[k]?=some v):z0 xs (-1)=some v:=by
 unfold z0
 have e:zZ xs.length (-1)=some k:=by
  unfold zZ
  rw[hl,if_neg (by omega),if_pos (by omega)]
  exact congrArg some (by omega)
 rw[e]
 exact h
theorem Pk {xs:List V} {k:Nat} (hl:xs.length=k+1):tG xs none (some (-1))=xs.take k:=by
 unfold tG
 have h1:HT.cV xs.length 0 none=0:=rfl
 have h2:HT.cV xs.length xs.length (some (-1))=k:=by
  unfold HT.cV
  rw[hl]
  simp
  omega
 rw[h1,h2]
 rfl
abbrev nE:=jx d_
theorem wB {H H':Hp} {l:Addr} {rs:List kT} (h:nE H l rs) (s:aq H H'):nE H' l rs:=jx.same h s fun _ _ h=>s _ _ h
def vP (A:aW):Sp:=fun vs H Q _=>∃(n i:Nat),vs=[.int n,.int i]/\i<n/\n<=1000/\
 ∀(H':Hp) (p:Addr),aq H H'->d_ H' p (Vbedac.only n i)->Q (.ref p) H'
theorem nF:aJ ["n","goal","sums"] ["n","goal"] (ay jE):=by refine⟨rfl,rfl,rfl,?_,rfl,?_,?_⟩ <;> decide +kernel
theorem nG (T:Txt K mg A):aY P w K mg base bF 1 A.du A.c9 ["n","goal"] (vP A):=by
 refine T.bI.ok nF (fun vs H Q E h=>?_) (fun bg Ar outer s H vs Q E hr h=>?_)
 ·obtain⟨n,i,rfl,_⟩:=h
  rfl
 ·obtain⟨n,i,rfl,hi,hz,k⟩:=h
  refine⟨_,(ae (aG (i:=2) nF.nd rfl (Or.inl rfl) (dM z6 (aR (aa iu ag)) (pv 0)))
   (ae (zT aH (zS (pv 2) (pv 1) set_list))
   (ao (ax (pv 2))))),?_⟩
  refine⟨zl1,fun l1 jA=>?_⟩
  refine⟨_,rfl,l1,_,_,rfl,rfl,ah,(by omega),(by omega),(by show 1*_<=sizeLine;rw[sizeLine_eq];omega),fun l2 jo=>?_⟩
  have s1:aq H (upd H l1 (.lst [.bE])):=aq.new jA
  refine⟨_,rfl,_,rfl,l2,_,_,i,rfl,rfl,ah,(by rw[pY,length_replicate];exact vN hi),?_⟩
  rw[Bn]
  have hR:d_ (upd (upd H l1 (.lst [.bE])) l2 (.lst ((List.replicate ((n:Int)).toNat [V.bE]).flatten.set i (.int 0)))) l2 (Vbedac.only n i):=by
   show upd _ _ _ _=_
   rw[ah,pY]
   show some (HO.lst ((List.replicate n (fD none)).set i (.int 0)))=_
   rw[xW,kU,KR n i hi]
  have s3:aq (upd H l1 (.lst [.bE])) (upd (upd H l1 (.lst [.bE])) l2 (.lst ((List.replicate ((n:Int)).toNat [V.bE]).flatten.set i (.int 0)))):=aq.new jo
  exact⟨_,rfl,k _ l2 (s1.trans s3) hR⟩
def JL (A:aW):Sp:=fun vs H Q _=>∃(le ls:Addr) (es:List Edge) (r:kT),vs=[.ref le,.ref ls]/\a7 A H le es/\d_ H ls r/\WS.bB r.length es/\r.length<=1000/\
 ∀(H':Hp) (p:Addr),aq H H'->d_ H' p (Vbedac.further r.length (es.map Vbedac.turned) r)->Q (.ref p) H'
theorem mQ:aJ ["edges","sums","longer","edge","onward","reached","held"] ["edges","sums"] (ay yH):=by refine⟨rfl,rfl,rfl,?_,rfl,?_,?_⟩ <;> decide +kernel
theorem Cw (T:Txt K mg A):aY P w K mg base bF 1 A.n8 A.mE ["edges","sums"] (JL A):=by
 refine T.ic.ok mQ (fun vs H Q E h=>?_) (fun bg Ar outer s H vs Q E hr h=>?_)
 ·obtain⟨le,ls,es,r,rfl,_⟩:=h
  rfl
 ·obtain⟨le,ls,es,r,rfl,⟨as,hl,hA⟩,hR,hN,hz,k⟩:=h
  refine⟨_,(ae (aG (i:=2) mQ.nd rfl (Or.inl rfl) (dM z6 (aR (aa iu ag)) (bX bx (by rfl) T.d9 PySem.boot_len (aa (pv 1) ag))))
   (ae (cq PassesOwn.never rfl (bz (pv 0)) (a6 (i:=3) mQ.nd rfl (Or.inl rfl))
    (ae (aG (i:=4) mQ.nd rfl (Or.inl rfl) (bf aN (pv 1) (aD (pv 3) rfl) (fun _ _=>rfl)))
   (ae (aP (d3 (gR (pv 4))) (ao oU) aI)
   (ae (aG (i:=5) mQ.nd rfl (Or.inl rfl) (dM nh (aD (pv 3) rfl) (pv 4)))
   (ae (aG (i:=6) mQ.nd rfl (Or.inl rfl) (bf aN (pv 2) (aD (pv 3) rfl) (fun _ _=>rfl)))
   (ao (aP (PW.pt (Bq (d3 (gR (pv 6))) (xn (aO uu (pv 5) (pv 6) (aU _))))) (ao (zT (pv 5) (zS (pv 2) (aD (pv 3) rfl) set_list))) aI)))))))
   (ao (ax (pv 2))))),?_⟩
  refine⟨zl1,fun l1 jA=>?_⟩
  have s1:aq H (upd H l1 (.lst [.bE])):=aq.new jA
  refine⟨_,rfl,ls,_,rfl,.inl (aE.of (s1 _ _ hR)),?_⟩
  rw[length_map]
  refine⟨l1,_,_,rfl,rfl,ah,(by omega),(by omega),(by show 1*_<=sizeLine;rw[sizeLine_eq];omega),fun q hq=>?_⟩
  have s2:aq (upd H l1 (.lst [.bE])) (upd (upd H l1 (.lst [.bE])) q (.lst (List.replicate ((r.length:Int)).toNat [V.bE]).flatten)):=aq.new hq
  have xX:H q=none:=s1.free hq
  have hL0:d_ (upd (upd H l1 (.lst [.bE])) q (.lst (List.replicate ((r.length:Int)).toNat [V.bE]).flatten)) q (List.replicate r.length none):=by
   show upd _ _ _ _=_
   rw[ah,pY]
   exact congrArg (fun q=>some (HO.lst q)) (xW none r.length)
  refine⟨_,rfl,le,rfl,⟨_,aE.of ((s1.trans s2) _ _ hl)⟩,ck (K:=K) (a:=le) (xs:=as.map V.ref) (fun i σ H'=>∃v3 v4 v5 v6,σ=[some (.ref le),some (.ref ls),some (.ref q),v3,v4,v5,v6]/\aq H H'/\d_ H' q ((es.take i).foldl (WS.jD r) (List.replicate r.length none)))
   ⟨none,none,none,none,rfl,s1.trans s2,hL0⟩ (fun i σ H' _ ⟨_,_,_,_,_,s3,_⟩=>aE.of (s3 _ _ hl)) ?_ ?_⟩
  ·rintro i y σ H' hi ⟨v3,v4,v5,v6,rfl,s3,hL⟩
   obtain⟨a,ha,rfl⟩:=bh hi
   obtain⟨e,he,dx,hd⟩:=hA.get ha
   have dZ:=s3 _ _ hd
   have jB:=s3 _ _ hR
   have hm:e∈es:=mem_of_getElem? he
   have hlen:((es.take i).foldl (WS.jD r) (List.replicate r.length none)).length=r.length:=by rw[WS.l5,length_replicate]
   have h1:e.src<((es.take i).foldl (WS.jD r) (List.replicate r.length none)).length:=by rw[hlen];exact(hN e hm).1
   have h2:e.dst<r.length:=(hN e hm).2
   have uB:(es.take (i+1)).foldl (WS.jD r) (List.replicate r.length none)=WS.jD r ((es.take i).foldl (WS.jD r) (List.replicate r.length none)) e:=by rw[take_snoc he,List.foldl_append];rfl
   rw[uB]
   generalize (es.take i).foldl (WS.jD r) (List.replicate r.length none)=L at hL h1 hlen ⊢
   refine⟨_,rfl,_,rfl,a,_,dx,_,_,rfl,dZ,T.bw,T.cM,rfl,ls,_,_,_,rfl,rfl,aE.of jB,mr h2,?_⟩
   refine⟨_,rfl,_,rfl,?_⟩
   cases c1:Vbedac.entry r e.dst with
   | none=>
    refine aS ?_
    have:WS.jD r L e=L:=by unfold WS.jD;rw[c1]
    rw[this]
    exact⟨_,_,_,_,rfl,s3,hL⟩
   | some x=>
    refine aZ ?_
    refine⟨_,rfl,a,_,dx,_,_,rfl,dZ,T.bw,T.cZ,rfl,_,rfl,_,_,rfl,rfl,?_⟩
    refine⟨_,rfl,_,rfl,a,_,dx,_,_,rfl,dZ,T.bw,T.cK,rfl,q,_,_,_,rfl,rfl,aE.of hL,mr h1,?_⟩
    refine⟨_,rfl,_,rfl,?_⟩
    cases c2:Vbedac.entry L e.src with
    | none=>
     refine aS ?_
     refine aS ?_
     have:WS.jD r L e=L.set e.src (some (e.w+x)):=by unfold WS.jD;rw[c1,c2]
     rw[this]
     refine⟨_,rfl,_,rfl,_,rfl,a,_,dx,_,_,rfl,dZ,T.bw,T.cK,rfl,q,_,_,_,rfl,rfl,hL,vN (by rw[length_map];exact h1),?_⟩
     refine⟨_,_,_,_,rfl,aq.but s3 xX bA.upd,?_⟩
     show upd _ _ _ _=_
     rw[ah,kU]
    | some y=>
     refine aZ ?_
     refine⟨_,rfl,_,rfl,_,_,rfl,rfl,_,rfl,?_⟩
     by_cases c:e.w+x<y
     ·have:WS.jD r L e=L.set e.src (some (e.w+x)):=by unfold WS.jD;rw[c1,c2];exact if_pos c
      rw[this,decide_eq_true c]
      refine aS ?_
      refine⟨_,rfl,_,rfl,_,rfl,a,_,dx,_,_,rfl,dZ,T.bw,T.cK,rfl,q,_,_,_,rfl,rfl,hL,vN (by rw[length_map];exact h1),?_⟩
      refine⟨_,_,_,_,rfl,aq.but s3 xX bA.upd,?_⟩
      show upd _ _ _ _=_
      rw[ah,kU]
     ·have:WS.jD r L e=L:=by unfold WS.jD;rw[c1,c2];exact if_neg c
      rw[this,decide_eq_false c]
      refine aZ ?_
      exact⟨_,_,_,_,rfl,s3,hL⟩
  ·rintro σ H' ⟨v3,v4,v5,v6,rfl,s3,hL⟩
   have hlen:(as.map V.ref).length=es.length:=by rw[length_map];exact hA.1
   rw[hlen,take_length,WS.JF hN] at hL
   exact⟨_,rfl,k H' q s3 hL⟩
theorem BL {α:Type} {p:α->Bool} {l:List α} {i:Nat} {x:α} (h:l[i]?=some x) (hn:(l.take i).find? p=none) (hp:p x=true):l.find? p=some x:=by
 have e:l=l.take i++x::l.drop (i+1):=by
  have:=take_append_drop (i+1) l
  rw[take_snoc h,append_assoc] at this
  exact this.symm
 rw[e,List.find?_append,hn]
 simp[hp]
theorem lX {α:Type} {p:α->Bool} {l:List α} {i:Nat} {x:α} (h:l[i]?=some x) (hn:(l.take i).find? p=none) (hp:p x=false):(l.take (i+1)).find? p=none:=by
 rw[take_snoc h,List.find?_append,hn]
 simp[hp]
def AU (A:aW):Sp:=fun vs H Q _=>∃(le ls:Addr) (i:Nat) (x:Int) (es:List Edge) (r:kT) (e:Edge),vs=[.ref le,.int i,.ref ls,.int x]/\a7 A H le es/\d_ H ls r/\WS.bB r.length es/\es.find? (WS.iW r i x)=some e/\
 ∀a,fE A H a e->Q (.ref a) H
theorem nH:aJ ["edges","source","sums","total","edge","onward"] ["edges","source","sums","total"] (ay oP):=by refine⟨rfl,rfl,rfl,?_,rfl,?_,?_⟩ <;> decide +kernel
theorem AV (T:Txt K mg A):aY P w K mg base bF 1 A.gF A.fS ["edges","source","sums","total"] (AU A):=by
 refine T.cX.ok nH (fun vs H Q E h=>?_) (fun bg Ar outer s H vs Q E hr h=>?_)
 ·obtain⟨le,ls,i,x,es,r,e,rfl,_⟩:=h
  rfl
 ·obtain⟨le,ls,i,x,es,r,e0,rfl,⟨as,hl,hA⟩,hR,hN,hf,k⟩:=h
  refine⟨_,(ae (cq PassesOwn.never rfl (bz (pv 0)) (a6 (i:=4) nH.nd rfl (Or.inl rfl))
    (ae (aP (aO yn (aD (pv 4) rfl) (pv 1) (aU _)) (ao oU) aI)
   (ae (aG (i:=5) nH.nd rfl (Or.inl rfl) (bf aN (pv 2) (aD (pv 4) rfl) (fun _ _=>rfl)))
   (ao (aP (PW.pt (Hi (d3 (pK (pv 5))) (EN (aO bZ (dM nh (aD (pv 4) rfl) (pv 5)) (pv 3) (aU _))))) (ao (ax (pv 4))) aI)))))
   (ao (ax iu))),?_⟩
  refine⟨_,rfl,le,rfl,⟨_,aE.of hl⟩,ck (K:=K) (a:=le) (xs:=as.map V.ref) (fun j σ H'=>∃v4 v5,σ=[some (.ref le),some (.int i),some (.ref ls),some (.int x),v4,v5]/\H'=H/\(es.take j).find? (WS.iW r i x)=none)
   ⟨none,none,rfl,rfl,rfl⟩ (fun j σ H' _ ⟨_,_,_,s3,_⟩=>by rw[s3];exact aE.of hl) ?_ ?_⟩
  ·rintro j y σ H' hi ⟨v4,v5,rfl,rfl,hn⟩
   obtain⟨a,ha,rfl⟩:=bh hi
   obtain⟨e,he,dx,hd⟩:=hA.get ha
   have hm:e∈es:=mem_of_getElem? he
   have h2:e.dst<r.length:=(hN e hm).2
   refine⟨_,rfl,a,_,dx,_,_,rfl,hd,T.bw,T.cK,rfl,_,rfl,rfl,_,rfl,?_⟩
   by_cases c:e.src=i
   ·rw[decide_eq_true (show V.int (e.src:Int)=V.int (i:Int) by rw[c])]
    refine aZ ?_
    refine⟨_,rfl,_,rfl,a,_,dx,_,_,rfl,hd,T.bw,T.cM,rfl,ls,_,_,_,rfl,rfl,aE.of hR,mr h2,?_⟩
    refine⟨_,rfl,_,rfl,?_⟩
    cases c1:Vbedac.entry r e.dst with
    | none=>
     refine aZ ?_
     refine aZ ?_
     refine⟨_,_,rfl,rfl,lX he hn ?_⟩
     unfold WS.iW
     rw[c1];simp
    | some z=>
     refine aS ?_
     refine⟨_,rfl,a,_,dx,_,_,rfl,hd,T.bw,T.cZ,rfl,_,rfl,_,_,rfl,rfl,_,rfl,rfl,_,rfl,?_⟩
     by_cases c2:e.w+z=x
     ·rw[decide_eq_true (show V.int (e.w+z)=V.int x by rw[c2])]
      refine aS ?_
      have hp:WS.iW r i x e=true:=by
       unfold WS.iW
       rw[c1];simp[c];omega
      have:=BL he hn hp
      rw[hf] at this
      cases this
      exact⟨_,rfl,k a ⟨dx,hd⟩⟩
     ·rw[decide_eq_false (show ¬V.int (e.w+z)=V.int x by intro q;injection q with q;exact c2 q)]
      refine aZ ?_
      refine⟨_,_,rfl,rfl,lX he hn ?_⟩
      unfold WS.iW
      rw[c1];simp;intro _;omega
   ·rw[decide_eq_false (show ¬V.int (e.src:Int)=V.int (i:Int) by intro q;injection q with q;exact c (by omega))]
    refine aS ?_
    refine⟨_,_,rfl,rfl,lX he hn ?_⟩
    unfold WS.iW
    simp[c]
  ·rintro σ H' ⟨v4,v5,rfl,rfl,hn⟩
   exfalso
   have hlen:(as.map V.ref).length=es.length:=by rw[length_map];exact hA.1
   rw[hlen,take_length,hf] at hn
   cases hn
theorem w9 {H:Hp} {l a:Addr} {as:List Addr} {r:kT} (hl:H l=some (.lst (as.map V.ref))) (ha:H a=some (.lst (r.map fD))) (h:as≠[]):l≠a:=by
 refine dh hl ha ?_
 intro z
 injection z with z
 cases as with
 | nil=>exact h rfl
 | cons b as=>
  cases r with
  | nil=>simp at z
  | cons x r=>
   simp only[map_cons,List.cons.injEq] at z
   cases x <;> cases z.1
def lD (n:Nat) (es:List Edge) (to k:Nat):List kT:=(List.range (k+1)).map (WS.bk n es to)
theorem oB {n:Nat} {es:List Edge} {to k:Nat}:(lD n es to k).length=k+1:=by simp[lD]
theorem sC {n:Nat} {es:List Edge} {to k j:Nat} (h:j<=k):(lD n es to k)[j]?=some (WS.bk n es to j):=by
 unfold lD
 rw[getElem?_map,List.getElem?_range (by omega)];rfl
theorem Iv {n:Nat} {es:List Edge} {to k:Nat}:lD n es to (k+1)=lD n es to k++[WS.bk n es to (k+1)]:=by
 unfold lD
 rw[List.range_succ (n:=k+1),map_append];rfl
theorem bc.at_ {α:Type} {R:Addr->α->Prop} {as:List Addr} {xs:List α} (h:bc R as xs) {i:Nat} {x:α} (hx:xs[i]?=some x):∃a,as[i]?=some a/\R a x:=by
 have hi:=(List.getElem?_eq_some_iff.mp hx).1
 have hj:i<as.length:=by rw[h.1];exact hi
 have ha:as[i]?=some as[i]:=getElem?_eq_getElem hj
 exact⟨_,ha,h.2 i _ x ha hx⟩
theorem nI {as:List Addr} {i:Nat} {a:Addr} (h:as[i]?=some a):(as.map V.ref)[i]?=some (.ref a):=by rw[getElem?_map,h];rfl
def BX (A:aW):Sp:=fun vs H Q _=>∃(le lt:Addr) (n i to k:Nat) (x:Int) (es:List Edge),vs=[.ref le,.ref lt,.int i]/\a7 A H le es/\nE H lt (lD n es to k)/\WS.bB n es/\i<n/\to<n/\k<=1000/\Vbedac.entry (WS.bk n es to k) i=some x/\
 ∀(H':Hp) (p:Addr),aq H H'->a7 A H' p (Vbedac.wayOf n es to k i x)->Q (.ref p) H'
theorem dY:aJ ["edges","steps","source","way","at","total","sums","edge"] ["edges","steps","source"] (ay pk):=by refine⟨rfl,rfl,rfl,?_,rfl,?_,?_⟩ <;> decide +kernel
theorem uf (T:Txt K mg A):aY P w K mg base bF 2 A.gY A.gG ["edges","steps","source"] (BX A):=by
 refine T.cT.ok dY (fun vs H Q E h=>?_) (fun bg Ar outer s H vs Q E hr h=>?_)
 ·obtain⟨le,lt,n,i,to,k,x,es,rfl,_⟩:=h
  rfl
 ·obtain⟨le,lt,n,i,to,k,x,es,rfl,hE,⟨as,hl,hA⟩,hN,hi,ht,hk,hx,kk⟩:=h
  have hlen:as.length=k+1:=by rw[hA.1,oB]
  refine⟨_,(ae (aG (i:=3) dY.nd rfl (Or.inl rfl) (aR ag))
   (ae (aG (i:=4) dY.nd rfl (Or.inl rfl) (pv 2))
   (ae (aG (i:=5) dY.nd rfl (Or.inl rfl) (bf aN (bf aN (pv 1) (mZ j_ aH) (fun _ _=>rfl)) (pv 2) (fun _ _=>rfl)))
   (ae (cq PassesOwn.never rfl (JA rfl T.oy (aa (CM J6 (pv 1) J3 (Bs (mZ j_ aH))) ag)) (a6 (i:=6) dY.nd rfl (Or.inl rfl))
    (ae (aG (i:=7) dY.nd rfl (Or.inl rfl) (aA (AV T) (hr.mono (by decide:1<=1)) rfl T.ua T.cX.kp T.t_ .nil aF (aa (pv 0) (aa (pv 4) (aa (pv 6) (aa (pv 5) ag))))))
   (ae (cv (fG PySem.F.plainAttrs_list PySem.F.slot_list_append PySem.F.type_list_append dn (pv 3) (aa (pv 7) ag)))
   (ae (aG (i:=4) dY.nd rfl (Or.inl rfl) (aD (pv 7) rfl))
   (ao (aG (i:=5) dY.nd rfl (Or.inl rfl) (dM zV (pv 5) (aD (pv 7) rfl))))))))
   (ao (ax (pv 3))))))),?_⟩
  refine⟨zl0,fun q hq=>?_⟩
  have s1:aq H (upd H q (.lst [])):=aq.new hq
  obtain⟨ak,hak,hRk⟩:=hA.at_ (sC (Nat.le_refl k))
  refine⟨_,rfl,?_⟩
  refine⟨_,rfl,_,rfl,lt,_,_,_,rfl,rfl,aE.of (s1 _ _ hl),u6 (by rw[length_map];exact hlen) (nI hak),_,rfl,ak,_,_,_,rfl,rfl,aE.of (s1 _ _ hRk),mr (by rw[WS.fR];exact hi),?_⟩
  rw[hx]
  refine⟨_,rfl,_,rfl,_,rfl,lt,_,rfl,aE.of (s1 _ _ hl),fun c hc=>?_⟩
  rw[Pk (k:=k) (by rw[length_map];exact hlen)]
  have s2:aq (upd H q (.lst [])) (upd (upd H q (.lst [])) c (.lst ((as.map V.ref).take k))):=aq.new hc
  have hqc:q≠c:=aK (ah (H:=H) (a:=q) (o:=.lst [])) hc
  have oV:((as.map V.ref).take k).length=k:=by rw[length_take,length_map];omega
  refine⟨c,_,rfl,aE.of ah,RU (K:=K) (a:=c) (xs:=(as.map V.ref).take k) (fun j σ H'=>∃(v6 v7:Option V) (at_:Nat) (t:Int) (bs:List Addr) (pre:List Edge),σ=[some (.ref le),some (.ref lt),some (.int i),some (.ref q),some (.int at_),some (.int t),v6,v7]/\
    aq H H'/\H' c=some (.lst ((as.map V.ref).take k))/\H' q=some (.lst (bs.map V.ref))/\bc (fE A H') bs pre/\pre.length=j/\at_<n/\Vbedac.entry (WS.bk n es to (k-j)) at_=some t/\Vbedac.wayOf n es to k i x=pre++Vbedac.wayOf n es to (k-j) at_ t)
   ⟨none,none,i,x,[],[],rfl,s1.trans s2,ah,(by rw[aw hqc];exact ah),bc.nil,rfl,hi,hx,rfl⟩ (fun j σ H' _ ⟨_,_,_,_,_,_,_,_,h,_⟩=>aE.of h) ?_ ?_⟩
  ·rintro j y σ H' hj hy ⟨v6,v7,at_,t,bs,pre,rfl,s3,ia,ee,hB,gS,Q_,T5,hw⟩
   rw[oV] at hj hy
   rw[List.getElem?_take_of_lt (by omega)] at hy
   obtain⟨a,ha,rfl⟩:=bh hy
   obtain⟨r,rG,zB⟩:=hA.get ha
   rw[sC (by omega)] at rG
   cases rG
   have e1:k-j=(k-(j+1))+1:=by omega
   have e2:k-1-j=k-(j+1):=by omega
   rw[e2] at zB
   rw[e1] at T5 hw
   obtain⟨e,f1,f2,f3,f4⟩:=WS.yA hN Q_ ht T5
   rw[WS.CU f1] at hw
   refine⟨_,rfl,_,rfl,_,rfl,_,rfl,le,a,at_,t,es,_,e,rfl,bj hE s3,s3 _ _ zB,by rw[WS.fR];exact hN,f1,fun b hb=>?_⟩
   obtain⟨dx,hb⟩:=id hb
   obtain⟨g1,g2⟩:=pZ ee hB (x:=b) (e:=e) ⟨dx,hb⟩
   have s4:aq H (upd H' q (.lst (bs.map V.ref++[.ref b]))):=aq.but s3 hq bA.upd
   have QM:upd H' q (.lst (bs.map V.ref++[.ref b])) b=some (.ins A.e_ dx (LS e)):=by
    rw[aw (qY ⟨dx,hb⟩ ee)];exact hb
   refine⟨_,rfl,.inl ⟨rfl,_,aE.of ee⟩,_,rfl,q,_,_,rfl,rfl,ee,(by rw[length_map,hB.1,gS,sizeLine_eq];omega),?_⟩
   refine⟨_,rfl,b,_,dx,_,_,rfl,QM,T.bw,T.cM,rfl,?_⟩
   refine⟨_,rfl,_,rfl,b,_,dx,_,_,rfl,QM,T.bw,T.cZ,rfl,_,_,rfl,rfl,?_⟩
   refine⟨_,_,e.dst,t-e.w,_,_,rfl,s4,(by rw[aw (fun z=>hqc z.symm)];exact ia),g1,g2,by rw[length_append,gS];rfl,(hN e f2).2,f4,?_⟩
   rw[hw,append_assoc]
   rfl
  ·rintro σ H' ⟨v6,v7,at_,t,bs,pre,rfl,s3,ia,ee,hB,gS,Q_,T5,hw⟩
   rw[oV,Nat.sub_self] at hw
   rw[show Vbedac.wayOf n es to 0 at_ t=[] from rfl,append_nil] at hw
   refine⟨_,rfl,kk H' q s3 ?_⟩
   rw[hw]
   exact⟨bs,ee,hB⟩
def BY (A:aW):Sp:=fun vs H Q _=>∃(le:Addr) (n i to k:Nat) (x:Int) (es:List Edge),vs=[.int n,.ref le,.int i,.int to,.int x]/\a7 A H le es/\WS.bB n es/\i<n/\to<n/\n<=1000/\k<=n/\Vbedac.entry (WS.bk n es to k) i=some x/\(∀j,j<k->Vbedac.entry (WS.bk n es to j) i≠some x)/\
 ∀(H':Hp) (p:Addr),aq H H'->a7 A H' p (Vbedac.wayOf n es to k i x)->Q (.ref p) H'
theorem ug:aJ ["n","edges","a","b","bound","steps"] ["n","edges","a","b","bound"] (ay pq):=by refine⟨rfl,rfl,rfl,?_,rfl,?_,?_⟩ <;> decide +kernel
theorem BZ (T:Txt K mg A):aY P w K mg base bF 3 A.gZ A.gH ["n","edges","a","b","bound"] (BY A):=by
 refine T.dD.ok ug (fun vs H Q E h=>?_) (fun bg Ar outer s H vs Q E hr h=>?_)
 ·obtain⟨le,n,i,to,k,x,es,rfl,_⟩:=h
  rfl
 ·obtain⟨le,n,i,to,k,x,es,rfl,hE,hN,hi,ht,hz,hk,hx,LB,kk⟩:=h
  refine⟨_,(ae (aG (i:=5) ug.nd rfl (Or.inl rfl) (aR (aa (aA (nG T) (hr.mono (by decide:1<=2)) rfl T.jG T.bI.kp T.jF .nil aF (aa (pv 0) (aa (pv 3) ag))) ag)))
   (ae (CH PassesOwn.never (aO yn (bf aN (bf aN (pv 5) (mZ j_ aH) (fun _ _=>rfl)) (pv 2) (fun _ _=>rfl)) (pv 4) (aU _)) (ao (cv (fG PySem.F.plainAttrs_list PySem.F.slot_list_append PySem.F.type_list_append dn (pv 5) (aa (aA (Cw T) (hr.mono (by decide:1<=2)) rfl T.yL T.ic.kp T.yK .nil aF (aa (pv 1) (aa (bf aN (pv 5) (mZ j_ aH) (fun _ _=>rfl)) ag))) ag)))))
   (ao (ax (aA (uf T) (hr.mono (by decide:2<=2)) rfl T.pC T.cT.kp T.pB .nil aF (aa (pv 1) (aa (pv 5) (aa (pv 2) ag)))))))),?_⟩
  refine⟨_,rfl,_,rfl,n,to,rfl,ht,hz,fun H1 p1 s1 AW=>?_⟩
  refine⟨zl1,fun q hq=>?_⟩
  have s2:aq H1 (upd H1 q (.lst [.ref p1])):=aq.new hq
  have xX:H q=none:=s1.free hq
  refine⟨fun d σ H'=>∃(m:Nat) (as:List Addr),σ=[some (.int n),some (.ref le),some (.int i),some (.int to),some (.int x),some (.ref q)]/\aq H H'/\H' q=some (.lst (as.map V.ref))/\bc (d_ H') as (lD n es to m)/\m<=k/\d=k-m,
   ⟨_,0,[p1],rfl,s1.trans s2,ah,bc.snoc (as:=[]) (xs:=[]) bc.nil (s2 _ _ AW),Nat.zero_le _,rfl⟩,?_⟩
  rintro d σ H' ⟨m,as,rfl,s3,ee,hA,hm,rfl⟩
  have hlen:as.length=m+1:=by rw[hA.1,oB]
  obtain⟨am,ham,hRm⟩:=hA.at_ (sC (Nat.le_refl m))
  refine⟨_,rfl,_,rfl,q,_,_,_,rfl,rfl,aE.of ee,u6 (by rw[length_map];exact hlen) (nI ham),_,rfl,am,_,_,_,rfl,rfl,aE.of hRm,mr (by rw[WS.fR];exact hi),_,rfl,?_⟩
  by_cases c:Vbedac.entry (WS.bk n es to m) i=some x
  ·have T6:m=k:=by
    rcases Nat.lt_or_ge m k with q | q
    ·exact absurd c (LB m q)
    ·omega
   subst T6
   rw[c]
   refine⟨rfl,_,rfl,?_⟩
   rw[show (!decide (fD (some x)=V.int x))=false by simp[fD]]
   refine aZ ?_
   refine⟨_,rfl,_,rfl,_,rfl,le,q,n,i,to,m,x,es,rfl,bj hE s3,⟨as,ee,hA⟩,hN,hi,ht,by omega,hx,fun H4 p4 s4 Ra=>kk H4 p4 (s3.trans s4) Ra⟩
  ·have T6:m<k:=by
    rcases Nat.lt_or_ge m k with q | q
    ·exact q
    ·have:m=k:=by omega
     subst this
     exact absurd hx c
   have h9:(!decide (fD (Vbedac.entry (WS.bk n es to m) i)=V.int x))=true:=by
    cases d:Vbedac.entry (WS.bk n es to m) i with
    | none=>simp[fD]
    | some y=>
     have:¬y=x:=fun q=>c (by rw[d,q])
     simp[fD,this]
   refine⟨by cases Vbedac.entry (WS.bk n es to m) i <;> rfl,_,rfl,?_⟩
   rw[h9]
   refine aS ⟨_,fun _ _ z=>z,?_⟩
   refine⟨_,rfl,.inl ⟨rfl,_,aE.of ee⟩,_,rfl,_,rfl,_,rfl,q,_,_,_,rfl,rfl,aE.of ee,u6 (by rw[length_map];exact hlen) (nI ham),?_⟩
   refine⟨le,am,es,_,rfl,bj hE s3,hRm,by rw[WS.fR];exact hN,by rw[WS.fR];exact hz,fun H4 p4 s4 uh=>?_⟩
   rw[WS.fR,<- WS.Kj] at uh
   have eC:=s4 _ _ ee
   refine⟨q,_,_,rfl,rfl,eC,(by rw[length_map,hlen,sizeLine_eq];omega),?_⟩
   have has:as≠[]:=by intro z;rw[z] at hlen;cases hlen
   refine⟨k-(m+1),by omega,m+1,as++[p4],rfl,aq.but (s3.trans s4) xX bA.upd,by rw[ah,map_append];rfl,?_,T6,rfl⟩
   rw[Iv]
   refine bc.snoc (hA.imp fun a r hr=>?_) ?_
   ·have hr4:=s4 _ _ hr
    show upd _ _ _ _=_
    rw[aw fun z=>w9 eC hr4 has z.symm]
    exact hr4
   ·show upd _ _ _ _=_
    rw[aw fun z=>w9 eC uh has z.symm]
    exact uh
def GK (A:aW):Sp:=fun vs H Q _=>∃(n:Nat) (le:Addr) (i j:Nat) (es:List Edge),vs=[.int n,.ref le,.int i,.int j]/\a7 A H le es/\WS.bB n es/\WS.bK es/\i<n/\j<n/\n<=1000/\
 ∀(H':Hp),aq H H'->Q (fD (Vbedac.reach n es i j)) H'
theorem GL:aJ ["n","edges","a","b"] ["n","edges","a","b"] (ay vt):=by refine⟨rfl,rfl,rfl,?_,rfl,?_,?_⟩ <;> decide +kernel
theorem fM (T:Txt K mg A):aY P w K mg base bF 4 A.lb A.jO ["n","edges","a","b"] (GK A):=by
 refine T.bY.ok GL (fun vs H Q E h=>?_) (fun bg Ar outer s H vs Q E hr h=>?_)
 ·obtain⟨n,le,i,j,es,rfl,_⟩:=h
  rfl
 ·obtain⟨n,le,i,j,es,rfl,hE,hN,hG,hi,hj,hz,k⟩:=h
  refine⟨_,(ao (ax (bf aN (aA (jy T) (hr.mono (by decide:3<=3)) rfl T.iz T.bM.kp T.iy .nil aF (aa (pv 0) (aa (pv 1) (aa (pv 2) ag)))) (pv 3) (fun _ _=>rfl)))),?_⟩
  refine⟨_,rfl,_,rfl,_,rfl,n,le,i,es,rfl,hE,hN,hG,hi,hz,fun H1 p1 s1 AW=>?_⟩
  have hl:(Vbedac.within_ n es i n).length=n:=by rw[WS.iw,WS.eE WS.dP]
  exact⟨_,rfl,p1,_,_,_,rfl,rfl,aE.of AW,mr (by rw[hl];exact hj),k H1 s1⟩
def yT (A:aW):Sp:=fun vs H Q _=>∃(lt:Addr) (n:Nat) (Tb:List kT),vs=[.ref lt]/\nE H lt Tb/\Tb.length=n/\(∀r,r∈Tb->r.length=n)/\n<=1000/\
 Q (match WS.gg Tb with | none=>.bE | some i=>.int i) H
def optN:Option Nat->V
 | none=>.bE
 | some i=>.int i
theorem dH:aJ ["table","least","found","i","total"] ["table"] (ay mS):=by refine⟨rfl,rfl,rfl,?_,rfl,?_,?_⟩ <;> decide +kernel
theorem yU (T:Txt K mg A):aY P w K mg base bF 1 A.fo A.eQ ["table"] (yT A):=by
 refine T.cz.ok dH (fun vs H Q E h=>?_) (fun bg Ar outer s H vs Q E hr h=>?_)
 ·obtain⟨lt,n,Tb,rfl,_⟩:=h
  rfl
 ·obtain⟨lt,n,Tb,rfl,⟨as,hl,hA⟩,hn,hsq,hz,k⟩:=h
  have hlen:as.length=n:=by rw[hA.1];exact hn
  refine⟨_,(ae (aG (i:=1) dH.nd rfl (Or.inl rfl) aH)
   (ae (aG (i:=2) dH.nd rfl (Or.inl rfl) iu)
   (ae (cq PassesOwn.never rfl (lK rfl T.hX (aa (bX bx (by rfl) T.d9 PySem.boot_len (aa (pv 0) ag)) ag)) (a6 (i:=3) dH.nd rfl (Or.inl rfl))
    (ae (aG (i:=4) dH.nd rfl (Or.inl rfl) (bf aN (bf aN (pv 0) (pv 3) (fun _ _=>rfl)) (pv 3) (fun _ _=>rfl)))
   (ao (aP (PW.pt (Hi (d3 (pK (pv 4))) (EN (aO uu (pv 4) (pv 1) (aU _))))) (ae (aG (i:=1) dH.nd rfl (Or.inl rfl) (pv 4))
   (ao (aG (i:=2) dH.nd rfl (Or.inl rfl) (pv 3)))) aI))))
   (ao (ax (pv 2)))))),?_⟩
  refine⟨_,rfl,lt,_,rfl,.inl (aE.of hl),?_⟩
  rw[length_map,hlen]
  refine⟨_,rfl,by omega,by omega,pL (lo:=0) (n:=n) (fun i σ H'=>∃v3 v4,H'=H/\σ=[some (.ref lt),some (.int ((List.range i).foldl (WS.eP Tb) (0,none)).1),some (optN ((List.range i).foldl (WS.eP Tb) (0,none)).2),v3,v4])
   ⟨none,none,rfl,rfl⟩ ?_ ?_⟩
  ·rintro i σ H' hi ⟨v3,v4,rfl,rfl⟩
   have hit:i<Tb.length:=by omega
   obtain⟨a,ha,hR⟩:=hA.at_ (getElem?_eq_getElem hit)
   have m6:Tb[i].length=n:=hsq _ (List.getElem_mem hit)
   have hc:Vbedac.cell Tb i i=Vbedac.entry Tb[i] i:=by
    unfold Vbedac.cell
    rw[getD_eq_getElem?_getD,getElem?_eq_getElem hit];rfl
   rw[List.range_succ,List.foldl_append]
   show Dx 3 _ _ _ _
   generalize (List.range i).foldl (WS.eP Tb) (0,none)=p
   rw[Int.zero_add]
   refine⟨_,rfl,_,rfl,lt,_,_,_,rfl,rfl,aE.of hl,a_ (nI ha),_,rfl,a,_,_,_,rfl,rfl,aE.of hR,mr (by rw[m6];exact hi),?_⟩
   refine⟨_,rfl,_,rfl,?_⟩
   show _
   have e:List.foldl (WS.eP Tb) p [i]=WS.eP Tb p i:=rfl
   rw[e]
   unfold WS.eP
   rw[hc]
   cases c1:Vbedac.entry Tb[i] i with
   | none=>
    refine aZ ?_
    refine aZ ?_
    exact⟨_,_,rfl,rfl⟩
   | some x=>
    refine aS ?_
    refine⟨_,rfl,_,rfl,_,_,rfl,rfl,_,rfl,?_⟩
    by_cases c:x<p.1
    ·rw[decide_eq_true c]
     dsimp only
     rw[if_pos c]
     refine aS ?_
     exact⟨_,rfl,_,rfl,_,_,rfl,rfl⟩
    ·rw[decide_eq_false c]
     dsimp only
     rw[if_neg c]
     refine aZ ?_
     exact⟨_,_,rfl,rfl⟩
  ·rintro σ H' ⟨v3,v4,rfl,rfl⟩
   refine⟨_,rfl,?_⟩
   have e:optN ((List.range n).foldl (WS.eP Tb) (0,none)).2=(match WS.gg Tb with | none=>.bE | some i=>.int i):=by
    unfold WS.gg
    rw[hn]
    show optN ((List.range n).foldl (WS.eP Tb) (0,none)).2=(match ((List.range n).foldl (WS.eP Tb) (0,none)).2 with | none=>.bE | some i=>.int i)
    cases ((List.range n).foldl (WS.eP Tb) (0,none)).2 <;> rfl
   rw[e]
   exact k
theorem Iw {H:Hp} {t q:Addr} {rs:List kT} {ts:List Addr} {o:HO} (h:nE H t rs) (hq:H q=some (.lst (ts.map V.ref))) (Rb:ts≠[]) (hn:t≠q):nE (upd H q o) t rs:=by
 obtain⟨as,h1,h2⟩:=h
 refine⟨as,by rw[aw hn];exact h1,h2.imp fun a r hr=>?_⟩
 show upd _ _ _ _=_
 rw[aw fun z=>w9 hq hr Rb z.symm]
 exact hr
theorem yV {H:Hp} {q:Addr} {as:List Addr} {rs:List kT} {x:Addr} {r:kT} (hq:H q=some (.lst (as.map V.ref))) (h:bc (d_ H) as rs) (hx:d_ H x r) (hr:0<r.length) (hrs:∀r,r∈rs->0<r.length) :
  upd H q (.lst (as.map V.ref++[.ref x])) q=some (.lst ((as++[x]).map V.ref))/\bc (d_ (upd H q (.lst (as.map V.ref++[.ref x])))) (as++[x]) (rs++[r]):=by
 have key:∀(a:Addr) (r:kT),d_ H a r->0<r.length->a≠q:=by
  intro a r hr h0
  refine dh hr hq ?_
  intro z
  injection z with z
  cases r with
  | nil=>cases h0
  | cons y r=>
   cases as with
   | nil=>cases z
   | cons b as=>
    simp only[map_cons,List.cons.injEq] at z
    cases y <;> cases z.1
 refine⟨by rw[ah,map_append];rfl,bc.snoc ⟨h.1,fun j a r h1 h2=>?_⟩ ?_⟩
 ·have:=h.2 j a r h1 h2
  show upd _ _ _ _=_
  rw[aw (key a r this (hrs r (mem_of_getElem? h2)))]
  exact this
 ·show upd _ _ _ _=_
  rw[aw (key x r hx hr)]
  exact hx
theorem Gi {n:Nat} {es:List Edge} {k i:Nat} (h:i<n):(WS.k3 n es k).take (i+1)=(WS.k3 n es k).take i++[WS.bk n es i k]:=take_snoc (WS.yB h)
theorem C6 {n:Nat} {es:List Edge} {k:Nat} {r:kT} (h:r∈WS.k3 n es k):r.length=n:=by
 unfold WS.k3 at h
 obtain⟨g,_,rfl⟩:=mem_map.mp h
 exact WS.fR
def mh (n:Nat) (es:List Edge) (k:Nat):List (List kT):=(List.range (k+1)).map (WS.k3 n es)
theorem El {n:Nat} {es:List Edge} {k:Nat}:(mh n es k).length=k+1:=by simp[mh]
theorem vQ {n:Nat} {es:List Edge} {k j:Nat} (h:j<=k):(mh n es k)[j]?=some (WS.k3 n es j):=by
 unfold mh
 rw[getElem?_map,List.getElem?_range (by omega)];rfl
theorem GN {n:Nat} {es:List Edge} {k:Nat}:mh n es (k+1)=mh n es k++[WS.k3 n es (k+1)]:=by
 unfold mh
 rw[List.range_succ (n:=k+1),map_append];rfl
def Iy (A:aW):Sp:=fun vs H Q _=>∃(n:Nat) (le:Addr) (es:List Edge),vs=[.int n,.ref le]/\a7 A H le es/\WS.bB n es/\0<n/\n<=100/\
 ∀(H':Hp) (p:Addr),aq H H'->a7 A H' p (WS.aQ n es)->Q (.ref p) H'
theorem fF:aJ ["n","edges","tables","turn","event","goal","sums","table"] ["n","edges"] (ay mD):=by refine⟨rfl,rfl,rfl,?_,rfl,?_,?_⟩ <;> decide +kernel
theorem qZ (T:Txt K mg A):aY P w K mg base bF 4 A.mF A.lg ["n","edges"] (Iy A):=by
 refine T.eL.ok fF (fun vs H Q E h=>?_) (fun bg Ar outer s H vs Q E hr h=>?_)
 ·obtain⟨n,le,es,rfl,_⟩:=h
  rfl
 ·obtain⟨n,le,es,rfl,hE,hN,h0,hz,k⟩:=h
  refine⟨_,(ae (aP (fz (aA (cP T) (hr.mono (by decide:3<=3)) rfl T.cE T.bu.kp T.cD .nil aF (aa (pv 0) (aa (pv 1) ag)))) (ao (ax (aR ag))) aI)
   (ae (aG (i:=2) fF.nd rfl (Or.inl rfl) (aR (aa (lZ rfl fF.nd (lK rfl T.hX (aa (pv 0) ag)) (c8 (N:=["n","edges","tables","turn","event","goal","sums","table"]) (sc:=ay mD) (own:=[("goal",5)]) (by decide +kernel)) (fun _ _ _ _ _=>(a6 (i:=5) fF.nd rfl (Or.inl rfl))) (fun _ _ _ _ _=>ja) (fun _ _ _ _ _=>by exact(aA (nG T) (hr.mono (by decide:1<=3)) rfl T.jG T.bI.kp T.jF .nil aF (aa (pv 0) (aa (pv 5) ag))))) ag)))
   (ae (cq PassesOwn.never rfl (lK rfl T.hX (aa (pv 0) ag)) (a6 (i:=3) fF.nd rfl (Or.inl rfl))
    (ae (cv (fG PySem.F.plainAttrs_list PySem.F.slot_list_append PySem.F.type_list_append dn (pv 2) (aa (lZ rfl fF.nd (bz (bf aN (pv 2) (mZ j_ aH) (fun _ _=>rfl))) (c8 (N:=["n","edges","tables","turn","event","goal","sums","table"]) (sc:=ay mD) (own:=[("sums",6)]) (by decide +kernel)) (fun _ _ _ _ _=>(a6 (i:=6) fF.nd rfl (Or.inl rfl))) (fun _ _ _ _ _=>ja) (fun _ _ _ _ _=>by exact(aA (Cw T) (hr.mono (by decide:1<=3)) rfl T.yL T.ic.kp T.yK .nil aF (aa (pv 1) (aa (pv 6) ag))))) ag)))
   (ae (aG (i:=4) fF.nd rfl (Or.inr rfl) (aA (yU T) (hr.mono (by decide:1<=3)) rfl T.rz T.cz.kp T.rq .nil aF (aa (bf aN (pv 2) (mZ j_ aH) (fun _ _=>rfl)) ag)))
   (ao (aP (d3 (pK (pv 4))) (ao (ax (aA (uf T) (hr.mono (by decide:2<=3)) rfl T.pC T.cT.kp T.pB .nil aF (aa (pv 1) (aa (lZ rfl fF.nd (bz (pv 2)) (c8 (N:=["n","edges","tables","turn","event","goal","sums","table"]) (sc:=ay mD) (own:=[("table",7)]) (by decide +kernel)) (fun _ _ _ _ _=>(a6 (i:=7) fF.nd rfl (Or.inl rfl))) (fun _ _ _ _ _=>ja) (fun _ _ _ _ _=>by exact(bf (HZ (K:=K) rfl) (pv 7) (pv 4) (fun _ _=>rfl)))) (aa (pv 4) ag)))))) aI)))))
   (ao (ax (aR ag)))))),?_⟩
  refine⟨_,rfl,_,rfl,n,le,es,rfl,hE,hN,h0,by omega,fun H1 s1=>⟨_,rfl,?_⟩⟩
  cases c:Vbedac.fit n es with
  | true=>
   refine aS ?_
   refine⟨zl0,fun q hq=>?_⟩
   refine k _ q (s1.trans (aq.new hq)) ?_
   rw[WS.GA hN c]
   exact⟨[],ah,bc.nil⟩
  | false=>
   refine aZ ?_
   refine⟨_,rfl,_,rfl,by omega,by omega,fun D hD=>?_⟩
   have s2:aq H1 (upd H1 D (.lst [])):=aq.new hD
   refine CP (lo:=0) (n:=n) (fun i H'=>∃bs,aq H1 H'/\H' D=some (.lst (bs.map V.ref))/\bc (d_ H') bs ((WS.k3 n es 0).take i))
    ⟨[],s2,ah,bc.nil⟩ ?_ ?_
   ·rintro i H' hi ⟨bs,s3,ui,hB⟩
    refine⟨rfl,jm (aS ?_)⟩
    rw[Int.zero_add]
    refine⟨_,rfl,_,rfl,n,i,rfl,hi,by omega,fun H4 p4 s4 uh=>?_⟩
    have AX:=s4 _ _ ui
    obtain⟨g1,g2⟩:=yV AX (hB.imp fun a r hr=>s4 _ _ hr) uh (by rw[WS.dP];exact h0) (fun r hr=>by rw[C6 (List.mem_of_mem_take hr)];exact h0)
    refine⟨_,AX,(by rw[length_map,hB.1,length_take,WS.i5,sizeLine_eq];omega),_,aq.but (s3.trans s4) hD bA.upd,g1,?_⟩
    rw[Gi hi]
    exact g2
   ·rintro H3 ⟨bs,s3,ui,hB⟩
    rw[List.take_of_length_le (by rw[WS.i5];exact Nat.le_refl _)] at hB
    refine⟨zl1,fun q hq=>?_⟩
    have s4:aq H3 (upd H3 q (.lst [.ref D])):=aq.new hq
    have Gh:H1 q=none:=s3.free hq
    have xX:H q=none:=s1.free Gh
    have T7:D≠q:=aK ui hq
    refine⟨_,rfl,_,rfl,by omega,by omega,pL (lo:=0) (n:=n) (fun i σ H'=>∃v3 v4 ts,σ=[some (.int n),some (.ref le),some (.ref q),v3,v4,none,none,none]/\aq H H'/\H' q=some (.lst (ts.map V.ref))/\bc (nE H') ts (mh n es i)/\(∀t,t∈ts->t≠q)/\WS.aQ n es=WS.nu n es (n-i) i)
     ⟨none,none,[D],rfl,(s1.trans s3).trans s4,ah,bc.snoc (as:=[]) (xs:=[]) bc.nil (wB ⟨bs,ui,hB⟩ s4),(by intro t ht;rw[mem_singleton.mp ht];exact T7),WS.E3⟩ ?_ ?_⟩
    ·rintro i σ H' hi ⟨v3,v4,ts,rfl,s5,kW,hT,h9,hw⟩
     have hlen:ts.length=i+1:=by rw[hT.1,El]
     have Rb:ts≠[]:=by intro z;rw[z] at hlen;cases hlen
     obtain⟨at_,Q_,⟨as,hl,hA⟩⟩:=hT.at_ (vQ (Nat.le_refl i))
     have hE5:=bj hE s5
     refine⟨_,rfl,.inl ⟨rfl,_,aE.of kW⟩,_,rfl,_,rfl,q,_,_,_,rfl,rfl,aE.of kW,u6 (by rw[length_map];exact hlen) (nI Q_),at_,rfl,⟨_,aE.of hl⟩,fun D2 dq=>?_⟩
     refine fQ (K:=K) (a:=at_) (xs:=as.map V.ref) (fun j dI=>∃cs,aq H' dI/\dI D2=some (.lst (cs.map V.ref))/\bc (d_ dI) cs ((WS.k3 n es (i+1)).take j))
      ⟨[],aq.new dq,ah,bc.nil⟩ (fun j dI _ ⟨_,s6,_⟩=>aE.of (s6 _ _ hl)) ?_ ?_
     ·rintro j y dI hj ⟨cs,s6,T8,hC⟩
      obtain⟨a,ha,rfl⟩:=bh hj
      obtain⟨r,rG,zB⟩:=hA.get ha
      have Ga:j<n:=by
       have:=(List.getElem?_eq_some_iff.mp ha).1
       rw[hA.1,WS.i5] at this;exact this
      rw[WS.yB Ga] at rG
      cases rG
      refine⟨rfl,jm (aS ?_)⟩
      refine⟨_,rfl,_,rfl,le,a,es,_,rfl,bj hE5 s6,s6 _ _ zB,by rw[WS.fR];exact hN,by rw[WS.fR];omega,fun H7 p7 s7 hR7=>?_⟩
      rw[WS.fR,<- WS.Kj] at hR7
      have Iz:=s7 _ _ T8
      obtain⟨g1,g2⟩:=yV Iz (hC.imp fun a r hr=>s7 _ _ hr) hR7 (by rw[WS.fR];exact h0) (fun r hr=>by rw[C6 (List.mem_of_mem_take hr)];exact h0)
      refine⟨_,Iz,(by rw[length_map,hC.1,length_take,WS.i5,sizeLine_eq];omega),_,aq.but (s6.trans s7) dq bA.upd,g1,?_⟩
      rw[Gi Ga]
      exact g2
     ·rintro H6 ⟨cs,s6,T8,hC⟩
      have T9:(as.map V.ref).length=n:=by rw[length_map,hA.1,WS.i5]
      rw[T9,List.take_of_length_le (by rw[WS.i5];exact Nat.le_refl _)] at hC
      have wC:=s6 _ _ kW
      have T_:D2≠q:=fun z=>aK kW dq z.symm
      refine⟨q,_,_,rfl,rfl,wC,(by rw[length_map,hlen,sizeLine_eq];omega),?_⟩
      have s7:aq H (upd H6 q (.lst (ts.map V.ref++[.ref D2]))):=aq.but (s5.trans s6) xX bA.upd
      have Rc:bc (nE (upd H6 q (.lst (ts.map V.ref++[.ref D2])))) (ts++[D2]) (mh n es (i+1)):=by
       rw[GN]
       refine bc.snoc ⟨hT.1,fun j a r h1 h2=>?_⟩ (Iw ⟨cs,T8,hC⟩ wC Rb T_)
       exact Iw (wB (hT.2 j a r h1 h2) s6) wC Rb (h9 a (mem_of_getElem? h1))
      have AY:upd H6 q (.lst (ts.map V.ref++[.ref D2])) q=some (.lst ((ts++[D2]).map V.ref)):=by rw[ah,map_append];rfl
      have hne7:∀t,t∈ts++[D2]->t≠q:=by
       intro t ht
       rcases mem_append.mp ht with ht | ht
       ·exact h9 t ht
       ·rw[mem_singleton.mp ht];exact T_
      generalize upd H6 q (.lst (ts.map V.ref++[.ref D2]))=H7 at s7 Rc AY ⊢
      have Rf:(ts++[D2]).length=i+1+1:=by rw[length_append,hlen];rfl
      obtain⟨al,hal7,hRl⟩:=Rc.at_ (vQ (Nat.le_refl (i+1)))
      refine⟨_,rfl,_,rfl,q,_,_,_,rfl,rfl,aE.of AY,u6 (by rw[length_map];exact Rf) (nI hal7),al,n,_,rfl,hRl,WS.i5,fun r hr=>C6 hr,by omega,?_⟩
      refine⟨_,rfl,_,rfl,?_⟩
      cases Ua:WS.gg (WS.k3 n es (i+1)) with
      | none=>
       refine aZ ?_
       have e1:n-i=(n-(i+1))+1:=by omega
       rw[e1,WS.Gz hN Ua] at hw
       exact⟨_,_,ts++[D2],rfl,s7,AY,Rc,hne7,hw⟩
      | some ev=>
       refine aS ?_
       have e1:n-i=(n-(i+1))+1:=by omega
       obtain⟨x,NP,hx,hwx⟩:=WS.E4 (f:=n-(i+1)) hN Ua
       rw[e1,hwx] at hw
       refine⟨_,rfl,_,rfl,q,rfl,⟨_,aE.of AY⟩,fun D3 Ub=>?_⟩
       refine fQ (K:=K) (a:=q) (xs:=(ts++[D2]).map V.ref) (fun j dI=>∃cs,aq H7 dI/\dI D3=some (.lst (cs.map V.ref))/\bc (d_ dI) cs ((lD n es ev (i+1)).take j))
        ⟨[],aq.new Ub,ah,bc.nil⟩ (fun j dI _ ⟨_,s8,_⟩=>aE.of (s8 _ _ AY)) ?_ ?_
       ·rintro j y dI hj ⟨cs,s8,Rg,NQ⟩
        obtain⟨a,ha,rfl⟩:=bh hj
        obtain⟨tb,htb,as8,hl8,hA8⟩:=Rc.get ha
        have Rh:j<=i+1:=by
         have:=(List.getElem?_eq_some_iff.mp ha).1
         omega
        rw[vQ Rh] at htb
        cases htb
        obtain⟨b,hb,hRb⟩:=hA8.at_ (WS.yB NP)
        refine⟨rfl,jm (aS ?_)⟩
        refine⟨_,rfl,_,rfl,a,_,_,_,rfl,rfl,aE.of (s8 _ _ hl8),a_ (nI hb),?_⟩
        obtain⟨g1,g2⟩:=yV Rg NQ (s8 _ _ hRb) (by rw[WS.fR];exact h0) (fun r hr=>by
         have:=List.mem_of_mem_take hr
         unfold lD at this
         obtain⟨_,_,rfl⟩:=mem_map.mp this
         rw[WS.fR];exact h0)
        refine⟨_,Rg,(by rw[length_map,NQ.1,length_take,oB,sizeLine_eq];omega),_,aq.but s8 Ub bA.upd,g1,?_⟩
        rw[take_snoc (sC Rh)]
        exact g2
       ·rintro H8 ⟨cs,s8,Rg,NQ⟩
        rw[length_map,Rf,List.take_of_length_le (by rw[oB];exact Nat.le_refl _)] at NQ
        refine⟨_,rfl,le,D3,n,ev,ev,i+1,x,es,rfl,bj hE (s7.trans s8),⟨cs,Rg,NQ⟩,hN,NP,NP,by omega,hx,fun H9 p9 s9 hE9=>?_⟩
        refine k H9 p9 ((s7.trans s8).trans s9) ?_
        rw[hw]
        exact hE9
    ·rintro σ H' ⟨v3,v4,ts,rfl,s5,kW,hT,h9,hw⟩
     rw[Nat.sub_self] at hw
     refine⟨zl0,fun p hp=>?_⟩
     refine k _ p (s5.trans (aq.new hp)) ?_
     rw[hw]
     exact⟨[],ah,bc.nil⟩
def cH (H:Hp) (l:Addr) (xs:List Int):Prop:=H l=some (.lst (xs.map V.int))
def GO (A:aW):Sp:=fun vs H Q _=>∃b:Bool,vs=[.bl b]/\Q (.int (Vbedac.bit b)) H
theorem GP:aJ ["truth"] ["truth"] (ay vv):=by refine⟨rfl,rfl,rfl,?_,rfl,?_,?_⟩ <;> decide +kernel
theorem iV (T:Txt K mg A):aY P w K mg base bF 1 A.lh A.jP ["truth"] (GO A):=by
 refine T.cy.ok GP (fun vs H Q E h=>?_) (fun bg Ar outer s H vs Q E hr h=>?_)
 ·obtain⟨b,rfl,_⟩:=h
  rfl
 ·obtain⟨b,rfl,k⟩:=h
  refine⟨_,(ae (aP (fz (pv 0)) (ao (ax aH)) aI)
   (ao (ax aH))),?_⟩
  refine⟨_,rfl,_,rfl,?_⟩
  cases b with
  | true=>exact aS k
  | false=>exact aZ k
def GQ (A:aW):Sp:=fun vs H Q _=>∃x:Option Int,vs=[fD x]/\∀(H':Hp) (p:Addr),H p=none->aq H H'->cH H' p (Vbedac.open_ x)->Q (.ref p) H'
theorem GR:aJ ["number"] ["number"] (ay vw):=by refine⟨rfl,rfl,rfl,?_,rfl,?_,?_⟩ <;> decide +kernel
theorem tW (T:Txt K mg A):aY P w K mg base bF 1 A.lj A.jQ ["number"] (GQ A):=by
 refine T.eJ.ok GR (fun vs H Q E h=>?_) (fun bg Ar outer s H vs Q E hr h=>?_)
 ·obtain⟨x,rfl,_⟩:=h
  rfl
 ·obtain⟨x,rfl,k⟩:=h
  refine⟨_,(ae (aP (d3 (gR (pv 0))) (ao (ax (aR (aa aH (aa aH ag))))) aI)
   (ao (ax (aR (aa aH (aa (pv 0) ag)))))),?_⟩
  refine⟨_,rfl,_,rfl,?_⟩
  cases x with
  | none=>exact aS ⟨zl2,fun p hp=>k _ p hp (aq.new hp) ah⟩
  | some x=>exact aZ ⟨_,rfl,zl2,fun p hp=>k _ p hp (aq.new hp) ah⟩
def yW (A:aW):Sp:=fun vs H Q _=>∃x:Option Int,vs=[fD x]/\∀(H':Hp) (p:Addr),H p=none->aq H H'->cH H' p (Vbedac.open_ (Vbedac.neg x))->Q (.ref p) H'
theorem yX:aJ ["number"] ["number"] (ay mT):=by refine⟨rfl,rfl,rfl,?_,rfl,?_,?_⟩ <;> decide +kernel
theorem q0 (T:Txt K mg A):aY P w K mg base bF 1 A.ft A.eR ["number"] (yW A):=by
 refine T.b9.ok yX (fun vs H Q E h=>?_) (fun bg Ar outer s H vs Q E hr h=>?_)
 ·obtain⟨x,rfl,_⟩:=h
  rfl
 ·obtain⟨x,rfl,k⟩:=h
  refine⟨_,(ae (aP (d3 (gR (pv 0))) (ao (ax (aR (aa aH (aa aH ag))))) aI)
   (ao (ax (aR (aa aH (aa (mZ j_ (pv 0)) ag)))))),?_⟩
  refine⟨_,rfl,_,rfl,?_⟩
  cases x with
  | none=>exact aS ⟨zl2,fun p hp=>k _ p hp (aq.new hp) ah⟩
  | some x=>exact aZ ⟨_,rfl,_,rfl,zl2,fun p hp=>k _ p hp (aq.new hp) ah⟩
theorem ints_snoc {H:Hp} {q:Addr} {xs:List Int} {x:Int}:cH (upd H q (.lst (xs.map V.int++[V.int x]))) q (xs++[x]):=by
 show upd _ _ _ _=_
 rw[ah,map_append];rfl
theorem LU (l:List Edge) (e:Edge) (k:Int):(k::l.flatMap fun e=>[Vbedac.nat e.key,Vbedac.nat e.dir])++[Vbedac.nat e.key]++[Vbedac.nat e.dir]=k::(l++[e]).flatMap fun e=>[Vbedac.nat e.key,Vbedac.nat e.dir]:=by
 rw[List.flatMap_append]
 simp
theorem q_ (l:List Edge):(l.flatMap fun e=>[Vbedac.nat e.key,Vbedac.nat e.dir]).length=2*l.length:=by
 induction l with
 | nil=>rfl
 | cons e l ih=>rw[List.flatMap_cons,length_append,ih,length_cons];simp;omega
def JM (A:aW):Sp:=fun vs H Q _=>∃(l:Addr) (es:List Edge),vs=[.ref l]/\a7 A H l es/\es.length<=100000/\∀(H':Hp) (p:Addr),aq H H'->cH H' p (Vbedac.pairs es)->Q (.ref p) H'
theorem w_:aJ ["way","told","edge"] ["way"] (ay yI):=by refine⟨rfl,rfl,rfl,?_,rfl,?_,?_⟩ <;> decide +kernel
theorem Cy (T:Txt K mg A):aY P w K mg base bF 1 A.n9 A.mG ["way"] (JM A):=by
 refine T.ie.ok w_ (fun vs H Q E h=>?_) (fun bg Ar outer s H vs Q E hr h=>?_)
 ·obtain⟨l,es,rfl,_⟩:=h
  rfl
 ·obtain⟨l,es,rfl,⟨as,hl,hA⟩,hz,k⟩:=h
  have hlen:(as.map V.ref).length=es.length:=by rw[length_map];exact hA.1
  refine⟨_,(ae (aG (i:=1) w_.nd rfl (Or.inl rfl) (aR (aa (bX bx (by rfl) T.d9 PySem.boot_len (aa (pv 0) ag)) ag)))
   (ae (cq PassesOwn.never rfl (bz (pv 0)) (a6 (i:=2) w_.nd rfl (Or.inl rfl))
    (ae (cv (fG PySem.F.plainAttrs_list PySem.F.slot_list_append PySem.F.type_list_append dn (pv 1) (aa (aD (pv 2) rfl) ag)))
   (ao (cv (fG PySem.F.plainAttrs_list PySem.F.slot_list_append PySem.F.type_list_append dn (pv 1) (aa (aD (pv 2) rfl) ag))))))
   (ao (ax (pv 1))))),?_⟩
  refine⟨_,rfl,l,_,rfl,.inl (aE.of hl),zl1,fun q hq=>?_⟩
  have s1:aq H (upd H q (.lst [.int ((as.map V.ref).length:Nat)])):=aq.new hq
  refine⟨_,rfl,l,rfl,⟨_,aE.of (s1 _ _ hl)⟩,ck (K:=K) (a:=l) (xs:=as.map V.ref) (fun i σ H'=>∃v2,σ=[some (.ref l),some (.ref q),v2]/\aq H H'/\cH H' q ((es.length:Int)::(es.take i).flatMap fun e=>[Vbedac.nat e.key,Vbedac.nat e.dir]))
   ⟨none,rfl,s1,(by show upd _ _ _ _=_;rw[ah,hlen];rfl)⟩ (fun i σ H' _ ⟨_,_,s3,_⟩=>aE.of (s3 _ _ hl)) ?_ ?_⟩
  ·rintro i y σ H' hi ⟨v2,rfl,s3,hL⟩
   obtain⟨a,ha,rfl⟩:=bh hi
   obtain⟨e,he,dx,hd⟩:=hA.get ha
   have dZ:=s3 _ _ hd
   have k4:i<es.length:=(List.getElem?_eq_some_iff.mp he).1
   have Gh:(((es.length:Int)::(es.take i).flatMap fun e=>[Vbedac.nat e.key,Vbedac.nat e.dir]).map V.int).length<300000:=by
    rw[length_map,length_cons,q_,length_take];omega
   refine⟨_,rfl,.inl ⟨rfl,_,aE.of hL⟩,_,rfl,a,_,dx,_,_,rfl,dZ,T.bw,T.gn,rfl,q,_,_,rfl,rfl,hL,(by rw[sizeLine_eq];omega),?_⟩
   have s4:=aq.but s3 hq (bA.upd (o:=.lst (((es.length:Int)::(es.take i).flatMap fun e=>[Vbedac.nat e.key,Vbedac.nat e.dir]).map V.int++[V.int e.key])))
   have hL4:=ints_snoc (H:=H') (q:=q) (xs:=(es.length:Int)::(es.take i).flatMap fun e=>[Vbedac.nat e.key,Vbedac.nat e.dir]) (x:=e.key)
   have Ri:=s4 _ _ hd
   refine⟨_,rfl,.inl ⟨rfl,_,aE.of hL4⟩,_,rfl,a,_,dx,_,_,rfl,Ri,T.bw,T.eI,rfl,q,_,_,rfl,rfl,hL4,(by rw[map_append,length_append,sizeLine_eq];simp at Gh ⊢;omega),?_⟩
   refine⟨_,rfl,aq.but s4 hq bA.upd,?_⟩
   rw[take_snoc he,<- LU]
   exact ints_snoc
  ·rintro σ H' ⟨v2,rfl,s3,hL⟩
   rw[hlen,take_length] at hL
   exact⟨_,rfl,k H' q s3 hL⟩
def G7 (n:Nat) (d:Addr):List (Str×V):=[("n",.int n),("by_key",.ref d)]
def dictOf (ad:Nat->Addr) (ks:List Said):List (Key×V):=ks.map fun x=>(Sum.inl (x.key:Int),V.ref (ad x.key))
structure bR (A:aW) (H:Hp) (k d:Addr) (s:State) (ad:Nat->Addr) (ks:List Said):Prop where
 ob:∃dx,H k=some (.ins A.eG dx (G7 s.n d))
 dc:H d=some (.dK (dictOf ad ks))
 pm:ks.Perm s.said
 st:∀x,x∈s.said->jw A H (ad x.key) x
 inj:∀x y,x∈s.said->y∈s.said->ad x.key=ad y.key->x.key=y.key
theorem bR.same {A:aW} {H H':Hp} {k d:Addr} {s:State} {ad:Nat->Addr} {ks:List Said} (h:bR A H k d s ad ks) (m:aq H H'):bR A H' k d s ad ks:=by
 obtain⟨⟨dx,ob⟩,dc,pm,st,inj⟩:=h
 exact⟨⟨dx,m _ _ ob⟩,m _ _ dc,pm,fun x hx=>(st x hx).same m,inj⟩
theorem NR {ad:Nat->Addr} {x:Said}:∀{ks:List Said},x∈ks->dJ (dictOf ad ks) (Sum.inl (x.key:Int))=some (.ref (ad x.key))
 | [],h=>by cases h
 | y::ks,h=>by
  unfold dictOf
  rw[map_cons]
  by_cases c:y.key=x.key
  ·rw[iQ (by show Sum.inl (y.key:Int)=_;rw[c])]
   dsimp only
   rw[c]
  ·rw[gV (by show ¬Sum.inl (y.key:Int)=_;intro q;injection q with q;exact c (by omega))]
   rcases mem_cons.mp h with q | q
   ·exact absurd (by rw[q]) c
   ·exact NR q
theorem KU {ad:Nat->Addr} {k:Int}:∀{ks:List Said},(∀x,x∈ks->(x.key:Int)≠k)->dJ (dictOf ad ks) (Sum.inl k)=none
 | [],_=>rfl
 | y::ks,h=>by
  unfold dictOf
  rw[map_cons,gV (by show ¬Sum.inl (y.key:Int)=_;intro q;injection q with q;exact h y (by simp) q)]
  exact KU fun x hx=>h x (by simp[hx])
theorem bR.get {A:aW} {H:Hp} {k d:Addr} {s:State} {ad:Nat->Addr} {ks:List Said} (h:bR A H k d s ad ks) {x:Said} (hm:x∈s.said):jC H d (.int x.key) (some (.ref (ad x.key))):=by
 have:=jC.k (k:=Sum.inl (x.key:Int)) h.dc
 rw[NR (h.pm.mem_iff.mpr hm)] at this
 exact this
theorem bR.miss {A:aW} {H:Hp} {k d:Addr} {s:State} {ad:Nat->Addr} {ks:List Said} (h:bR A H k d s ad ks) {n:Int} (hm:∀x,x∈s.said->(x.key:Int)≠n):jC H d (.int n) none:=by
 have:=jC.k (k:=Sum.inl n) h.dc
 rw[KU fun x hx=>hm x (h.pm.mem_iff.mp hx)] at this
 exact this
theorem Pl {A:aW} {H:Hp} {p:Addr} {ad:Nat->Addr} {xs:List Said} (hp:H p=some (.lst (xs.map fun x=>V.ref (ad x.key)))) (h:∀x,x∈xs->jw A H (ad x.key) x):dN A H p xs:=by
 refine⟨xs.map fun x=>ad x.key,by rw[hp,map_map];rfl,by rw[length_map],fun i a x h1 h2=>?_⟩
 rw[getElem?_map,h2] at h1
 cases h1
 exact h x (mem_of_getElem? h2)
def pD (H:Hp) (p:Addr) (ad:Nat->Addr) (xs:List Said):Prop:=H p=some (.lst (xs.map fun x=>V.ref (ad x.key)))
def B0 (A:aW):Sp:=fun vs H Q _=>∃(p dx:Addr) (x:Said),vs=[.ref p,.int x.key,.int x.who,.int x.a,.int x.b,.int x.lo,.int x.hi]/\x.on=true/\H p=some (.ins A.a5 dx [])/\
 ∀H':Hp,H' p=some (.ins A.a5 dx (AN x))->bA p H H'->Q .bE H'
theorem B1:aJ ["self","key","witness","a","b","lo","hi"] ["self","key","witness","a","b","lo","hi"] (ay pj):=by refine⟨rfl,rfl,rfl,?_,rfl,?_,?_⟩ <;> decide +kernel
theorem uj (T:Txt K mg A):aY P w K mg base bF 1 A.fO A.gE ["self","key","witness","a","b","lo","hi"] (B0 A):=by
 refine T.hU.ok B1 (fun vs H Q E h=>?_) (fun bg Ar outer s H vs Q E hr h=>?_)
 ·obtain⟨p,dx,e,rfl,_⟩:=h
  rfl
 ·obtain⟨p,dx,e,rfl,ho,hp,k⟩:=h
  refine⟨_,(ae (c5 (pv 0) (pv 1) rfl)
   (ae (c5 (pv 0) (pv 2) rfl)
   (ae (c5 (pv 0) (pv 3) rfl)
   (ae (c5 (pv 0) (pv 4) rfl)
   (ae (c5 (pv 0) (pv 5) rfl)
   (ae (c5 (pv 0) (pv 6) rfl)
   (ao (c5 (pv 0) iG rfl)))))))),?_⟩
  refine⟨_,rfl,_,rfl,p,_,dx,_,rfl,hp,T.aC,T.bp,(by show 0<1000;decide),?_⟩
  refine⟨_,rfl,_,rfl,p,_,dx,_,rfl,ah,T.aC,T.cW,(by show 1<1000;decide),?_⟩
  refine⟨_,rfl,_,rfl,p,_,dx,_,rfl,ah,T.aC,T.cw,(by show 2<1000;decide),?_⟩
  refine⟨_,rfl,_,rfl,p,_,dx,_,rfl,ah,T.aC,T.cx,(by show 3<1000;decide),?_⟩
  refine⟨_,rfl,_,rfl,p,_,dx,_,rfl,ah,T.aC,T.c_,(by show 4<1000;decide),?_⟩
  refine⟨_,rfl,_,rfl,p,_,dx,_,rfl,ah,T.aC,T.df,(by show 5<1000;decide),?_⟩
  refine⟨_,rfl,p,_,dx,_,rfl,ah,T.aC,T.bJ,(by show 6<1000;decide),?_⟩
  refine k _ ?_ fun b o h n=>?_
  ·rw[ah]
   unfold AN
   rw[ho]
   rfl
  ·rw[aw n,aw n,aw n,aw n,aw n,aw n,aw n]
   exact h
def IA (A:aW):Sp:=fun vs H Q _=>∃(p dx:Addr),vs=[.ref p]/\H p=some (.ins A.eG dx [])/\
 ∀(H':Hp) (d:Addr) (ad:Nat->Addr),bR A H' p d Vbedac.start ad []->bA p H H'->Q .bE H'
theorem IB:aJ ["self"] ["self"] (ay wW):=by refine⟨rfl,rfl,rfl,?_,rfl,?_,?_⟩ <;> decide +kernel
theorem IC (T:Txt K mg A):aY P w K mg base bF 1 A.kP A.k7 ["self"] (IA A):=by
 refine T.mM.ok IB (fun vs H Q E h=>?_) (fun bg Ar outer s H vs Q E hr h=>?_)
 ·obtain⟨p,dx,rfl,_⟩:=h
  rfl
 ·obtain⟨p,dx,rfl,hp,k⟩:=h
  refine⟨_,(ae (c5 (pv 0) aH rfl)
   (ao (c5 (pv 0) CQ rfl))),?_⟩
  refine⟨_,rfl,p,_,dx,_,rfl,hp,T.ba,T.cn,(by show 0<1000;decide),?_⟩
  intro d hd
  have Em:p≠d:=aK ah hd
  refine⟨_,rfl,p,_,dx,_,rfl,(by rw[aw Em];exact ah),T.ba,T.bD,(by show 1<1000;decide),?_⟩
  refine k _ d (fun _=>0) ⟨⟨dx,?_⟩,?_,List.Perm.refl _,(by intro x h;cases h),(by intro x y h;cases h)⟩ fun b o h n=>?_
  ·rw[ah];rfl
  ·rw[aw fun z=>Em z.symm,ah];rfl
  ·rw[aw n,aw ?_,aw n]
   ·exact h
   ·exact aK (by rw[aw n];exact h) hd
def C7 (A:aW):Sp:=fun vs H Q _=>∃(k d:Addr) (s:State) (ad:Nat->Addr) (ks:List Said),vs=[.ref k]/\bR A H k d s ad ks/\WS.Well s/\
 ∀(H':Hp) (p:Addr),aq H H'->H p=none->pD H' p ad s.said->Q (.ref p) H'
theorem pE:aJ ["self","key"] ["self"] (ay m7):=by refine⟨rfl,rfl,rfl,?_,rfl,?_,?_⟩ <;> decide +kernel
theorem pF (T:Txt K mg A):aY P w K mg base bF 1 A.gm A.gW ["self"] (C7 A):=by
 refine T.iM.ok pE (fun vs H Q E h=>?_) (fun bg Ar outer s H vs Q E hr h=>?_)
 ·obtain⟨k,d,s,ad,ks,rfl,_⟩:=h
  rfl
 ·obtain⟨k,d,st,ad,ks,rfl,hK,hW,kk⟩:=h
  obtain⟨dx,br⟩:=hK.ob
  refine⟨_,(ao (ax (lZ rfl pE.nd (bz (bX (LI rfl) (by rfl) T.nD PyProof.Rows.boot_sorted (aa (aD (pv 0) rfl) ag))) (c8 (N:=["self","key"]) (sc:=ay m7) (own:=[("key",1)]) (by decide +kernel)) (fun _ _ _ _ _=>(a6 (i:=1) pE.nd rfl (Or.inl rfl))) (fun _ _ _ _ _=>ja) (fun _ _ _ _ _=>by exact(nS (kb hr) (dQ (K:=K) rfl (pv 0) rfl) (pv 1) (fun _ _=>rfl)))))),?_⟩
  refine⟨_,rfl,k,_,dx,_,_,rfl,br,T.ba,T.bD,rfl,d,_,ks.map fun x=>(x.key:Int),rfl,hK.dc,(by unfold dictOf;rw[map_map,map_map];rfl),fun h_ p Ih hsr hp=>?_⟩
  have e:h_=st.said.map fun x=>(x.key:Int):=WS.xy (Ih.trans (hK.pm.map _)) hsr (WS.RM hW.sorted)
  subst e
  have s1:aq H (upd H p (.lst ((st.said.map fun x=>(x.key:Int)).map V.int))):=aq.new hp
  refine⟨p,rfl,⟨_,aE.of ah⟩,fun D hD=>?_⟩
  have Rj:p≠D:=aK ah hD
  have NS:H D=none:=s1.free hD
  refine fQ (K:=K) (a:=p) (xs:=(st.said.map fun x=>(x.key:Int)).map V.int) (fun i H'=>aq H H'/\H' p=some (.lst ((st.said.map fun x=>(x.key:Int)).map V.int))/\pD H' D ad (st.said.take i))
   ⟨s1.trans (aq.new hD),(by rw[aw Rj];exact ah),ah⟩ (fun i H' _ ⟨_,h,_⟩=>aE.of h) ?_ ?_
  ·rintro i y H' hi ⟨s2,Hz,dq⟩
   rw[map_map] at hi
   obtain⟨x,hx,rfl⟩:=get_map hi
   have hm:x∈st.said:=mem_of_getElem? hx
   have k4:i<st.said.length:=(List.getElem?_eq_some_iff.mp hx).1
   have hf:=hW.xx
   refine⟨rfl,jm (aS ?_)⟩
   refine⟨_,rfl,k,_,dx,_,_,rfl,s2 _ _ br,T.ba,T.bD,rfl,_,rfl,d,V.ref (ad x.key),rfl,(hK.same s2).get hm,?_⟩
   ·refine⟨_,dq,(by rw[length_map,length_take,sizeLine_eq];omega),aq.but s2 NS bA.upd,(by rw[aw Rj];exact Hz),?_⟩
    show upd _ _ _ _=_
    rw[ah,take_snoc hx,map_append];rfl
  ·rintro H' ⟨s2,Hz,dq⟩
   rw[length_map,length_map,take_length] at dq
   exact kk H' D s2 NS dq
theorem i8 {α:Type} {p:α->Bool} {l:List α} {i:Nat} {x:α} (h:l[i]?=some x):(l.take (i+1)).filter p=(l.take i).filter p++(if p x=true then [x] else []):=by
 rw[take_snoc h,List.filter_append,List.filter_cons]
 split <;> simp
def xY (A:aW):Sp:=fun vs H Q _=>∃(k d:Addr) (s:State) (ad:Nat->Addr) (ks:List Said),vs=[.ref k]/\bR A H k d s ad ks/\WS.Well s/\
 ∀(H':Hp) (p:Addr),aq H H'->pD H' p ad (Vbedac.standing s)->Q (.ref p) H'
theorem lE:aJ ["self","statement"] ["self"] (ay iY):=by refine⟨rfl,rfl,rfl,?_,rfl,?_,?_⟩ <;> decide +kernel
theorem eD (T:Txt K mg A):aY P w K mg base bF 2 A.dA A.el ["self"] (xY A):=by
 refine T.eV.ok lE (fun vs H Q E h=>?_) (fun bg Ar outer s H vs Q E hr h=>?_)
 ·obtain⟨k,d,s,ad,ks,rfl,_⟩:=h
  rfl
 ·obtain⟨k,d,st,ad,ks,rfl,hK,hW,kk⟩:=h
  obtain⟨dx,br⟩:=hK.ob
  refine⟨_,(ao (ax (lZ rfl lE.nd (bz (gi (pv 0) T.ba T.fP (pF T) (hr.mono (by decide:1<=1)) T.m_ .nil aF)) (c8 (N:=["self","statement"]) (sc:=ay iY) (own:=[("statement",1)]) (by decide +kernel)) (fun _ _ _ _ _=>(a6 (i:=1) lE.nd rfl (Or.inl rfl))) (fun _ _ _ _ _=>(rK (fz (dQ (K:=K) rfl (pv 1) rfl)))) (fun _ _ _ _ _=>by exact(pv 1))))),?_⟩
  refine⟨_,rfl,k,dx,_,rfl,br,rfl,k,d,st,ad,ks,rfl,hK,hW,fun H1 p s1 KW hp=>?_⟩
  refine⟨p,rfl,⟨_,aE.of hp⟩,fun D hD=>?_⟩
  have Rj:p≠D:=aK hp hD
  have NS:H D=none:=s1.free hD
  have ID:=hK.same s1
  have t9:H1 p=some (.lst (st.said.map fun (x:Said)=>V.ref (ad x.key))):=hp
  refine fQ (K:=K) (a:=p) (xs:=st.said.map fun (x:Said)=>V.ref (ad x.key)) (fun i H'=>aq H1 H'/\pD H' D ad ((st.said.take i).filter fun x=>x.on))
   ⟨aq.new hD,ah⟩ (fun i H' _ ⟨h,_⟩=>aE.of (h _ _ t9)) ?_ ?_
  ·rintro i y H' hi ⟨s2,dq⟩
   obtain⟨x,hx,rfl⟩:=get_map hi
   have hm:x∈st.said:=mem_of_getElem? hx
   have k4:i<st.said.length:=(List.getElem?_eq_some_iff.mp hx).1
   have hf:=hW.xx
   obtain⟨Uc,Ud⟩:=(ID.st x hm).same s2
   refine⟨rfl,_,rfl,ad x.key,_,Uc,_,_,rfl,Ud,T.aC,T.bJ,rfl,_,rfl,?_⟩
   rw[i8 hx]
   cases c:x.on with
   | true=>
    refine aS ?_
    rw[if_pos rfl]
    refine⟨_,rfl,_,dq,?_,aq.but s2 hD bA.upd,?_⟩
    ·rw[length_map,sizeLine_eq]
     have:=length_filter_le (fun x:Said=>x.on) (st.said.take i)
     rw[length_take] at this;omega
    ·show upd _ _ _ _=_
     rw[ah,map_append];rfl
   | false=>
    refine aZ ?_
    rw[if_neg Bool.false_ne_true,append_nil]
    exact⟨s2,dq⟩
  ·rintro H' ⟨s2,dq⟩
   rw[length_map,take_length] at dq
   exact kk H' D (s1.trans s2) dq
def e6 (w:Nat) (l:List Said):List Said:=l.filter fun x=>x.who==w
def v_ (A:aW):Sp:=fun vs H Q _=>∃(k d:Addr) (s:State) (ad:Nat->Addr) (ks:List Said) (v:Nat),vs=[.ref k,.int v]/\bR A H k d s ad ks/\WS.Well s/\
 ∀(H':Hp) (p:Addr),aq H H'->H p=none->pD H' p ad (e6 v s.said)->Q (.ref p) H'
theorem jH:aJ ["self","witness","statement"] ["self","witness"] (ay ib):=by refine⟨rfl,rfl,rfl,?_,rfl,?_,?_⟩ <;> decide +kernel
theorem oI (T:Txt K mg A):aY P w K mg base bF 2 A.cS A.dt ["self","witness"] (v_ A):=by
 refine T.dW.ok jH (fun vs H Q E h=>?_) (fun bg Ar outer s H vs Q E hr h=>?_)
 ·obtain⟨k,d,s,ad,ks,v,rfl,_⟩:=h
  rfl
 ·obtain⟨k,d,st,ad,ks,v,rfl,hK,hW,kk⟩:=h
  obtain⟨dx,br⟩:=hK.ob
  refine⟨_,(ao (ax (lZ rfl jH.nd (bz (gi (pv 0) T.ba T.fP (pF T) (hr.mono (by decide:1<=1)) T.m_ .nil aF)) (c8 (N:=["self","witness","statement"]) (sc:=ay ib) (own:=[("statement",2)]) (by decide +kernel)) (fun _ _ _ _ _=>(a6 (i:=2) jH.nd rfl (Or.inl rfl))) (fun _ _ _ _ _=>(rK (aO bZ (dQ (K:=K) rfl (pv 2) rfl) (pv 1) (aU _)))) (fun _ _ _ _ _=>by exact(pv 2))))),?_⟩
  refine⟨_,rfl,k,dx,_,rfl,br,rfl,k,d,st,ad,ks,rfl,hK,hW,fun H1 p s1 KW hp=>?_⟩
  refine⟨p,rfl,⟨_,aE.of hp⟩,fun D hD=>?_⟩
  have Rj:p≠D:=aK hp hD
  have NS:H D=none:=s1.free hD
  have ID:=hK.same s1
  have t9:H1 p=some (.lst (st.said.map fun (x:Said)=>V.ref (ad x.key))):=hp
  refine fQ (K:=K) (a:=p) (xs:=st.said.map fun (x:Said)=>V.ref (ad x.key)) (fun i H'=>aq H1 H'/\pD H' D ad (e6 v (st.said.take i)))
   ⟨aq.new hD,ah⟩ (fun i H' _ ⟨h,_⟩=>aE.of (h _ _ t9)) ?_ ?_
  ·rintro i y H' hi ⟨s2,dq⟩
   obtain⟨x,hx,rfl⟩:=get_map hi
   have hm:x∈st.said:=mem_of_getElem? hx
   have k4:i<st.said.length:=(List.getElem?_eq_some_iff.mp hx).1
   have hf:=hW.xx
   obtain⟨Uc,Ud⟩:=(ID.st x hm).same s2
   refine⟨rfl,_,rfl,ad x.key,_,Uc,_,_,rfl,Ud,T.aC,T.cW,rfl,_,rfl,rfl,_,rfl,?_⟩
   unfold e6 at dq ⊢
   rw[i8 hx]
   by_cases c:x.who=v
   ·rw[decide_eq_true (show V.int (x.who:Int)=V.int (v:Int) by rw[c])]
    refine aS ?_
    rw[if_pos (by simp[c])]
    refine⟨_,rfl,_,dq,?_,aq.but s2 hD bA.upd,?_⟩
    ·rw[length_map,sizeLine_eq]
     have:=length_filter_le (fun x:Said=>x.who==v) (st.said.take i)
     rw[length_take] at this;omega
    ·show upd _ _ _ _=_
     rw[ah,map_append];rfl
   ·rw[decide_eq_false (show ¬V.int (x.who:Int)=V.int (v:Int) by intro q;injection q with q;exact c (by omega))]
    refine aZ ?_
    rw[if_neg (by simp[c]),append_nil]
    exact⟨s2,dq⟩
  ·rintro H' ⟨s2,dq⟩
   rw[length_map,take_length] at dq
   exact kk H' D (s1.trans s2) NS dq
theorem aB {a b:Str} {X Y:Prop} (h:a≠b) (y:Y):if decide (V.str a=V.str b)=true then X else Y:=by
 rw[decide_eq_false (by intro q;injection q with q;exact h q)]
 exact aZ y
theorem bC {a:Str} {X Y:Prop} (x:X):if decide (V.str a=V.str a)=true then X else Y:=by
 rw[decide_eq_true rfl]
 exact aS x
theorem nJ {i j:Int} {X Y:Prop} (h:i=j) (x:X):if decide (V.int i=V.int j)=true then X else Y:=by
 rw[decide_eq_true (by rw[h])]
 exact aS x
theorem nL {i j:Int} {X Y:Prop} (h:¬i=j) (y:Y):if decide (V.int i=V.int j)=true then X else Y:=by
 rw[decide_eq_false (by intro q;injection q with q;exact h q)]
 exact aZ y
theorem uL {i j:Int} {X Y:Prop} (h:i=j) (y:Y):if (!decide (V.int i=V.int j))=true then X else Y:=by
 rw[decide_eq_true (by rw[h])]
 exact aZ y
theorem uM {i j:Int} {X Y:Prop} (h:¬i=j) (x:X):if (!decide (V.int i=V.int j))=true then X else Y:=by
 rw[decide_eq_false (by intro q;injection q with q;exact h q)]
 exact aS x
theorem sf {c:Prop} [Decidable c] {X Y:Prop} (h:c) (x:X):if decide c=true then X else Y:=by
 rw[decide_eq_true h]
 exact aS x
theorem sg {c:Prop} [Decidable c] {X Y:Prop} (h:¬c) (y:Y):if decide c=true then X else Y:=by
 rw[decide_eq_false h]
 exact aZ y
def Other (A:aW) (o:HO):Prop:=(∀dx n d,o ≠ .ins A.eG dx (G7 n d))/\(∀dx x,o ≠ .ins A.a5 dx (AN x))/\(∀kvs,o ≠ .dK kvs)
def Keeps (A:aW) (H H':Hp):Prop:=∀b o,H b=some o->Other A o->H' b=some o
theorem Keeps.of_same {A:aW} {H H':Hp} (s:aq H H'):Keeps A H H':=fun b o h _=>s b o h
theorem Keeps.trans {A:aW} {H H1 H2:Hp} (a:Keeps A H H1) (b:Keeps A H1 H2):Keeps A H H2:=fun c o h n=>b c o (a c o h n) n
theorem nM {A:aW} {xs:List V}:Other A (.lst xs):=⟨(by intro _ _ _ h;cases h),(by intro _ _ h;cases h),(by intro _ h;cases h)⟩
theorem Keeps.Pn {A:aW} {H:Hp} {k:Addr} {o:HO} {dx:Addr} {n:Nat} {d:Addr} (h:H k=some (.ins A.eG dx (G7 n d))):Keeps A H (upd H k o):=fun b u hb hu=>by
 rw[aw]
 ·exact hb
 ·intro z
  subst z
  rw[h] at hb
  cases hb
  exact hu.1 _ _ _ rfl
theorem Keeps.NT {A:aW} {H:Hp} {k:Addr} {o:HO} {dx:Addr} {x:Said} (h:H k=some (.ins A.a5 dx (AN x))):Keeps A H (upd H k o):=fun b u hb hu=>by
 rw[aw]
 ·exact hb
 ·intro z
  subst z
  rw[h] at hb
  cases hb
  exact hu.2.1 _ _ rfl
theorem Keeps.Po {A:aW} {H:Hp} {k:Addr} {o:HO} {kvs:List (Key×V)} (h:H k=some (.dK kvs)):Keeps A H (upd H k o):=fun b u hb hu=>by
 rw[aw]
 ·exact hb
 ·intro z
  subst z
  rw[h] at hb
  cases hb
  exact hu.2.2 _ rfl
def En (v:Bool) (n:Nat) (s:State):State:=Vbedac.setOn v (fun y=>y.key==n) s
theorem Eo {A:aW} {H:Hp} {a l:Addr} {x:Said} {xs:List V} (h:jw A H a x) (hl:H l=some (.lst xs)):a≠l:=by
 obtain⟨dx,h⟩:=h
 exact dh h hl (by intro z;cases z)
theorem AZ {v:Bool} {p:Said->Bool} {s:State} {y:Said} (h:y∈(Vbedac.setOn v p s).said):∃x,x∈s.said/\y=if p x=true then WS.gk v x else x:=by
 obtain⟨x,hx,rfl⟩:=mem_map.mp h
 exact⟨x,hx,rfl⟩
theorem bR.turn {A:aW} {H:Hp} {k d:Addr} {s:State} {ad:Nat->Addr} {ks:List Said} (h:bR A H k d s ad ks) (hW:WS.Well s) {x:Said} (hx:x∈s.said) {dx:Addr} (hd:H (ad x.key)=some (.ins A.a5 dx (AN x))) (v:Bool) :
  ∃ff,bR A (upd H (ad x.key) (.ins A.a5 dx (AN (WS.gk v x)))) k d (En v x.key s) ad ff:=by
 obtain⟨⟨dk,ob⟩,dc,pm,st,inj⟩:=h
 have hk:k≠ad x.key:=dh ob hd (by intro z;injection z with z1 z2 z3;cases z3)
 have hdn:d≠ad x.key:=dh dc hd (by intro z;cases z)
 refine⟨ks.map fun y=>if (y.key==x.key)=true then WS.gk v y else y,⟨dk,by rw[aw hk];exact ob⟩,?_,pm.map _,?_,?_⟩
 ·rw[aw hdn,dc]
  unfold dictOf
  rw[map_map]
  congr 2
  refine List.map_congr_left fun y _=>?_
  show _=(Sum.inl ((if (y.key==x.key)=true then WS.gk v y else y).key:Int),V.ref (ad (if (y.key==x.key)=true then WS.gk v y else y).key))
  split <;> rfl
 ·intro y hy
  obtain⟨z,hz,rfl⟩:=AZ hy
  by_cases c:z.key=x.key
  ·have e:z=x:=WS.Bz hW.sorted hz hx c
   subst e
   rw[if_pos (by simp)]
   exact⟨dx,by show upd _ _ _ (ad z.key)=_;rw[ah]⟩
  ·rw[if_neg (by simpa using c)]
   obtain⟨dz,lM⟩:=st z hz
   exact⟨dz,by rw[aw fun q=>c (inj z x hz hx q)];exact lM⟩
 ·intro y z hy hz
  obtain⟨y',IE,rfl⟩:=AZ hy
  obtain⟨z',lM,rfl⟩:=AZ hz
  have e1:∀q:Said,(if (q.key==x.key)=true then WS.gk v q else q).key=q.key:=by intro q;split <;> rfl
  rw[e1,e1]
  exact inj y' z' IE lM
theorem LV {s:State} (h:WS.Well s) (v:Bool) (n:Nat):WS.Well (En v n s):=WS.yz h v _
def sD (A:aW) (H:Hp) (p:Addr):Prop:=∀o,H p=some o->¬Other A o
theorem sD.of {A:aW} {H:Hp} {p:Addr} (h:H p=none):sD A H p:=fun o q _=>by rw[h] at q;cases q
theorem Keeps.fresh {A:aW} {H H':Hp} {p:Addr} (m:Keeps A H H') (h:sD A H' p):sD A H p:=fun o q n=>h o (m p o q n) n
def Ends (A:aW) (H:Hp) (k:Addr) (r:State×List Int) (Q:VK):Prop:=∀(H':Hp) (p d':Addr) (uk:Nat->Addr) (ff:List Said),bR A H' k d' r.1 uk ff->Keeps A H H'->sD A H p->cH H' p r.2->Q (.ref p) H'
theorem Ends.same {A:aW} {H H':Hp} {k p d:Addr} {s:State} {l:List Int} {Q:VK} {ad:Nat->Addr} {ks:List Said} (h:Ends A H k (s,l) Q) (hK:bR A H k d s ad ks) (m:aq H H') (hf:H p=none) (hp:cH H' p l):Q (.ref p) H':=h H' p d ad ks (hK.same m) (Keeps.of_same m) (sD.of hf) hp
def Pp (A:aW):Sp:=fun vs H Q _=>∃(k d:Addr) (s:State) (ad:Nat->Addr) (ks:List Said) (n:Nat),vs=[.ref k,.int n]/\bR A H k d s ad ks/\Ends A H k (⟨n,[]⟩,[0]) Q
theorem Pq:aJ ["kept","n"] ["kept","n"] (ay Fb):=by refine⟨rfl,rfl,rfl,?_,rfl,?_,?_⟩ <;> decide +kernel
theorem Pr (T:Txt K mg A):aY P w K mg base bF 1 A.uP A.rQ ["kept","n"] (Pp A):=by
 refine T.oh.ok Pq (fun vs H Q E h=>?_) (fun bg Ar outer s H vs Q E hr h=>?_)
 ·obtain⟨k,d,s,ad,ks,n,rfl,_⟩:=h
  rfl
 ·obtain⟨k,d,st,ad,ks,n,rfl,hK,kk⟩:=h
  obtain⟨dx,br⟩:=hK.ob
  refine⟨_,(ae (c5 (pv 0) (pv 1) rfl)
   (ae (c5 (pv 0) CQ rfl)
   (ao (ax (aR (aa aH ag)))))),?_⟩
  refine⟨_,rfl,_,rfl,k,_,dx,_,rfl,br,T.ba,T.cn,(by show 2<1000;decide),?_⟩
  intro d2 hd2
  have Em:k≠d2:=aK ah hd2
  have k1:Keeps A H (upd H k (.ins A.eG dx (G7 n d))):=Keeps.Pn br
  refine⟨_,rfl,k,_,dx,_,rfl,(by rw[aw Em];exact ah),T.ba,T.bD,(by show 2<1000;decide),?_⟩
  refine⟨zl1,fun p hp=>?_⟩
  have hkp:k≠p:=aK ah hp
  have hdp:d2≠p:=aK (by rw[aw fun z=>Em z.symm];exact ah) hp
  have fr:sD A H p:=fun o h n=>by
   have Ea:p≠k:=fun z=>hkp z.symm
   have Ep:p≠d2:=fun z=>hdp z.symm
   rw[aw Ea,aw Ep,aw Ea,h] at hp
   cases hp
  refine kk _ p d2 (fun _=>0) [] ⟨⟨dx,?_⟩,?_,List.Perm.refl _,(by intro x h;cases h),(by intro x y h;cases h)⟩ (fun b o h n=>?_) fr ah
  ·rw[aw hkp,ah];rfl
  ·rw[aw hdp,aw fun z=>Em z.symm,ah];rfl
  ·have Ea:b≠k:=by
    intro z
    subst z
    rw[br] at h
    cases h
    exact n.1 _ _ _ rfl
   have Ep:b≠d2:=aK (by rw[aw Ea];exact h) hd2
   have hbp:b≠p:=aK (by rw[aw Ea,aw Ep,aw Ea];exact h) hp
   rw[aw hbp,aw Ea,aw Ep,aw Ea]
   exact h
def gA (s:State) (x:Said):Option Int:=
 if (Vbedac.saidBy s x.key).isSome=true then some (-3)
 else if x.a=x.b then some (-4)
 else if x.hi<x.lo then some (-5)
 else if 100<=s.said.length then some (-6) else none
theorem zC {ad:Nat->Addr} {ks:List Said}:(dictOf ad ks).length=ks.length:=by simp[dictOf]
def xa (A:aW):Sp:=fun vs H Q _=>∃(k d a:Addr) (s:State) (ad:Nat->Addr) (ks:List Said) (x:Said),vs=[.ref k,.ref a]/\bR A H k d s ad ks/\WS.Well s/\jw A H a x/\Q (fD (gA s x)) H
theorem xb:aJ ["kept","statement"] ["kept","statement"] (ay k5):=by refine⟨rfl,rfl,rfl,?_,rfl,?_,?_⟩ <;> decide +kernel
theorem xc (T:Txt K mg A):aY P w K mg base bF 1 A.et A.dR ["kept","statement"] (xa A):=by
 refine T.b0.ok xb (fun vs H Q E h=>?_) (fun bg Ar outer s H vs Q E hr h=>?_)
 ·obtain⟨k,d,a,s,ad,ks,x,rfl,_⟩:=h
  rfl
 ·obtain⟨k,d,a,st,ad,ks,x,rfl,hK,hW,⟨da,ha⟩,kk⟩:=h
  obtain⟨dx,br⟩:=hK.ob
  refine⟨_,(ae (aP (d3 (MP (kb hr) (aD (pv 1) rfl) (aD (pv 0) rfl))) (ao (ax (bU (v:=.int (-3)) rfl T.mP ⟨_,rfl⟩))) aI)
   (ae (aP (aO bZ (aD (pv 1) rfl) (aD (pv 1) rfl) (aU _)) (ao (ax (bU (v:=.int (-4)) rfl T.ju ⟨_,rfl⟩))) aI)
   (ae (aP (aO uu (aD (pv 1) rfl) (aD (pv 1) rfl) (aU _)) (ao (ax (bU (v:=.int (-5)) rfl T.iT ⟨_,rfl⟩))) aI)
   (ae (aP (aO Qz (bX MW (by rfl) T.d9 PySem.boot_len (aa (aD (pv 0) rfl) ag)) (bU (v:=.int (100)) rfl T.gP ⟨_,rfl⟩) (aU _)) (ao (ax (bU (v:=.int (-6)) rfl T.oz ⟨_,rfl⟩))) aI)
   (ao (ax iu)))))),?_⟩
  unfold gA at kk
  cases c:Vbedac.saidBy st x.key with
  | some y=>
   obtain⟨hy,hk⟩:=WS.mB c
   have hg:=hK.get hy
   rw[hk] at hg
   refine⟨_,rfl,a,_,da,_,_,rfl,ha,T.aC,T.bp,rfl,_,rfl,k,_,dx,_,_,rfl,br,T.ba,T.bD,rfl,d,_,rfl,hg,_,rfl,?_⟩
   refine aS ?_
   rw[c,if_pos (by rfl)] at kk
   exact kk
  | none=>
   have hg:jC H d (.int x.key) none:=hK.miss fun y hy=>by
    have:=WS.mz c y hy
    omega
   refine⟨_,rfl,a,_,da,_,_,rfl,ha,T.aC,T.bp,rfl,_,rfl,k,_,dx,_,_,rfl,br,T.ba,T.bD,rfl,d,_,rfl,hg,_,rfl,?_⟩
   refine aZ ?_
   rw[c,if_neg (by simp)] at kk
   refine⟨_,rfl,a,_,da,_,_,rfl,ha,T.aC,T.cw,rfl,_,rfl,a,_,da,_,_,rfl,ha,T.aC,T.cx,rfl,rfl,_,rfl,?_⟩
   by_cases c1:x.a=x.b
   ·rw[decide_eq_true (show V.int (x.a:Int)=V.int (x.b:Int) by rw[c1])]
    rw[if_pos c1] at kk
    exact aS kk
   ·rw[decide_eq_false (show ¬V.int (x.a:Int)=V.int (x.b:Int) by intro q;injection q with q;exact c1 (by omega))]
    rw[if_neg c1] at kk
    refine aZ ?_
    refine⟨_,rfl,a,_,da,_,_,rfl,ha,T.aC,T.df,rfl,_,rfl,a,_,da,_,_,rfl,ha,T.aC,T.c_,rfl,_,_,rfl,rfl,_,rfl,?_⟩
    by_cases c2:x.hi<x.lo
    ·rw[decide_eq_true c2]
     rw[if_pos c2] at kk
     exact aS kk
    ·rw[decide_eq_false c2]
     rw[if_neg c2] at kk
     refine aZ ?_
     refine⟨_,rfl,k,_,dx,_,_,rfl,br,T.ba,T.bD,rfl,d,_,rfl,hK.dc,_,_,rfl,rfl,_,rfl,?_⟩
     rw[zC,hK.pm.length_eq]
     by_cases c3:100<=st.said.length
     ·rw[decide_eq_true (by omega)]
      rw[if_pos c3] at kk
      exact aS kk
     ·rw[decide_eq_false (by omega)]
      rw[if_neg c3] at kk
      exact aZ kk
def ph (s:State) (x:Said):State×List Int:=match gA s x with
 | some r=>(s,[r])
 | none=>(⟨s.n,Vbedac.put x s.said⟩,[0])
theorem Er {s:State} {x:Said} {r:Int} (h:gA s x=some r):ph s x=(s,[r]):=by unfold ph;rw[h]
theorem Es {s:State} {x:Said} (h:gA s x=none):ph s x=(⟨s.n,Vbedac.put x s.said⟩,[0]):=by unfold ph;rw[h]
theorem Pt (x:Said) (l:List Said):(Vbedac.put x l).Perm (l++[x]):=by
 obtain⟨l1,l2,h1,h2⟩:=WS.F7 x l
 rw[h2,h1,append_assoc]
 exact List.Perm.append_left _ (List.perm_append_singleton x l2).symm
theorem A0 {s:State} {x:Said} (h:gA s x=none):Vbedac.saidBy s x.key=none/\¬x.a=x.b/\¬x.hi<x.lo/\¬100<=s.said.length:=by
 unfold gA at h
 cases c:Vbedac.saidBy s x.key with
 | some y=>rw[c,if_pos (by rfl)] at h;cases h
 | none=>
  rw[c,if_neg (by simp)] at h
  by_cases c1:x.a=x.b
  ·rw[if_pos c1] at h;cases h
  rw[if_neg c1] at h
  by_cases c2:x.hi<x.lo
  ·rw[if_pos c2] at h;cases h
  rw[if_neg c2] at h
  by_cases c3:100<=s.said.length
  ·rw[if_pos c3] at h;cases h
  exact⟨rfl,c1,c2,c3⟩
def Ue (A:aW):Sp:=fun vs H Q _=>∃(k d a:Addr) (s:State) (ad:Nat->Addr) (ks:List Said) (x:Said),vs=[.ref k,.ref a]/\bR A H k d s ad ks/\WS.Well s/\jw A H a x/\(∀y,y∈s.said->ad y.key≠a)/\Ends A H k (ph s x) Q
theorem NU:aJ ["kept","statement","refusal"] ["kept","statement"] (ay LO):=by refine⟨rfl,rfl,rfl,?_,rfl,?_,?_⟩ <;> decide +kernel
theorem Ug (T:Txt K mg A):aY P w K mg base bF 2 A.BF A.xC ["kept","statement"] (Ue A):=by
 refine T.uG.ok NU (fun vs H Q E h=>?_) (fun bg Ar outer s H vs Q E hr h=>?_)
 ·obtain⟨k,d,a,s,ad,ks,x,rfl,_⟩:=h
  rfl
 ·obtain⟨k,d,a,st,ad,ks,x,rfl,hK,hW,hS,Hw,kk⟩:=h
  obtain⟨da,ha⟩:=id hS
  obtain⟨dx,br⟩:=hK.ob
  refine⟨_,(ae (aG (i:=2) NU.nd rfl (Or.inl rfl) (aA (xc T) (hr.mono (by decide:1<=1)) rfl T.pV T.b0.kp T.pU .nil aF (aa (pv 0) (aa (pv 1) ag))))
   (ae (aP (d3 (pK (pv 2))) (ao (ax (aR (aa (pv 2) ag)))) aI)
   (ae (EV (kb hr) (aD (pv 0) rfl) (aD (pv 1) rfl) (pv 1) rfl)
   (ao (ax (aR (aa aH ag))))))),?_⟩
  refine⟨_,rfl,_,rfl,k,d,a,st,ad,ks,x,rfl,hK,hW,hS,?_⟩
  refine⟨_,rfl,_,rfl,?_⟩
  cases c:gA st x with
  | some r=>
   rw[Er c] at kk
   refine aS ?_
   refine⟨_,rfl,zl1,fun p hp=>?_⟩
   exact kk.same hK (aq.new hp) hp ah
  | none=>
   rw[Es c] at kk
   refine aZ ?_
   obtain⟨c1,c2,c3,c4⟩:=A0 c
   have Kq:(dictOf ad ks).length<sizeLine:=by rw[zC,hK.pm.length_eq,sizeLine_eq];omega
   refine⟨_,rfl,_,rfl,k,_,dx,_,_,rfl,br,T.ba,T.bD,rfl,_,rfl,a,_,da,_,_,rfl,ha,T.aC,T.bp,rfl,d,_,rfl,yr.k (k:=Sum.inl (x.key:Int)) hK.dc Kq,?_⟩
   refine⟨zl1,fun p hp=>?_⟩
   have QD:∀y,y∈st.said->y.key≠x.key:=WS.mz c1
   let uk:Nat->Addr:=fun n=>if n=x.key then a else ad n
   have KY:∀y,y∈st.said->uk y.key=ad y.key:=fun y hy=>if_neg (QD y hy)
   have LW:uk x.key=a:=if_pos rfl
   have hput:putK (dictOf ad ks) (Sum.inl (x.key:Int)) (.ref a)=dictOf uk (ks++[x]):=by
    unfold putK
    rw[if_neg]
    ·unfold dictOf
     rw[map_append,map_cons,List.map_nil,LW]
     congr 1
     refine List.map_congr_left fun y hy=>?_
     rw[KY y (hK.pm.mem_iff.mp hy)]
    ·intro q
     obtain⟨kv,h1,h2⟩:=any_eq_true.mp q
     obtain⟨y,hy,rfl⟩:=mem_map.mp h1
     have:=of_decide_eq_true h2
     injection this with this
     exact QD y (hK.pm.mem_iff.mp hy) (by omega)
   rw[hput] at hp ⊢
   have k1:Keeps A H (upd H d (.dK (dictOf uk (ks++[x])))):=Keeps.Po hK.dc
   have s1:aq (upd H d (.dK (dictOf uk (ks++[x])))) (upd (upd H d (.dK (dictOf uk (ks++[x])))) p (.lst [.int 0])):=aq.new hp
   have wD:k≠d:=dh br hK.dc (by intro z;cases z)
   refine kk _ p d uk (ks++[x]) ?_ (k1.trans (Keeps.of_same s1)) (k1.fresh (sD.of hp)) ah
   refine bR.same ?_ s1
   refine⟨⟨dx,by rw[aw wD];exact br⟩,ah,((hK.pm.append_right [x]).trans (Pt x st.said).symm),?_,?_⟩
   ·intro y hy
    rcases WS.pO.mp hy with rfl | hy
    ·rw[LW]
     exact⟨da,by rw[aw (dh ha hK.dc (by intro z;cases z))];exact ha⟩
    ·rw[KY y hy]
     obtain⟨dy,IE⟩:=hK.st y hy
     exact⟨dy,by rw[aw (dh IE hK.dc (by intro z;cases z))];exact IE⟩
   ·intro y z hy hz
    have Et:=WS.pO.mp hy
    have zD:=WS.pO.mp hz
    clear hy hz
    rcases Et with Et | Et
    ·rcases zD with zD | zD
     ·intro _;rw[Et,zD]
     ·rw[Et,LW,KY z zD]
      intro q
      exact absurd q.symm (Hw z zD)
    ·rcases zD with zD | zD
     ·rw[zD,LW,KY y Et]
      intro q
      exact absurd q (Hw y Et)
     ·rw[KY y Et,KY z zD]
      exact hK.inj y z Et zD
def oneAt (s:State) (n:Nat) (v:Bool):State×List Int:=match Vbedac.saidBy s n with
 | none=>(s,[-10])
 | some x=>if x.on=v then (s,[-7]) else (En v x.key s,[0])
def LX (A:aW):Sp:=fun vs H Q _=>∃(k d:Addr) (s:State) (ad:Nat->Addr) (ks:List Said) (n:Nat) (v:Bool),vs=[.ref k,.int n,.bl v]/\bR A H k d s ad ks/\WS.Well s/\Ends A H k (oneAt s n v) Q
theorem Eu:aJ ["kept","key","stands","statement"] ["kept","key","stands"] (ay Aq):=by refine⟨rfl,rfl,rfl,?_,rfl,?_,?_⟩ <;> decide +kernel
theorem Ew (T:Txt K mg A):aY P w K mg base bF 1 A.pP A.nZ ["kept","key","stands"] (LX A):=by
 refine T.i6.ok Eu (fun vs H Q E h=>?_) (fun bg Ar outer s H vs Q E hr h=>?_)
 ·obtain⟨k,d,s,ad,ks,n,v,rfl,_⟩:=h
  rfl
 ·obtain⟨k,d,st,ad,ks,n,v,rfl,hK,hW,kk⟩:=h
  obtain⟨dx,br⟩:=hK.ob
  refine⟨_,(ae (aP (d3 (Ab (kb hr) (pv 1) (aD (pv 0) rfl))) (ao (ax (aR (aa (bU (v:=.int (-10)) rfl T.kJ ⟨_,rfl⟩) ag)))) aI)
   (ae (aG (i:=3) Eu.nd rfl (Or.inl rfl) (nS (kb hr) (aD (pv 0) rfl) (pv 1) (fun _ _=>rfl)))
   (ae (aP (aO bZ (aD (pv 3) rfl) (pv 2) (aU _)) (ao (ax (aR (aa (bU (v:=.int (-7)) rfl T.jv ⟨_,rfl⟩) ag)))) aI)
   (ae (c5 (pv 3) (pv 2) rfl)
   (ao (ax (aR (aa aH ag)))))))),?_⟩
  unfold oneAt at kk
  cases c:Vbedac.saidBy st n with
  | none=>
   rw[c] at kk
   have hg:jC H d (.int n) none:=hK.miss fun y hy=>by
    have:=WS.mz c y hy
    omega
   refine⟨_,rfl,_,rfl,k,_,dx,_,_,rfl,br,T.ba,T.bD,rfl,d,_,rfl,hg,_,rfl,?_⟩
   refine aS ?_
   exact⟨zl1,fun p hp=>kk.same hK (aq.new hp) hp ah⟩
  | some x=>
   rw[c] at kk
   obtain⟨hx,hk⟩:=WS.mB c
   have hg:=hK.get hx
   rw[hk] at hg
   refine⟨_,rfl,_,rfl,k,_,dx,_,_,rfl,br,T.ba,T.bD,rfl,d,_,rfl,hg,_,rfl,?_⟩
   refine aZ ?_
   refine⟨_,rfl,k,_,dx,_,_,rfl,br,T.ba,T.bD,rfl,_,rfl,d,_,rfl,hg,?_⟩
   obtain⟨da,ha⟩:=hK.st x hx
   rw[hk] at ha
   refine⟨_,rfl,ad n,_,da,_,_,rfl,ha,T.aC,T.bJ,rfl,_,rfl,rfl,_,rfl,?_⟩
   dsimp only at kk
   by_cases c1:x.on=v
   ·rw[decide_eq_true (show V.bl x.on=V.bl v by rw[c1])]
    rw[if_pos c1] at kk
    refine aS ?_
    exact⟨zl1,fun p hp=>kk.same hK (aq.new hp) hp ah⟩
   ·rw[decide_eq_false (show ¬V.bl x.on=V.bl v by intro q;injection q with q;exact c1 q)]
    rw[if_neg c1] at kk
    refine aZ ?_
    refine⟨_,rfl,_,rfl,ad n,_,da,_,rfl,ha,T.aC,T.bJ,(by show 7<1000;decide),?_⟩
    refine⟨zl1,fun p hp=>?_⟩
    rw[<- hk] at ha hp ⊢
    obtain⟨ff,Cz⟩:=hK.turn hW hx ha v
    have e:upd H (ad x.key) (.ins A.a5 da (kM "stands" (.bl v) (AN x)))=upd H (ad x.key) (.ins A.a5 da (AN (WS.gk v x))):=rfl
    rw[e] at hp ⊢
    have k1:Keeps A H (upd H (ad x.key) (.ins A.a5 da (AN (WS.gk v x)))):=Keeps.NT ha
    exact kk _ p d ad ff (Cz.same (aq.new hp)) (k1.trans (Keeps.of_same (aq.new hp))) (k1.fresh (sD.of hp)) ah
theorem Ends.after {A:aW} {H H1:Hp} {k:Addr} {r:State×List Int} {Q:VK} (h:Ends A H k r Q) (m:Keeps A H H1):Ends A H1 k r Q:=fun H' p d' uk ff a b f c=>h H' p d' uk ff a (m.trans b) (m.fresh f) c
def upTo (v:Bool) (L:List Said) (i:Nat) (s:State):State:=Vbedac.setOn v (fun x=>(L.take i).any fun y=>y.key==x.key) s
theorem NV (v:Bool) (L:List Said) (s:State):upTo v L 0 s=s:=by
 unfold upTo Vbedac.setOn
 have:(s.said.map fun x=>if ((L.take 0).any fun y=>y.key==x.key)=true then (⟨x.key,x.who,x.a,x.b,x.lo,x.hi,v⟩:Said) else x)=s.said:=by
  conv=>rhs;rw[<- List.map_id s.said]
  refine List.map_congr_left fun x _=>?_
  simp
 rw[this]
theorem NW (v:Bool) {L:List Said} {i:Nat} {x:Said} (h:L[i]?=some x) (s:State):upTo v L (i+1) s=En v x.key (upTo v L i s):=by
 unfold upTo En Vbedac.setOn
 dsimp only
 rw[map_map]
 congr 1
 refine List.map_congr_left fun y _=>?_
 have e0:((L.take (i+1)).any fun z=>z.key==y.key)=(((L.take i).any fun z=>z.key==y.key)||(x.key==y.key)):=by
  rw[take_snoc h,List.any_append]
  simp
 show (if ((L.take (i+1)).any fun z=>z.key==y.key)=true then WS.gk v y else y)=if ((if ((L.take i).any fun z=>z.key==y.key)=true then WS.gk v y else y).key==x.key)=true then WS.gk v (if ((L.take i).any fun z=>z.key==y.key)=true then WS.gk v y else y) else (if ((L.take i).any fun z=>z.key==y.key)=true then WS.gk v y else y)
 rw[e0]
 cases c:(L.take i).any fun z=>z.key==y.key with
 | true=>
  simp only[Bool.true_or,if_true]
  split <;> rfl
 | false=>
  by_cases d:x.key=y.key
  ·have e1:(y.key==x.key)=true:=by simp[d]
   simp[d,e1,WS.gk]
  ·have e1:(y.key==x.key)=false:=by simpa using fun q=>d q.symm
   have e2:(x.key==y.key)=false:=by simpa using d
   simp[e1,e2]
theorem Pu (v:Bool) (n:Nat) {s:State} (hW:WS.Well s):upTo v (e6 n s.said) (e6 n s.said).length s=Vbedac.setOn v (fun x=>x.who==n) s:=by
 unfold upTo Vbedac.setOn
 rw[take_length]
 congr 1
 refine List.map_congr_left fun y hy=>?_
 have e:((e6 n s.said).any fun z=>z.key==y.key)=(y.who==n):=by
  rw[Bool.eq_iff_iff]
  constructor
  ·intro q
   obtain⟨z,h1,h2⟩:=any_eq_true.mp q
   obtain⟨h3,h4⟩:=mem_filter.mp h1
   have:=WS.Bz hW.sorted h3 hy (eq_of_beq h2)
   rw[<- this];exact h4
  ·intro q
   exact any_eq_true.mpr ⟨y,mem_filter.mpr ⟨hy,q⟩,by simp⟩
 show (if ((e6 n s.said).any fun z=>z.key==y.key)=true then WS.gk v y else y)=if (y.who==n)=true then WS.gk v y else y
 rw[e]
theorem NX (v:Bool) {n i:Nat} {s:State} (hW:WS.Well s) {x:Said} (h:(e6 n s.said)[i]?=some x):x∈(upTo v (e6 n s.said) i s).said:=by
 have hm:x∈s.said:=(mem_filter.mp (mem_of_getElem? h)).1
 refine mem_map.mpr ⟨x,hm,?_⟩
 rw[if_neg]
 intro q
 obtain⟨z,h1,h2⟩:=any_eq_true.mp q
 obtain⟨j,hj,hz⟩:=List.mem_iff_getElem.mp h1
 rw[length_take] at hj
 rw[List.getElem_take] at hz
 have hs:((e6 n s.said).map fun x=>x.key).Pairwise (·< ·):=List.Pairwise.sublist (List.filter_sublist.map _) hW.sorted
 obtain⟨hi,he⟩:=List.getElem?_eq_some_iff.mp h
 have:=List.pairwise_iff_getElem.mp hs j i (by rw[length_map];omega) (by rw[length_map];exact hi) (by omega)
 rw[List.getElem_map,List.getElem_map,hz,he] at this
 have:=eq_of_beq h2
 omega
def allAt (s:State) (n:Nat) (v:Bool):State×List Int:=if (e6 n s.said).length=0 then (s,[-10]) else (Vbedac.setOn v (fun x=>x.who==n) s,[0,(((e6 n s.said).filter fun x=>x.on != v).length:Nat)])
def LY (A:aW):Sp:=fun vs H Q _=>∃(k d:Addr) (s:State) (ad:Nat->Addr) (ks:List Said) (n:Nat) (v:Bool),vs=[.ref k,.int n,.bl v]/\bR A H k d s ad ks/\WS.Well s/\Ends A H k (allAt s n v) Q
theorem ra:aJ ["kept","witness","stands","statements","changed","statement"] ["kept","witness","stands"] (ay As):=by refine⟨rfl,rfl,rfl,?_,rfl,?_,?_⟩ <;> decide +kernel
theorem Ex (T:Txt K mg A):aY P w K mg base bF 3 A.pQ A.n0 ["kept","witness","stands"] (LY A):=by
 refine T.i7.ok ra (fun vs H Q E h=>?_) (fun bg Ar outer s H vs Q E hr h=>?_)
 ·obtain⟨k,d,s,ad,ks,n,v,rfl,_⟩:=h
  rfl
 ·obtain⟨k,d,st,ad,ks,n,v,rfl,hK,hW,kk⟩:=h
  obtain⟨dx,br⟩:=hK.ob
  refine⟨_,(ae (aG (i:=3) ra.nd rfl (Or.inl rfl) (JZ (pv 0) T.ba T.dw (oI T) (hr.mono (by decide:2<=2)) T.kS .nil aF (aa (pv 1) ag)))
   (ae (aP (aO bZ (bX bx (by rfl) T.d9 PySem.boot_len (aa (pv 3) ag)) aH (aU _)) (ao (ax (aR (aa (bU (v:=.int (-10)) rfl T.kJ ⟨_,rfl⟩) ag)))) aI)
   (ae (aG (i:=4) ra.nd rfl (Or.inl rfl) aH)
   (ae (cq PassesOwn.never rfl (bz (pv 3)) (a6 (i:=5) ra.nd rfl (Or.inl rfl))
    (ao (aP (aO yn (aD (pv 5) rfl) (pv 2) (aU _)) (ae (c5 (pv 5) (pv 2) rfl)
   (ao (aG (i:=4) ra.nd rfl (Or.inl rfl) (dM nh (pv 4) aH)))) aI)))
   (ao (ax (aR (aa aH (aa (pv 4) ag))))))))),?_⟩
  refine⟨_,rfl,k,dx,_,rfl,br,rfl,_,rfl,k,d,st,ad,ks,n,rfl,hK,hW,fun H1 p s1 KW hp=>?_⟩
  have t9:H1 p=some (.lst ((e6 n st.said).map fun (x:Said)=>V.ref (ad x.key))):=hp
  refine⟨_,rfl,p,_,rfl,.inl (aE.of t9),rfl,_,rfl,?_⟩
  unfold allAt at kk
  rw[length_map]
  by_cases c:(e6 n st.said).length=0
  ·rw[if_pos c] at kk
   refine nJ (by rw[c];rfl) ?_
   exact⟨zl1,fun q hq=>kk.same hK (s1.trans (aq.new hq)) (s1.free hq) ah⟩
  ·rw[if_neg c] at kk
   refine nL (by omega) ?_
   refine⟨_,rfl,p,rfl,⟨_,aE.of t9⟩,ck (K:=K) (a:=p) (xs:=(e6 n st.said).map fun (x:Said)=>V.ref (ad x.key)) (fun i σ H'=>∃v5 ff,σ=[some (.ref k),some (.int n),some (.bl v),some (.ref p),some (.int ((((e6 n st.said).take i).filter fun x=>x.on != v).length:Nat)),v5]/\Keeps A H1 H'/\bR A H' k d (upTo v (e6 n st.said) i st) ad ff)
    ⟨none,ks,rfl,Keeps.of_same (fun _ _ h=>h),(by rw[NV];exact hK.same s1)⟩ (fun i σ H' _ ⟨_,_,_,m,_⟩=>aE.of (m _ _ t9 nM)) ?_ ?_⟩
   ·rintro i y σ H' hi ⟨v5,ff,rfl,m,Cz⟩
    obtain⟨x,hx,rfl⟩:=get_map hi
    have hm:=NX v hW hx
    obtain⟨da,ha⟩:=Cz.st x hm
    refine⟨_,rfl,ad x.key,_,da,_,_,rfl,ha,T.aC,T.bJ,rfl,_,rfl,rfl,_,rfl,?_⟩
    have KZ:WS.Well (upTo v (e6 n st.said) i st):=WS.yz hW v _
    obtain⟨QS,NY⟩:=Cz.turn KZ hm ha v
    rw[<- NW v hx] at NY
    rw[i8 hx]
    by_cases c1:x.on=v
    ·rw[decide_eq_true (show V.bl x.on=V.bl v by rw[c1])]
     refine aZ ?_
     rw[if_neg (by simp[c1]),append_nil]
     have e:WS.gk v x=x:=by rw[<- c1];rfl
     rw[e] at NY
     have e2:upd H' (ad x.key) (.ins A.a5 da (AN x))=H':=by
      funext b
      by_cases q:b=ad x.key
      ·subst q;rw[ah,ha]
      ·rw[aw q]
     rw[e2] at NY
     exact⟨_,QS,rfl,m,NY⟩
    ·rw[decide_eq_false (show ¬V.bl x.on=V.bl v by intro q;injection q with q;exact c1 q)]
     refine aS ?_
     rw[if_pos (by simp[c1])]
     refine⟨_,rfl,_,rfl,ad x.key,_,da,_,rfl,ha,T.aC,T.bJ,(by show 7<1000;decide),?_⟩
     refine⟨_,rfl,_,_,rfl,rfl,?_⟩
     refine⟨some (V.ref (ad x.key)),QS,?_,m.trans (Keeps.NT ha),NY⟩
     rw[length_append]
     rfl
   ·rintro σ H' ⟨v5,ff,rfl,m,Cz⟩
    rw[length_map,Pu v n hW] at Cz
    rw[length_map,take_length]
    refine⟨_,rfl,zl2,fun q hq=>?_⟩
    exact kk _ q d ad ff (Cz.same (aq.new hq)) (((Keeps.of_same s1).trans m).trans (Keeps.of_same (aq.new hq))) (((Keeps.of_same s1).trans m).fresh (sD.of hq)) ah
def mi (s:State) (name:Str) (ns:List Int) (r:Option (State×List Int)):Prop:=
 (name="begin"/\∃n:Nat,ns=[(n:Int)]/\r=some (⟨n,[]⟩,[0]))\/
 (name="say"/\∃x:Said,x.on=true/\ns=[(x.key:Int),(x.who:Int),(x.a:Int),(x.b:Int),x.lo,x.hi]/\r=some (ph s x))\/
 (name="take"/\∃n:Nat,ns=[(n:Int)]/\r=some (oneAt s n false))\/
 (name="give"/\∃n:Nat,ns=[(n:Int)]/\r=some (oneAt s n true))\/
 (name="drop"/\∃n:Nat,ns=[(n:Int)]/\r=some (allAt s n false))\/
 (name="trust"/\∃n:Nat,ns=[(n:Int)]/\r=some (allAt s n true))\/
 ((name ≠ "begin"/\name ≠ "say"/\name ≠ "take"/\name ≠ "give"/\name ≠ "drop"/\name ≠ "trust")/\r=none)
def C8 (A:aW):Sp:=fun vs H Q _=>∃(k d ln:Addr) (s:State) (ad:Nat->Addr) (ks:List Said) (name:Str) (ns:List Int) (r:Option (State×List Int)),vs=[.ref k,.str name,.ref ln]/\bR A H k d s ad ks/\WS.Well s/\cH H ln ns/\mi s name ns r/\
 (∀r',r=some r'->Ends A H k r' Q)/\(r=none->Q .bE H)
theorem C9:aJ ["kept","name","numbers"] ["kept","name","numbers"] (ay qt):=by refine⟨rfl,rfl,rfl,?_,rfl,?_,?_⟩ <;> decide +kernel
theorem C_ (T:Txt K mg A):aY P w K mg base bF 4 A.iH A.gX ["kept","name","numbers"] (C8 A):=by
 refine T.d7.ok C9 (fun vs H Q E h=>?_) (fun bg Ar outer s H vs Q E hr h=>?_)
 ·obtain⟨k,d,ln,s,ad,ks,name,ns,r,rfl,_⟩:=h
  rfl
 ·obtain⟨k,d,ln,st,ad,ks,name,ns,r,rfl,hK,hW,hL,hC,k1,k0⟩:=h
  have vR:H ln=some (.lst (ns.map V.int)):=hL
  refine⟨_,(ae (aP (aO bZ (pv 1) cF (aU _)) (ao (ax (aA (Pr T) (hr.mono (by decide:1<=3)) rfl T.Ku T.oh.kp T.Kt .nil aF (aa (pv 0) (aa (bf aN (pv 2) aH (fun _ _=>rfl)) ag))))) aI)
   (ae (aP (aO bZ (pv 1) cF (aU _)) (ao (ax (aA (Ug T) (hr.mono (by decide:2<=3)) rfl T.Q0 T.uG.kp T.QZ .nil aF (aa (pv 0) (aa (rJ T.lC (uj T) (hr.mono (by decide:2<=3)) rfl T.w8 T.pA .nil aF (aa (bf aN (pv 2) aH (fun _ _=>rfl)) (aa (bf aN (pv 2) aH (fun _ _=>rfl)) (aa (bf aN (pv 2) aH (fun _ _=>rfl)) (aa (bf aN (pv 2) aH (fun _ _=>rfl)) (aa (bf aN (pv 2) aH (fun _ _=>rfl)) (aa (bf aN (pv 2) aH (fun _ _=>rfl)) ag))))))) ag))))) aI)
   (ae (aP (aO bZ (pv 1) cF (aU _)) (ao (ax (aA (Ew T) (hr.mono (by decide:1<=3)) rfl T.Ax T.i6.kp T.Aw .nil aF (aa (pv 0) (aa (bf aN (pv 2) aH (fun _ _=>rfl)) (aa iG ag)))))) aI)
   (ae (aP (aO bZ (pv 1) cF (aU _)) (ao (ax (aA (Ew T) (hr.mono (by decide:1<=3)) rfl T.Ax T.i6.kp T.Aw .nil aF (aa (pv 0) (aa (bf aN (pv 2) aH (fun _ _=>rfl)) (aa iG ag)))))) aI)
   (ae (aP (aO bZ (pv 1) cF (aU _)) (ao (ax (aA (Ex T) (hr.mono (by decide:3<=3)) rfl T.Az T.i7.kp T.Ay .nil aF (aa (pv 0) (aa (bf aN (pv 2) aH (fun _ _=>rfl)) (aa iG ag)))))) aI)
   (ae (aP (aO bZ (pv 1) cF (aU _)) (ao (ax (aA (Ex T) (hr.mono (by decide:3<=3)) rfl T.Az T.i7.kp T.Ay .nil aF (aa (pv 0) (aa (bf aN (pv 2) aH (fun _ _=>rfl)) (aa iG ag)))))) aI)
   (ao (ax iu)))))))),?_⟩
  rcases hC with ⟨rfl,n,rfl,rfl⟩|⟨rfl,x,ho,rfl,rfl⟩|⟨rfl,n,rfl,rfl⟩|⟨rfl,n,rfl,rfl⟩|⟨rfl,n,rfl,rfl⟩|⟨rfl,n,rfl,rfl⟩|⟨⟨n1,n2,n3,n4,n5,n6⟩,rfl⟩
  ·refine⟨_,rfl,rfl,_,rfl,bC ?_⟩
   exact⟨_,rfl,_,rfl,ln,_,_,_,rfl,rfl,aE.of vR,a_ (j:=0) rfl,k,d,st,ad,ks,n,rfl,hK,k1 _ rfl⟩
  ·refine⟨_,rfl,rfl,_,rfl,aB (by decide +kernel) ?_⟩
   refine⟨_,rfl,rfl,_,rfl,bC ?_⟩
   refine⟨_,rfl,_,rfl,ln,_,_,_,rfl,rfl,aE.of vR,a_ (j:=0) rfl,_,rfl,ln,_,_,_,rfl,rfl,aE.of vR,a_ (j:=1) rfl,_,rfl,ln,_,_,_,rfl,rfl,aE.of vR,a_ (j:=2) rfl,_,rfl,ln,_,_,_,rfl,rfl,aE.of vR,a_ (j:=3) rfl,_,rfl,ln,_,_,_,rfl,rfl,aE.of vR,a_ (j:=4) rfl,_,rfl,ln,_,_,_,rfl,rfl,aE.of vR,a_ (j:=5) rfl,?_⟩
   intro x1 d1 n1 m1 e1
   refine⟨x1,d1,x,rfl,ho,ah,fun H2 c2 b2=>⟨rfl,?_⟩⟩
   have s2:aq H H2:=aq.made n1 m1 b2
   refine⟨k,d,x1,st,ad,ks,x,rfl,hK.same s2,hW,⟨d1,c2⟩,fun y hy q=>?_,(k1 _ rfl).after (Keeps.of_same s2)⟩
   obtain⟨dy,IE⟩:=hK.st y hy
   rw[q,n1] at IE
   cases IE
  ·refine⟨_,rfl,rfl,_,rfl,aB (by decide +kernel) ?_⟩
   refine⟨_,rfl,rfl,_,rfl,aB (by decide +kernel) ?_⟩
   refine⟨_,rfl,rfl,_,rfl,bC ?_⟩
   exact⟨_,rfl,_,rfl,ln,_,_,_,rfl,rfl,aE.of vR,a_ (j:=0) rfl,k,d,st,ad,ks,n,_,rfl,hK,hW,k1 _ rfl⟩
  ·refine⟨_,rfl,rfl,_,rfl,aB (by decide +kernel) ?_⟩
   refine⟨_,rfl,rfl,_,rfl,aB (by decide +kernel) ?_⟩
   refine⟨_,rfl,rfl,_,rfl,aB (by decide +kernel) ?_⟩
   refine⟨_,rfl,rfl,_,rfl,bC ?_⟩
   exact⟨_,rfl,_,rfl,ln,_,_,_,rfl,rfl,aE.of vR,a_ (j:=0) rfl,k,d,st,ad,ks,n,_,rfl,hK,hW,k1 _ rfl⟩
  ·refine⟨_,rfl,rfl,_,rfl,aB (by decide +kernel) ?_⟩
   refine⟨_,rfl,rfl,_,rfl,aB (by decide +kernel) ?_⟩
   refine⟨_,rfl,rfl,_,rfl,aB (by decide +kernel) ?_⟩
   refine⟨_,rfl,rfl,_,rfl,aB (by decide +kernel) ?_⟩
   refine⟨_,rfl,rfl,_,rfl,bC ?_⟩
   exact⟨_,rfl,_,rfl,ln,_,_,_,rfl,rfl,aE.of vR,a_ (j:=0) rfl,k,d,st,ad,ks,n,_,rfl,hK,hW,k1 _ rfl⟩
  ·refine⟨_,rfl,rfl,_,rfl,aB (by decide +kernel) ?_⟩
   refine⟨_,rfl,rfl,_,rfl,aB (by decide +kernel) ?_⟩
   refine⟨_,rfl,rfl,_,rfl,aB (by decide +kernel) ?_⟩
   refine⟨_,rfl,rfl,_,rfl,aB (by decide +kernel) ?_⟩
   refine⟨_,rfl,rfl,_,rfl,aB (by decide +kernel) ?_⟩
   refine⟨_,rfl,rfl,_,rfl,bC ?_⟩
   exact⟨_,rfl,_,rfl,ln,_,_,_,rfl,rfl,aE.of vR,a_ (j:=0) rfl,k,d,st,ad,ks,n,_,rfl,hK,hW,k1 _ rfl⟩
  ·refine⟨_,rfl,rfl,_,rfl,aB n1 ?_⟩
   refine⟨_,rfl,rfl,_,rfl,aB n2 ?_⟩
   refine⟨_,rfl,rfl,_,rfl,aB n3 ?_⟩
   refine⟨_,rfl,rfl,_,rfl,aB n4 ?_⟩
   refine⟨_,rfl,rfl,_,rfl,aB n5 ?_⟩
   refine⟨_,rfl,rfl,_,rfl,aB n6 ?_⟩
   exact k0 rfl
def Told (H:Hp) (Q:VK) (l:List Int):Prop:=∀(H':Hp) (p:Addr),aq H H'->H p=none->cH H' p l->Q (.ref p) H'
theorem Told.after {H H1:Hp} {Q:VK} {l:List Int} (h:Told H Q l) (s:aq H H1):Told H1 Q l:=fun H' p s1 hf hp=>h H' p (s.trans s1) (s.free hf) hp
theorem Told.new {H:Hp} {Q:VK} {l:List Int} (h:Told H Q l) {p:Addr} (hp:H p=none):Q (.ref p) (upd H p (.lst (l.map V.int))):=h _ p (aq.new hp) hp ah
def Uh (A:aW):Sp:=fun vs H Q _=>∃(n:Nat) (le:Addr) (es:List Edge),vs=[.int n,.ref le]/\a7 A H le es/\WS.bB n es/\0<n/\n<=100/\Told H Q [Vbedac.bit (Vbedac.fit n es)]
theorem Ui:aJ ["n","edges"] ["n","edges"] (ay LR):=by refine⟨rfl,rfl,rfl,?_,rfl,?_,?_⟩ <;> decide +kernel
theorem Uj (T:Txt K mg A):aY P w K mg base bF 4 A.BJ A.xH ["n","edges"] (Uh A):=by
 refine T.uK.ok Ui (fun vs H Q E h=>?_) (fun bg Ar outer s H vs Q E hr h=>?_)
 ·obtain⟨n,le,es,rfl,_⟩:=h
  rfl
 ·obtain⟨n,le,es,rfl,hE,hN,h0,hz,k⟩:=h
  refine⟨_,(ao (ax (aR (aa (aA (iV T) (hr.mono (by decide:1<=3)) rfl T.iB T.cy.kp T.iA .nil aF (aa (aA (cP T) (hr.mono (by decide:3<=3)) rfl T.cE T.bu.kp T.cD .nil aF (aa (pv 0) (aa (pv 1) ag))) ag)) ag)))),?_⟩
  refine⟨_,rfl,_,rfl,n,le,es,rfl,hE,hN,h0,by omega,fun H1 s1=>?_⟩
  exact⟨_,rfl,zl1,fun p hp=>(k.after s1).new hp⟩
def nN (n:Nat) (es:List Edge):List Int:=match Vbedac.ring n es with
 | none=>[0]
 | some (i,x,l)=>1::Vbedac.nat i::x::Vbedac.pairs l
theorem oC (l:List Said):(Vbedac.edgesIn l).length=2*l.length:=by
 induction l with
 | nil=>rfl
 | cons x l ih=>show (Vbedac.edgesOf x++Vbedac.edgesIn l).length=_;rw[length_append,ih];show 2+_=_;simp;omega
theorem CA {n:Nat} {es:List Edge}:∀(f k:Nat) {rows:List kT} {r:Nat×Nat×Int},Vbedac.ringFrom n es f k rows=some r->r.1<=k+f
 | 0,_,_,r,h=>by cases h
 | f+1,k,rows,r,h=>by
  unfold Vbedac.ringFrom at h
  dsimp only at h
  split at h
  ·cases h;dsimp only;omega
  ·have:=CA f (k+1) h;omega
theorem yY {n:Nat} {es:List Edge} {to:Nat}:∀(k i:Nat) (sum:Int),(Vbedac.wayOf n es to k i sum).length<=k
 | 0,_,_=>Nat.le_refl _
 | k+1,i,sum=>by
  show (match es.find? (WS.iW (WS.bk n es to k) i sum) with
   | none=>[]
   | some e=>e::Vbedac.wayOf n es to k e.dst (sum-e.w)).length<=k+1
  cases es.find? (WS.iW (WS.bk n es to k) i sum) with
  | none=>simp
  | some e=>have:=yY (n:=n) (es:=es) (to:=to) k e.dst (sum-e.w);simp;omega
theorem lF {n:Nat} {es:List Edge}:(WS.aQ n es).length<=n:=by
 unfold WS.aQ Vbedac.ring
 cases c:Vbedac.ringOf n es with
 | none=>simp
 | some r=>
  obtain⟨k,i,x⟩:=r
  have:=CA _ _ c
  have h2:=yY (n:=n) (es:=es) (to:=i) k i x
  dsimp only at this ⊢
  omega
def RV (A:aW):Sp:=fun vs H Q _=>∃(n:Nat) (le:Addr) (es:List Edge),vs=[.int n,.ref le]/\a7 A H le es/\WS.bB n es/\0<n/\n<=100/\Told H Q (nN n es)
theorem xZ:aJ ["n","edges","way","total","edge"] ["n","edges"] (ay Eh):=by refine⟨rfl,rfl,rfl,?_,rfl,?_,?_⟩ <;> decide +kernel
theorem RW (T:Txt K mg A):aY P w K mg base bF 5 A.xI A.uW ["n","edges"] (RV A):=by
 refine T.qE.ok xZ (fun vs H Q E h=>?_) (fun bg Ar outer s H vs Q E hr h=>?_)
 ·obtain⟨n,le,es,rfl,_⟩:=h
  rfl
 ·obtain⟨n,le,es,rfl,hE,hN,h0,hz,k⟩:=h
  refine⟨_,(ae (aG (i:=2) xZ.nd rfl (Or.inl rfl) (aA (qZ T) (hr.mono (by decide:4<=4)) rfl T.oY T.eL.kp T.oX .nil aF (aa (pv 0) (aa (pv 1) ag))))
   (ae (aP (aO bZ (bX bx (by rfl) T.d9 PySem.boot_len (aa (pv 2) ag)) aH (aU _)) (ao (ax (aR (aa aH ag)))) aI)
   (ae (aG (i:=3) xZ.nd rfl (Or.inl rfl) (bX (SO rfl) (by rfl) T.BK PyProof.Rows.boot_sum (aa (lZ rfl xZ.nd (bz (pv 2)) (c8 (N:=["n","edges","way","total","edge"]) (sc:=ay Eh) (own:=[("edge",4)]) (by decide +kernel)) (fun _ _ _ _ _=>(a6 (i:=4) xZ.nd rfl (Or.inl rfl))) (fun _ _ _ _ _=>ja) (fun _ _ _ _ _=>by exact(dQ (K:=K) rfl (pv 4) rfl))) ag)))
   (ao (ax (dM sJ (aR (aa aH (aa (aD (bf aN (pv 2) aH (fun _ _=>rfl)) rfl) (aa (pv 3) ag)))) (aA (Cy T) (hr.mono (by decide:1<=4)) rfl T.yP T.ie.kp T.yO .nil aF (aa (pv 2) ag)))))))),?_⟩
  refine⟨_,rfl,_,rfl,n,le,es,rfl,hE,hN,h0,hz,fun H1 p1 s1 hW=>?_⟩
  obtain⟨as,hl,hA⟩:=id hW
  have hlen:as.length=(WS.aQ n es).length:=hA.1
  have hle:(WS.aQ n es).length<=n:=lF
  refine⟨_,rfl,p1,_,rfl,.inl (aE.of hl),rfl,_,rfl,?_⟩
  rw[length_map,hlen]
  cases c:Vbedac.ring n es with
  | none=>
   have e:=(WS.jJ hN).mpr c
   refine nJ (by rw[e];rfl) ?_
   have e2:nN n es=[0]:=by unfold nN;rw[c]
   rw[e2] at k
   exact⟨zl1,fun p hp=>(k.after s1).new hp⟩
  | some r=>
   obtain⟨i,x,l⟩:=r
   have e:WS.aQ n es=l:=by unfold WS.aQ;rw[c]
   rw[e] at hA hlen hle hW ⊢
   have e2:nN n es=1::Vbedac.nat i::x::Vbedac.pairs l:=by unfold nN;rw[c]
   rw[e2] at k
   obtain⟨⟨e0,r0,hl0,hsrc⟩,S9,_⟩:=WS.qm hN c
   have h9:¬((l.length:Nat):Int)=0:=by rw[hl0];simp;omega
   refine nL h9 ?_
   refine⟨_,rfl,p1,rfl,⟨_,aE.of hl⟩,fun D hD=>?_⟩
   refine fQ (K:=K) (a:=p1) (xs:=as.map V.ref) (fun j H'=>aq H1 H'/\cH H' D ((l.take j).map fun e=>e.w))
    ⟨aq.new hD,ah⟩ (fun j H' _ ⟨s2,_⟩=>aE.of (s2 _ _ hl)) ?_ ?_
   ·rintro j y H' hj ⟨s2,dq⟩
    obtain⟨a,ha,rfl⟩:=bh hj
    obtain⟨e',vp,dx,hd⟩:=hA.get ha
    refine⟨rfl,jm (aS ?_)⟩
    refine⟨_,rfl,a,_,dx,_,_,rfl,s2 _ _ hd,T.bw,T.cZ,rfl,?_⟩
    refine⟨_,dq,(by rw[length_map,length_map,length_take,sizeLine_eq];omega),aq.but s2 hD bA.upd,?_⟩
    rw[take_snoc vp,map_append]
    exact ints_snoc
   ·rintro H2 ⟨s2,dq⟩
    rw[length_map,hlen,take_length] at dq
    refine⟨D,_,rfl,aE.of dq,?_⟩
    rw[S9]
    obtain⟨a0,ha0,d0,hd0⟩:=hA.at_ (i:=0) (x:=e0) (by rw[hl0];rfl)
    refine⟨_,rfl,p1,_,_,_,rfl,rfl,aE.of (s2 _ _ hl),a_ (j:=0) (nI ha0),a0,_,d0,_,_,rfl,s2 _ _ hd0,T.bw,T.cK,rfl,_,rfl,zl3,fun q hq=>?_⟩
    have s3:aq H2 (upd H2 q (.lst [.int 1,.int e0.src,.int x])):=aq.new hq
    refine⟨_,rfl,p1,l,rfl,bj hW (s2.trans s3),by omega,fun H4 p4 s4 zE=>?_⟩
    refine⟨q,p4,_,_,rfl,rfl,s4 _ _ ah,zE,?_,fun z lM=>?_⟩
    ·have gS:(Vbedac.pairs l).length=1+2*l.length:=by unfold Vbedac.pairs;rw[length_cons,q_];omega
     rw[sizeLine_eq,length_map,gS]
     simp;omega
    ·refine k _ z (((s1.trans s2).trans (s3.trans s4)).trans (aq.new lM)) (((s1.trans s2).trans (s3.trans s4)).free lM) ?_
     show upd _ _ _ _=_
     rw[ah,<- hsrc]
     rfl
def ef (n:Nat) (es:List Edge) (l:List Int):List Int:=if Vbedac.fit n es=true then l else [-8]
theorem di (x:Option Int):(Vbedac.open_ x).length=2:=by cases x <;> rfl
def NZ (A:aW):Sp:=fun vs H Q _=>∃(n:Nat) (le:Addr) (a b:Nat) (es:List Edge),vs=[.int n,.ref le,.int a,.int b]/\a7 A H le es/\WS.bB n es/\a<n/\b<n/\n<=100/\
 Told H Q (ef n es (Vbedac.open_ (Vbedac.neg (Vbedac.reach n es b a))++Vbedac.open_ (Vbedac.reach n es a b)))
theorem A1:aJ ["n","edges","a","b","back","there"] ["n","edges","a","b"] (ay C4):=by refine⟨rfl,rfl,rfl,?_,rfl,?_,?_⟩ <;> decide +kernel
theorem N0 (T:Txt K mg A):aY P w K mg base bF 5 A.rZ A.pT ["n","edges","a","b"] (NZ A):=by
 refine T.md.ok A1 (fun vs H Q E h=>?_) (fun bg Ar outer s H vs Q E hr h=>?_)
 ·obtain⟨n,le,a,b,es,rfl,_⟩:=h
  rfl
 ·obtain⟨n,le,a,b,es,rfl,hE,hN,ha,hb,hz,k⟩:=h
  refine⟨_,(ae (aP (kZ (fz (aA (cP T) (hr.mono (by decide:3<=4)) rfl T.cE T.bu.kp T.cD .nil aF (aa (pv 0) (aa (pv 1) ag))))) (ao (ax (aR (aa (bU (v:=.int (-8)) rfl T.gh ⟨_,rfl⟩) ag)))) aI)
   (ae (aG (i:=4) A1.nd rfl (Or.inl rfl) (aA (fM T) (hr.mono (by decide:4<=4)) rfl T.fB T.bY.kp T.fA .nil aF (aa (pv 0) (aa (pv 1) (aa (pv 3) (aa (pv 2) ag))))))
   (ae (aG (i:=5) A1.nd rfl (Or.inl rfl) (aA (fM T) (hr.mono (by decide:4<=4)) rfl T.fB T.bY.kp T.fA .nil aF (aa (pv 0) (aa (pv 1) (aa (pv 2) (aa (pv 3) ag))))))
   (ao (ax (dM sJ (aA (q0 T) (hr.mono (by decide:1<=4)) rfl T.mW T.b9.kp T.mV .nil aF (aa (pv 4) ag)) (aA (tW T) (hr.mono (by decide:1<=4)) rfl T.qA T.eJ.kp T.qz .nil aF (aa (pv 5) ag)))))))),?_⟩
  refine⟨_,rfl,_,rfl,n,le,es,rfl,hE,hN,by omega,by omega,fun H1 s1=>⟨_,rfl,?_⟩⟩
  unfold ef at k
  cases c:Vbedac.fit n es with
  | false=>
   rw[c,if_neg Bool.false_ne_true] at k
   refine aS ?_
   exact⟨zl1,fun p hp=>(k.after s1).new hp⟩
  | true=>
   rw[c,if_pos rfl] at k
   have hG:=(WS.gC hN).mp c
   refine aZ ?_
   have KS:=bj hE s1
   refine⟨_,rfl,_,rfl,_,rfl,_,rfl,n,le,b,a,es,rfl,KS,hN,hG,hb,ha,by omega,fun H2 s2=>?_⟩
   refine⟨_,rfl,_,rfl,_,rfl,_,rfl,n,le,a,b,es,rfl,bj KS s2,hN,hG,ha,hb,by omega,fun H3 s3=>?_⟩
   refine⟨_,rfl,_,rfl,fun H4 p4 _ s4 h4=>?_⟩
   refine⟨_,rfl,_,rfl,fun H5 p5 _ s5 h5=>?_⟩
   refine⟨p4,p5,_,_,rfl,rfl,s5 _ _ h4,h5,?_,fun z lM=>?_⟩
   ·rw[length_map,length_map,di,di];decide
   ·refine k _ z ((((s1.trans s2).trans s3).trans (s4.trans s5)).trans (aq.new lM)) ((((s1.trans s2).trans s3).trans (s4.trans s5)).free lM) ?_
    show upd _ _ _ _=_
    rw[ah,map_append]
theorem p0 {α:Type} {f:α->List Int} {l:List α} {i:Nat} {x:α} (h:l[i]?=some x):(l.take (i+1)).flatMap f=(l.take i).flatMap f++f x:=by
 rw[take_snoc h,List.flatMap_append];simp
theorem pG {α:Type} {f:α->List Int} (h:∀x,(f x).length=2) (l:List α):(l.flatMap f).length=2*l.length:=by
 induction l with
 | nil=>rfl
 | cons x l ih=>rw[List.flatMap_cons,length_append,ih,h,length_cons];omega
theorem vS {H:Hp} {q:Addr} {xs ys:List Int}:cH (upd H q (.lst (xs.map V.int++ys.map V.int))) q (xs++ys):=by
 show upd _ _ _ _=_
 rw[ah,map_append]
def Pw (A:aW):Sp:=fun vs H Q _=>∃(n:Nat) (le:Addr) (o:Nat) (es:List Edge),vs=[.int n,.ref le,.int o]/\a7 A H le es/\es.length<=10000/\WS.bB n es/\o<n/\n<=100/\
 Told H Q (ef n es ((Vbedac.events n).flatMap fun i=>Vbedac.open_ (Vbedac.neg (Vbedac.reach n es i o))))
theorem Dc:aJ ["n","edges","event","told","bound"] ["n","edges","event"] (ay Ff):=by refine⟨rfl,rfl,rfl,?_,rfl,?_,?_⟩ <;> decide +kernel
theorem Px (T:Txt K mg A):aY P w K mg base bF 5 A.uX A.r6 ["n","edges","event"] (Pw A):=by
 refine T.ou.ok Dc (fun vs H Q E h=>?_) (fun bg Ar outer s H vs Q E hr h=>?_)
 ·obtain⟨n,le,o,es,rfl,_⟩:=h
  rfl
 ·obtain⟨n,le,o,es,rfl,hE,hes,hN,ho,hz,k⟩:=h
  refine⟨_,(ae (aP (kZ (fz (aA (cP T) (hr.mono (by decide:3<=4)) rfl T.cE T.bu.kp T.cD .nil aF (aa (pv 0) (aa (pv 1) ag))))) (ao (ax (aR (aa (bU (v:=.int (-8)) rfl T.gh ⟨_,rfl⟩) ag)))) aI)
   (ae (aG (i:=3) Dc.nd rfl (Or.inl rfl) (aR ag))
   (ae (cq PassesOwn.never rfl (bz (aA (BW T) (hr.mono (by decide:4<=4)) rfl T.vF T.dE.kp T.vE .nil aF (aa (pv 0) (aa (pv 1) (aa (pv 2) ag))))) (a6 (i:=4) Dc.nd rfl (Or.inl rfl))
    (ao (cv (fG PySem.F.plainAttrs_list PySem.F.slot_list_extend PySem.F.type_list_extend lL (pv 3) (aa (aA (q0 T) (hr.mono (by decide:1<=4)) rfl T.mW T.b9.kp T.mV .nil aF (aa (pv 4) ag)) ag)))))
   (ao (ax (pv 3)))))),?_⟩
  refine⟨_,rfl,_,rfl,n,le,es,rfl,hE,hN,by omega,by omega,fun H1 s1=>⟨_,rfl,?_⟩⟩
  unfold ef at k
  cases c:Vbedac.fit n es with
  | false=>
   rw[c,if_neg Bool.false_ne_true] at k
   refine aS ?_
   exact⟨zl1,fun p hp=>(k.after s1).new hp⟩
  | true=>
   rw[c,if_pos rfl] at k
   have hG:=(WS.gC hN).mp c
   refine aZ ?_
   refine⟨zl0,fun q hq=>?_⟩
   have s2:aq H1 (upd H1 q (.lst [])):=aq.new hq
   refine⟨_,rfl,_,rfl,_,rfl,n,le,o,es,rfl,bj hE (s1.trans s2),hes,hN,hG,ho,by omega,fun H3 p3 s3 oJ=>?_⟩
   have hR:H3 p3=some (.lst (((Vbedac.events n).map fun j=>Vbedac.reach n es j o).map fD)):=oJ
   have NP:(Vbedac.events n).length=n:=by simp[Vbedac.events]
   refine⟨p3,rfl,⟨_,aE.of hR⟩,ck (K:=K) (a:=p3) (xs:=((Vbedac.events n).map fun j=>Vbedac.reach n es j o).map fD) (fun i σ H'=>∃v4,σ=[some (.int n),some (.ref le),some (.int o),some (.ref q),v4]/\aq H1 H'/\aq H3 (upd H3 q (.lst []))/\H' p3=some (.lst (((Vbedac.events n).map fun j=>Vbedac.reach n es j o).map fD))/\cH H' q (((Vbedac.events n).take i).flatMap fun i=>Vbedac.open_ (Vbedac.neg (Vbedac.reach n es i o))))
    ⟨none,rfl,s2.trans s3,?_,hR,s3 _ _ ah⟩ (fun i σ H' _ ⟨_,_,_,_,h,_⟩=>aE.of h) ?_ ?_⟩
   ·intro b u hb
    by_cases e:b=q
    ·subst e
     rw[s3 _ _ ah] at hb
     rw[ah];exact hb
    ·rw[aw e];exact hb
   ·rintro i y σ H' hi ⟨v4,rfl,s4,t4,zE,eC⟩
    rw[map_map] at hi
    obtain⟨j,hj,rfl⟩:=get_map hi
    have k4:i<n:=by
     have:=(List.getElem?_eq_some_iff.mp hj).1
     omega
    refine⟨_,rfl,.inl ⟨rfl,_,aE.of eC⟩,_,rfl,_,rfl,fun H5 p5 hf5 s5 h5=>?_⟩
    have kW:=s5 _ _ eC
    refine⟨q,p5,_,_,rfl,rfl,kW,h5,?_,?_⟩
    ·rw[length_map,length_map,pG (fun x=>di _),di,length_take,sizeLine_eq];omega
    ·have wF:p3≠q:=by
      intro e
      subst e
      have h6:=(s3 _ _ ah).symm.trans hR
      injection h6 with h6
      injection h6 with h6
      have h7:=congrArg List.length h6
      rw[length_map,length_map,NP] at h7
      simp at h7;omega
     refine⟨_,rfl,aq.but (s4.trans s5) hq bA.upd,t4,(by rw[aw wF];exact s5 _ _ zE),?_⟩
     rw[p0 hj]
     exact vS
   ·rintro σ H' ⟨v4,rfl,s4,t4,zE,eC⟩
    rw[length_map,length_map,take_length] at eC
    exact⟨_,rfl,k H' q (s1.trans s4) (s1.free hq) eC⟩
def RX (A:aW):Sp:=fun vs H Q _=>∃(n:Nat) (le:Addr) (o:Nat) (es:List Edge),vs=[.int n,.ref le,.int o]/\a7 A H le es/\WS.bB n es/\o<n/\n<=100/\
 Told H Q (ef n es ((Vbedac.within_ n es o n).flatMap Vbedac.open_))
theorem fN {n:Nat} {es:List Edge} {i k:Nat}:(Vbedac.within_ n es i k).length=n:=by rw[WS.iw,WS.eE WS.dP]
theorem Fi:aJ ["n","edges","event","told","bound"] ["n","edges","event"] (ay Ij):=by refine⟨rfl,rfl,rfl,?_,rfl,?_,?_⟩ <;> decide +kernel
theorem RY (T:Txt K mg A):aY P w K mg base bF 4 A.xJ A.uY ["n","edges","event"] (RX A):=by
 refine T.qF.ok Fi (fun vs H Q E h=>?_) (fun bg Ar outer s H vs Q E hr h=>?_)
 ·obtain⟨n,le,o,es,rfl,_⟩:=h
  rfl
 ·obtain⟨n,le,o,es,rfl,hE,hN,ho,hz,k⟩:=h
  refine⟨_,(ae (aP (kZ (fz (aA (cP T) (hr.mono (by decide:3<=3)) rfl T.cE T.bu.kp T.cD .nil aF (aa (pv 0) (aa (pv 1) ag))))) (ao (ax (aR (aa (bU (v:=.int (-8)) rfl T.gh ⟨_,rfl⟩) ag)))) aI)
   (ae (aG (i:=3) Fi.nd rfl (Or.inl rfl) (aR ag))
   (ae (cq PassesOwn.never rfl (bz (aA (jy T) (hr.mono (by decide:3<=3)) rfl T.iz T.bM.kp T.iy .nil aF (aa (pv 0) (aa (pv 1) (aa (pv 2) ag))))) (a6 (i:=4) Fi.nd rfl (Or.inl rfl))
    (ao (cv (fG PySem.F.plainAttrs_list PySem.F.slot_list_extend PySem.F.type_list_extend lL (pv 3) (aa (aA (tW T) (hr.mono (by decide:1<=3)) rfl T.qA T.eJ.kp T.qz .nil aF (aa (pv 4) ag)) ag)))))
   (ao (ax (pv 3)))))),?_⟩
  refine⟨_,rfl,_,rfl,n,le,es,rfl,hE,hN,by omega,by omega,fun H1 s1=>⟨_,rfl,?_⟩⟩
  unfold ef at k
  cases c:Vbedac.fit n es with
  | false=>
   rw[c,if_neg Bool.false_ne_true] at k
   refine aS ?_
   exact⟨zl1,fun p hp=>(k.after s1).new hp⟩
  | true=>
   rw[c,if_pos rfl] at k
   have hG:=(WS.gC hN).mp c
   refine aZ ?_
   refine⟨zl0,fun q hq=>?_⟩
   have s2:aq H1 (upd H1 q (.lst [])):=aq.new hq
   refine⟨_,rfl,_,rfl,_,rfl,n,le,o,es,rfl,bj hE (s1.trans s2),hN,hG,ho,by omega,fun H3 p3 s3 oJ=>?_⟩
   have hR:H3 p3=some (.lst ((Vbedac.within_ n es o n).map fD)):=oJ
   have wF:p3≠q:=by
    intro e
    subst e
    have h6:=(s3 _ _ ah).symm.trans hR
    injection h6 with h6
    injection h6 with h6
    have h7:=congrArg List.length h6
    rw[length_map,fN] at h7
    simp at h7;omega
   refine⟨p3,rfl,⟨_,aE.of hR⟩,ck (K:=K) (a:=p3) (xs:=(Vbedac.within_ n es o n).map fD) (fun i σ H'=>∃v4,σ=[some (.int n),some (.ref le),some (.int o),some (.ref q),v4]/\aq H1 H'/\H' p3=some (.lst ((Vbedac.within_ n es o n).map fD))/\cH H' q (((Vbedac.within_ n es o n).take i).flatMap Vbedac.open_))
    ⟨none,rfl,s2.trans s3,hR,s3 _ _ ah⟩ (fun i σ H' _ ⟨_,_,_,h,_⟩=>aE.of h) ?_ ?_⟩
   ·rintro i y σ H' hi ⟨v4,rfl,s4,zE,eC⟩
    obtain⟨x,hx,rfl⟩:=get_map hi
    have k4:i<n:=by
     have:=(List.getElem?_eq_some_iff.mp hx).1
     rw[fN] at this;exact this
    refine⟨_,rfl,.inl ⟨rfl,_,aE.of eC⟩,_,rfl,_,rfl,fun H5 p5 hf5 s5 h5=>?_⟩
    have kW:=s5 _ _ eC
    refine⟨q,p5,_,_,rfl,rfl,kW,h5,?_,?_⟩
    ·rw[length_map,length_map,pG (fun x=>di _),di,length_take,sizeLine_eq];omega
    ·refine⟨_,rfl,aq.but (s4.trans s5) hq bA.upd,(by rw[aw wF];exact s5 _ _ zE),?_⟩
     rw[p0 hx]
     exact vS
   ·rintro σ H' ⟨v4,rfl,s4,zE,eC⟩
    rw[length_map,take_length] at eC
    exact⟨_,rfl,k H' q (s1.trans s4) (s1.free hq) eC⟩
def si (n:Nat) (t:List Int):Bool:=decide (t.length=n)&&t.all fun x=>Vbedac.inR x (-Vbedac.FAR) Vbedac.FAR
def IF (A:aW):Sp:=fun vs H Q _=>∃(n:Nat) (l:Addr) (t:List Int),vs=[.int n,.ref l]/\cH H l t/\Q (.bl (si n t)) H
theorem A2:aJ ["n","row","time"] ["n","row"] (ay wY):=by refine⟨rfl,rfl,rfl,?_,rfl,?_,?_⟩ <;> decide +kernel
theorem IG (T:Txt K mg A):aY P w K mg base bF 1 A.mJ A.lx ["n","row"] (IF A):=by
 refine T.ij.ok A2 (fun vs H Q E h=>?_) (fun bg Ar outer s H vs Q E hr h=>?_)
 ·obtain⟨n,l,t,rfl,_⟩:=h
  rfl
 ·obtain⟨n,l,t,rfl,hL,k⟩:=h
  have vR:H l=some (.lst (t.map V.int)):=hL
  refine⟨_,(ae (aP (aO yn (bX bx (by rfl) T.d9 PySem.boot_len (aa (pv 1) ag)) (pv 0) (aU _)) (ao (ax iG)) aI)
   (ae (cq PassesOwn.never rfl (bz (pv 1)) (a6 (i:=2) A2.nd rfl (Or.inl rfl))
    (ao (aP (PW.pt (Bq (aO uu (pv 2) (mZ j_ (bU (v:=.int (1000000000000)) rfl T.gz ⟨_,rfl⟩)) (aU _)) (xn (aO yo (pv 2) (bU (v:=.int (1000000000000)) rfl T.gz ⟨_,rfl⟩) (aU _))))) (ao (ax iG)) aI)))
   (ao (ax iG)))),?_⟩
  refine⟨_,rfl,l,_,rfl,.inl (aE.of vR),_,rfl,rfl,_,rfl,?_⟩
  rw[length_map]
  unfold si at k
  by_cases c:t.length=n
  ·rw[decide_eq_true c,Bool.true_and] at k
   refine uL (by rw[c]) ?_
   refine⟨_,rfl,l,rfl,⟨_,aE.of vR⟩,ck (K:=K) (a:=l) (xs:=t.map V.int) (fun i σ H'=>∃v2,H'=H/\σ=[some (.int n),some (.ref l),v2]/\((t.take i).all fun x=>Vbedac.inR x (-Vbedac.FAR) Vbedac.FAR)=true)
    ⟨none,rfl,rfl,rfl⟩ (fun i σ H' _ ⟨_,e,_⟩=>by rw[e];exact aE.of vR) ?_ ?_⟩
   ·rintro i y σ H' hi ⟨v2,rfl,rfl,ha⟩
    obtain⟨x,hx,rfl⟩:=get_map hi
    have Uk:Vbedac.inR x (-Vbedac.FAR) Vbedac.FAR=false->(t.all fun x=>Vbedac.inR x (-Vbedac.FAR) Vbedac.FAR)=false:=by
     intro q
     rw[Bool.eq_false_iff]
     intro z
     have:=all_eq_true.mp z x (mem_of_getElem? hx)
     rw[q] at this;cases this
    refine⟨_,rfl,_,rfl,_,_,rfl,rfl,_,rfl,?_⟩
    by_cases c1:x < -1000000000000
    ·refine sf c1 ?_
     refine aS ?_
     rw[Uk (by unfold Vbedac.inR Vbedac.FAR;simp;omega)] at k
     exact k
    ·refine sg c1 ?_
     refine⟨_,rfl,_,_,rfl,rfl,_,rfl,?_⟩
     by_cases c2:x > 1000000000000
     ·refine sf c2 ?_
      rw[Uk (by unfold Vbedac.inR Vbedac.FAR;simp;omega)] at k
      exact k
     ·refine sg c2 ?_
      refine⟨_,rfl,rfl,?_⟩
      have bq:Vbedac.inR x (-Vbedac.FAR) Vbedac.FAR=true:=by
       unfold Vbedac.inR Vbedac.FAR
       rw[Bool.and_eq_true]
       exact⟨decide_eq_true (by omega),decide_eq_true (by omega)⟩
      rw[take_snoc hx,List.all_append,ha]
      simp[bq]
   ·rintro σ H' ⟨v2,rfl,rfl,ha⟩
    rw[length_map,take_length] at ha
    rw[ha] at k
    exact k
  ·rw[decide_eq_false c,Bool.false_and] at k
   refine uM (by omega) ?_
   exact k
def nO (n:Nat) (l:List Said) (t:List Int):List Int:=if si n t=false then [-2] else match l.find? fun x=>!Vbedac.holds t x with
 | none=>[0]
 | some x=>[1,Vbedac.nat x.key]
def Py (A:aW):Sp:=fun vs H Q _=>∃(n:Nat) (l r:Addr) (xs:List Said) (t:List Int),vs=[.int n,.ref l,.ref r]/\dN A H l xs/\cH H r t/\(∀x,x∈xs->x.a<n/\x.b<n)/\Told H Q (nO n xs t)
theorem N1 {t:List Int} {i:Nat} (h:i<t.length):z0 (t.map V.int) (i:Int)=some (.int (Vbedac.timeOf t i)):=a_ (by
 rw[getElem?_map,getElem?_eq_getElem h]
 unfold Vbedac.timeOf
 rw[getD_eq_getElem?_getD,getElem?_eq_getElem h];rfl)
theorem Dd:aJ ["n","statements","row","statement","passed"] ["n","statements","row"] (ay Fg):=by refine⟨rfl,rfl,rfl,?_,rfl,?_,?_⟩ <;> decide +kernel
theorem Pz (T:Txt K mg A):aY P w K mg base bF 2 A.uZ A.r8 ["n","statements","row"] (Py A):=by
 refine T.ow.ok Dd (fun vs H Q E h=>?_) (fun bg Ar outer s H vs Q E hr h=>?_)
 ·obtain⟨n,l,r,xs,t,rfl,_⟩:=h
  rfl
 ·obtain⟨n,l,r,xs,t,rfl,⟨as,hl,hA⟩,hR,ej,k⟩:=h
  have jB:H r=some (.lst (t.map V.int)):=hR
  refine⟨_,(ae (aP (kZ (fz (aA (IG T) (hr.mono (by decide:1<=1)) rfl T.Cp T.ij.kp T.Co .nil aF (aa (pv 0) (aa (pv 2) ag))))) (ao (ax (aR (aa (bU (v:=.int (-2)) rfl T.kI ⟨_,rfl⟩) ag)))) aI)
   (ae (cq PassesOwn.never rfl (bz (pv 1)) (a6 (i:=3) Dd.nd rfl (Or.inl rfl))
    (ae (aG (i:=4) Dd.nd rfl (Or.inl rfl) (dM zV (bf aN (pv 2) (aD (pv 3) rfl) (fun _ _=>rfl)) (bf aN (pv 2) (aD (pv 3) rfl) (fun _ _=>rfl))))
   (ao (aP (PW.pt (Bq (aO uu (pv 4) (aD (pv 3) rfl) (aU _)) (xn (aO yo (pv 4) (aD (pv 3) rfl) (aU _))))) (ao (ax (aR (aa aH (aa (aD (pv 3) rfl) ag))))) aI))))
   (ao (ax (aR (aa aH ag)))))),?_⟩
  refine⟨_,rfl,_,rfl,n,r,t,rfl,hR,_,rfl,?_⟩
  unfold nO at k
  cases c:si n t with
  | false=>
   rw[c,if_pos rfl] at k
   refine aS ?_
   exact⟨zl1,fun p hp=>k.new hp⟩
  | true=>
   rw[c,if_neg (by simp)] at k
   refine aZ ?_
   have hlen:t.length=n:=by
    unfold si at c
    rw[Bool.and_eq_true] at c
    exact of_decide_eq_true c.1
   refine⟨_,rfl,l,rfl,⟨_,aE.of hl⟩,ck (K:=K) (a:=l) (xs:=as.map V.ref) (fun i σ H'=>∃v3 v4,H'=H/\σ=[some (.int n),some (.ref l),some (.ref r),v3,v4]/\((xs.take i).find? fun x=>!Vbedac.holds t x)=none)
    ⟨none,none,rfl,rfl,rfl⟩ (fun i σ H' _ ⟨_,_,e,_⟩=>by rw[e];exact aE.of hl) ?_ ?_⟩
   ·rintro i y σ H' hi ⟨v3,v4,rfl,rfl,hn⟩
    obtain⟨a,ha,rfl⟩:=bh hi
    obtain⟨x,hx,dx,hd⟩:=hA.get ha
    have hm:=ej x (mem_of_getElem? hx)
    refine⟨_,rfl,_,rfl,a,_,dx,_,_,rfl,hd,T.aC,T.cx,rfl,r,_,_,_,rfl,rfl,aE.of jB,N1 (by omega),?_⟩
    refine⟨_,rfl,_,rfl,a,_,dx,_,_,rfl,hd,T.aC,T.cw,rfl,r,_,_,_,rfl,rfl,aE.of jB,N1 (by omega),_,_,rfl,rfl,?_⟩
    refine⟨_,rfl,_,rfl,a,_,dx,_,_,rfl,hd,T.aC,T.c_,rfl,_,_,rfl,rfl,_,rfl,?_⟩
    have N2:(!Vbedac.holds t x)=true->∀p,H' p=none->Q (.ref p) (upd H' p (.lst [.int 1,.int x.key])):=by
     intro hp p t9
     rw[BL hx hn hp] at k
     exact k.new t9
    by_cases c1:Vbedac.timeOf t x.b-Vbedac.timeOf t x.a<x.lo
    ·refine sf c1 ?_
     refine aS ?_
     refine⟨_,rfl,a,_,dx,_,_,rfl,hd,T.aC,T.bp,rfl,zl2,fun p hp=>N2 ?_ p hp⟩
     unfold Vbedac.holds;simp;omega
    ·refine sg c1 ?_
     refine⟨_,rfl,_,rfl,a,_,dx,_,_,rfl,hd,T.aC,T.df,rfl,_,_,rfl,rfl,_,rfl,?_⟩
     by_cases c2:Vbedac.timeOf t x.b-Vbedac.timeOf t x.a > x.hi
     ·refine sf c2 ?_
      refine⟨_,rfl,a,_,dx,_,_,rfl,hd,T.aC,T.bp,rfl,zl2,fun p hp=>N2 ?_ p hp⟩
      unfold Vbedac.holds;simp;omega
     ·refine sg c2 ?_
      refine⟨_,_,rfl,rfl,lX hx hn ?_⟩
      unfold Vbedac.holds;simp;omega
   ·rintro σ H' ⟨v3,v4,rfl,rfl,hn⟩
    rw[length_map,hA.1,take_length] at hn
    rw[hn] at k
    exact⟨zl1,fun p hp=>k.new hp⟩
def PB (A:aW):Sp:=fun vs H Q _=>∃(n:Nat) (le:Addr) (o:Nat) (es:List Edge),vs=[.int n,.ref le,.int o]/\a7 A H le es/\WS.bB n es/\WS.Af es/\o<n/\n<=24/\
 Told H Q (ef n es (Vbedac.shown n es o))
theorem IH:aJ ["n","edges","event","times"] ["n","edges","event"] (ay Fh):=by refine⟨rfl,rfl,rfl,?_,rfl,?_,?_⟩ <;> decide +kernel
theorem PD (T:Txt K mg A):aY P w K mg base bF 4 A.u0 A.r9 ["n","edges","event"] (PB A):=by
 refine T.ox.ok IH (fun vs H Q E h=>?_) (fun bg Ar outer s H vs Q E hr h=>?_)
 ·obtain⟨n,le,o,es,rfl,_⟩:=h
  rfl
 ·obtain⟨n,le,o,es,rfl,hE,hN,hS,ho,hz,k⟩:=h
  refine⟨_,(ae (aP (kZ (fz (aA (cP T) (hr.mono (by decide:3<=3)) rfl T.cE T.bu.kp T.cD .nil aF (aa (pv 0) (aa (pv 1) ag))))) (ao (ax (aR (aa (bU (v:=.int (-8)) rfl T.gh ⟨_,rfl⟩) ag)))) aI)
   (ae (aG (i:=3) IH.nd rfl (Or.inl rfl) (dM z6 (aR (aa (bU (v:=.int (1000000000000)) rfl T.cU ⟨_,rfl⟩) ag)) (pv 0)))
   (ae (zT aH (zS (pv 3) (pv 2) set_list))
   (ae (cv (aA (AO T) (hr.mono (by decide:2<=3)) rfl T.yN T.jt.kp T.yM .nil aF (aa (pv 1) (aa (pv 3) ag))))
   (ao (ax (pv 3))))))),?_⟩
  refine⟨_,rfl,_,rfl,n,le,es,rfl,hE,hN,by omega,by omega,fun H1 s1=>⟨_,rfl,?_⟩⟩
  unfold ef at k
  cases c:Vbedac.fit n es with
  | false=>
   rw[c,if_neg Bool.false_ne_true] at k
   refine aS ?_
   exact⟨zl1,fun p hp=>(k.after s1).new hp⟩
  | true=>
   rw[c,if_pos rfl] at k
   have hG:=(WS.gC hN).mp c
   refine aZ ?_
   refine⟨zl1,fun l1 jA=>?_⟩
   refine⟨_,rfl,l1,_,_,rfl,rfl,ah,(by omega),(by omega),(by show 1*_<=sizeLine;rw[sizeLine_eq];omega),fun l2 jo=>?_⟩
   have s2:aq H1 (upd H1 l1 (.lst [.int 1000000000000])):=aq.new jA
   refine⟨_,rfl,_,rfl,l2,_,_,o,rfl,rfl,ah,(by rw[pY,length_replicate];exact vN ho),?_⟩
   rw[Bn]
   have hR:d_ (upd (upd H1 l1 (.lst [.int 1000000000000])) l2 (.lst ((List.replicate ((n:Int)).toNat [V.int 1000000000000]).flatten.set o (.int 0)))) l2 (WS.gj n o):=by
    show upd _ _ _ _=_
    rw[ah,pY]
    show some (HO.lst ((List.replicate n (fD (some Vbedac.FAR))).set o (.int 0)))=_
    rw[xW,kU]
    rfl
   have s3:aq (upd H1 l1 (.lst [.int 1000000000000])) (upd (upd H1 l1 (.lst [.int 1000000000000])) l2 (.lst ((List.replicate ((n:Int)).toNat [V.int 1000000000000]).flatten.set o (.int 0)))):=aq.new jo
   have ke:=bj hE (s1.trans (s2.trans s3))
   have h9:le≠l2:=by
    obtain⟨as,h1,_⟩:=bj hE (s1.trans s2)
    exact aK h1 jo
   have hlen:(WS.gj n o).length=n:=WS.zg
   refine⟨_,rfl,_,rfl,le,l2,es,WS.gj n o,rfl,ke,hR,h9,by rw[hlen];exact hN,by rw[hlen];omega,fun H' jB b=>?_⟩
   refine⟨_,rfl,k H' l2 (s1.trans (aq.but (s2.trans s3) (s2.free jo) b)) (s1.free (s2.free jo)) ?_⟩
   rw[hlen,WS.O0 hN hG hS ho hz] at jB
   show H' l2=_
   rw[show H' l2=_ from jB,map_map]
   rfl
def wG (name:Str) (lk ln lr:Addr):List (Str×V):=[("name",.str name),("kinds",.ref lk),("numbers",.ref ln),("row",.ref lr)]
def CallAt (A:aW) (H:Hp) (c:Addr) (name:Str) (kinds:List Str) (ns row:List Int):Prop:=∃dc lk ln lr,H c=some (.ins A.d6 dc (wG name lk ln lr))/\H lk=some (.lst (kinds.map V.str))/\H ln=some (.lst (ns.map V.int))/\H lr=some (.lst (row.map V.int))
theorem CallAt.same {A:aW} {H H':Hp} {c:Addr} {name:Str} {kinds:List Str} {ns row:List Int} (h:CallAt A H c name kinds ns row) (s:aq H H'):CallAt A H' c name kinds ns row:=by
 obtain⟨dc,lk,ln,lr,h1,h2,h3,h4⟩:=h
 exact⟨dc,lk,ln,lr,s _ _ h1,s _ _ h2,s _ _ h3,s _ _ h4⟩
theorem LZ {A:aW} {dc:Addr} {name:Str} {lk ln lr:Addr}:Other A (.ins A.d6 dc (wG name lk ln lr)):=by
 refine⟨?_,?_,?_⟩
 ·intro dx n d h
  injection h with h1 h2 h3
  have:=congrArg List.length h3
  cases this
 ·intro dx x h
  injection h with h1 h2 h3
  have:=congrArg List.length h3
  cases this
 ·intro kvs h
  cases h
theorem bR.wH {A:aW} {H:Hp} {k d:Addr} {s:State} {ad:Nat->Addr} {ks:List Said} (h:bR A H k d s ad ks) {p:Addr} {xs:List Said} (hp:pD H p ad xs) (hx:∀x,x∈xs->x∈s.said):dN A H p xs:=Pl hp fun x hm=>h.st x (hx x hm)
theorem o5 {s:State} (h:WS.Well s):(Vbedac.standing s).length<=100:=Nat.le_trans (length_filter_le _ _) h.xx
theorem De {s:State} (h:WS.Well s):(Vbedac.edges s).length<=200:=by
 have:=o5 h
 unfold Vbedac.edges
 rw[oC];omega
def i4 (s:State) (name:Str) (ns row:List Int) (r:Option (List Int)):Prop:=
 (name="fit"/\r=some [Vbedac.bit (Vbedac.fit s.n (Vbedac.edges s))])\/
 (name="ring"/\r=some (nN s.n (Vbedac.edges s)))\/
 (name="bounds"/\∃a b:Nat,ns=[(a:Int),(b:Int)]/\a<s.n/\b<s.n/\r=some (ef s.n (Vbedac.edges s) (Vbedac.open_ (Vbedac.neg (Vbedac.reach s.n (Vbedac.edges s) b a))++Vbedac.open_ (Vbedac.reach s.n (Vbedac.edges s) a b))))\/
 (name="early"/\∃o:Nat,ns=[(o:Int)]/\o<s.n/\r=some (ef s.n (Vbedac.edges s) ((Vbedac.events s.n).flatMap fun i=>Vbedac.open_ (Vbedac.neg (Vbedac.reach s.n (Vbedac.edges s) i o)))))\/
 (name="late"/\∃o:Nat,ns=[(o:Int)]/\o<s.n/\r=some (ef s.n (Vbedac.edges s) ((Vbedac.within_ s.n (Vbedac.edges s) o s.n).flatMap Vbedac.open_)))\/
 (name="tried"/\r=some (nO s.n (Vbedac.standing s) row))\/
 (name="shown"/\∃o:Nat,ns=[(o:Int)]/\o<s.n/\r=some (ef s.n (Vbedac.edges s) (Vbedac.shown s.n (Vbedac.edges s) o)))\/
 ((name ≠ "fit"/\name ≠ "ring"/\name ≠ "bounds"/\name ≠ "early"/\name ≠ "late"/\name ≠ "tried"/\name ≠ "shown")/\r=none)
def A3 (A:aW):Sp:=fun vs H Q _=>∃(k d c:Addr) (s:State) (ad:Nat->Addr) (ks:List Said) (name:Str) (kinds:List Str) (ns row:List Int) (r:Option (List Int)),vs=[.ref k,.ref c]/\bR A H k d s ad ks/\WS.Well s/\CallAt A H c name kinds ns row/\i4 s name ns row r/\
 (∀l,r=some l->Told H Q l)/\(r=none->∀H',aq H H'->Q .bE H')
theorem iE:aJ ["kept","call","n","numbers","statements","edges"] ["kept","call"] (ay oR):=by refine⟨rfl,rfl,rfl,?_,rfl,?_,?_⟩ <;> decide +kernel
theorem A4 (T:Txt K mg A):aY P w K mg base bF 6 A.gL A.fW ["kept","call"] (A3 A):=by
 refine T.cY.ok iE (fun vs H Q E h=>?_) (fun bg Ar outer s H vs Q E hr h=>?_)
 ·obtain⟨k,d,c,s,ad,ks,name,kinds,ns,row,r,rfl,_⟩:=h
  rfl
 ·obtain⟨k,d,c,st,ad,ks,name,kinds,ns,row,r,rfl,hK,hW,hC,hQ,k1,k0⟩:=h
  obtain⟨dx,br⟩:=hK.ob
  obtain⟨dc,lk,ln,lr,hc,_,hn,aT⟩:=id hC
  refine⟨_,(ae (aG (i:=2) iE.nd rfl (Or.inl rfl) (aD (pv 0) rfl))
   (ae (aG (i:=3) iE.nd rfl (Or.inl rfl) (aD (pv 1) rfl))
   (ae (aG (i:=4) iE.nd rfl (Or.inl rfl) (gi (pv 0) T.ba T.bP (eD T) (hr.mono (by decide:2<=5)) T.dC .nil aF))
   (ae (aG (i:=5) iE.nd rfl (Or.inl rfl) (aA (gQ T) (hr.mono (by decide:3<=5)) rfl T.gq T.cg.kp T.gp .nil aF (aa (pv 4) ag)))
   (ae (aP (aO bZ (aD (pv 1) rfl) cF (aU _)) (ao (ax (aA (Uj T) (hr.mono (by decide:4<=5)) rfl T.Q9 T.uK.kp T.Q8 .nil aF (aa (pv 2) (aa (pv 5) ag))))) aI)
   (ae (aP (aO bZ (aD (pv 1) rfl) cF (aU _)) (ao (ax (aA (RW T) (hr.mono (by decide:5<=5)) rfl T.NH T.qE.kp T.NG .nil aF (aa (pv 2) (aa (pv 5) ag))))) aI)
   (ae (aP (aO bZ (aD (pv 1) rfl) cF (aU _)) (ao (ax (aA (N0 T) (hr.mono (by decide:5<=5)) rfl T.Iq T.md.kp T.Ip .nil aF (aa (pv 2) (aa (pv 5) (aa (bf aN (pv 3) aH (fun _ _=>rfl)) (aa (bf aN (pv 3) aH (fun _ _=>rfl)) ag))))))) aI)
   (ae (aP (aO bZ (aD (pv 1) rfl) cF (aU _)) (ao (ax (aA (Px T) (hr.mono (by decide:5<=5)) rfl T.KJ T.ou.kp T.KI .nil aF (aa (pv 2) (aa (pv 5) (aa (bf aN (pv 3) aH (fun _ _=>rfl)) ag)))))) aI)
   (ae (aP (aO bZ (aD (pv 1) rfl) cF (aU _)) (ao (ax (aA (RY T) (hr.mono (by decide:4<=5)) rfl T.NJ T.qF.kp T.NI .nil aF (aa (pv 2) (aa (pv 5) (aa (bf aN (pv 3) aH (fun _ _=>rfl)) ag)))))) aI)
   (ae (aP (aO bZ (aD (pv 1) rfl) cF (aU _)) (ao (ax (aA (Pz T) (hr.mono (by decide:2<=5)) rfl T.KN T.ow.kp T.KL .nil aF (aa (pv 2) (aa (pv 4) (aa (aD (pv 1) rfl) ag)))))) aI)
   (ae (aP (aO bZ (aD (pv 1) rfl) cF (aU _)) (ao (ax (aA (PD T) (hr.mono (by decide:4<=5)) rfl T.KP T.ox.kp T.KO .nil aF (aa (pv 2) (aa (pv 5) (aa (bf aN (pv 3) aH (fun _ _=>rfl)) ag)))))) aI)
   (ao (ax iu))))))))))))),?_⟩
  refine⟨_,rfl,k,_,_,_,_,rfl,br,T.ba,T.cn,rfl,?_⟩
  refine⟨_,rfl,c,_,_,_,_,rfl,hc,T.az,T.bo,rfl,?_⟩
  refine⟨_,rfl,k,dx,_,rfl,br,rfl,k,d,st,ad,ks,rfl,hK,hW,fun H1 p1 s1 h1=>?_⟩
  have gc:dN A H1 p1 (Vbedac.standing st):=(hK.same s1).wH h1 fun x hx=>(WS.bQ hx).1
  refine⟨_,rfl,p1,Vbedac.standing st,rfl,gc,by have:=o5 hW;omega,fun H2 p2 s2 ke=>?_⟩
  have hE:a7 A H2 p2 (Vbedac.edges st):=ke
  have fi:=s1.trans s2
  have fZ:=fi _ _ hc
  have B8:=fi _ _ hn
  have sT:=fi _ _ aT
  have hN:=hW.Ki
  have h2:=hW.n2
  have Ul:=hW.D1
  have Ic:=De hW
  rcases hQ with ⟨rfl,rfl⟩|⟨rfl,rfl⟩|⟨rfl,a,b,rfl,ha,hb,rfl⟩|⟨rfl,o,rfl,ho,rfl⟩|⟨rfl,o,rfl,ho,rfl⟩|⟨rfl,rfl⟩|⟨rfl,o,rfl,ho,rfl⟩|⟨⟨n1,n2,n3,n4,n5,n6,n7⟩,rfl⟩
  ·refine⟨_,rfl,c,_,dc,_,_,rfl,fZ,T.az,T.au,rfl,rfl,_,rfl,bC ?_⟩
   exact⟨_,rfl,_,rfl,st.n,p2,_,rfl,hE,hN,by omega,by omega,(k1 _ rfl).after fi⟩
  ·refine⟨_,rfl,c,_,dc,_,_,rfl,fZ,T.az,T.au,rfl,rfl,_,rfl,aB (by decide +kernel) ?_⟩
   refine⟨_,rfl,c,_,dc,_,_,rfl,fZ,T.az,T.au,rfl,rfl,_,rfl,bC ?_⟩
   exact⟨_,rfl,_,rfl,st.n,p2,_,rfl,hE,hN,by omega,by omega,(k1 _ rfl).after fi⟩
  ·refine⟨_,rfl,c,_,dc,_,_,rfl,fZ,T.az,T.au,rfl,rfl,_,rfl,aB (by decide +kernel) ?_⟩
   refine⟨_,rfl,c,_,dc,_,_,rfl,fZ,T.az,T.au,rfl,rfl,_,rfl,aB (by decide +kernel) ?_⟩
   refine⟨_,rfl,c,_,dc,_,_,rfl,fZ,T.az,T.au,rfl,rfl,_,rfl,bC ?_⟩
   exact⟨_,rfl,_,rfl,_,rfl,ln,_,_,_,rfl,rfl,aE.of B8,a_ (j:=0) rfl,_,rfl,ln,_,_,_,rfl,rfl,aE.of B8,a_ (j:=1) rfl,st.n,p2,a,b,_,rfl,hE,hN,ha,hb,by omega,(k1 _ rfl).after fi⟩
  ·refine⟨_,rfl,c,_,dc,_,_,rfl,fZ,T.az,T.au,rfl,rfl,_,rfl,aB (by decide +kernel) ?_⟩
   refine⟨_,rfl,c,_,dc,_,_,rfl,fZ,T.az,T.au,rfl,rfl,_,rfl,aB (by decide +kernel) ?_⟩
   refine⟨_,rfl,c,_,dc,_,_,rfl,fZ,T.az,T.au,rfl,rfl,_,rfl,aB (by decide +kernel) ?_⟩
   refine⟨_,rfl,c,_,dc,_,_,rfl,fZ,T.az,T.au,rfl,rfl,_,rfl,bC ?_⟩
   exact⟨_,rfl,_,rfl,_,rfl,ln,_,_,_,rfl,rfl,aE.of B8,a_ (j:=0) rfl,st.n,p2,o,_,rfl,hE,by omega,hN,ho,by omega,(k1 _ rfl).after fi⟩
  ·refine⟨_,rfl,c,_,dc,_,_,rfl,fZ,T.az,T.au,rfl,rfl,_,rfl,aB (by decide +kernel) ?_⟩
   refine⟨_,rfl,c,_,dc,_,_,rfl,fZ,T.az,T.au,rfl,rfl,_,rfl,aB (by decide +kernel) ?_⟩
   refine⟨_,rfl,c,_,dc,_,_,rfl,fZ,T.az,T.au,rfl,rfl,_,rfl,aB (by decide +kernel) ?_⟩
   refine⟨_,rfl,c,_,dc,_,_,rfl,fZ,T.az,T.au,rfl,rfl,_,rfl,aB (by decide +kernel) ?_⟩
   refine⟨_,rfl,c,_,dc,_,_,rfl,fZ,T.az,T.au,rfl,rfl,_,rfl,bC ?_⟩
   exact⟨_,rfl,_,rfl,_,rfl,ln,_,_,_,rfl,rfl,aE.of B8,a_ (j:=0) rfl,st.n,p2,o,_,rfl,hE,hN,ho,by omega,(k1 _ rfl).after fi⟩
  ·refine⟨_,rfl,c,_,dc,_,_,rfl,fZ,T.az,T.au,rfl,rfl,_,rfl,aB (by decide +kernel) ?_⟩
   refine⟨_,rfl,c,_,dc,_,_,rfl,fZ,T.az,T.au,rfl,rfl,_,rfl,aB (by decide +kernel) ?_⟩
   refine⟨_,rfl,c,_,dc,_,_,rfl,fZ,T.az,T.au,rfl,rfl,_,rfl,aB (by decide +kernel) ?_⟩
   refine⟨_,rfl,c,_,dc,_,_,rfl,fZ,T.az,T.au,rfl,rfl,_,rfl,aB (by decide +kernel) ?_⟩
   refine⟨_,rfl,c,_,dc,_,_,rfl,fZ,T.az,T.au,rfl,rfl,_,rfl,aB (by decide +kernel) ?_⟩
   refine⟨_,rfl,c,_,dc,_,_,rfl,fZ,T.az,T.au,rfl,rfl,_,rfl,bC ?_⟩
   exact⟨_,rfl,_,rfl,_,rfl,c,_,_,_,_,rfl,fZ,T.az,T.kG,rfl,st.n,p1,lr,_,row,rfl,mf gc s2,sT,fun x hx=>hW.ab x (WS.bQ hx).1,(k1 _ rfl).after fi⟩
  ·refine⟨_,rfl,c,_,dc,_,_,rfl,fZ,T.az,T.au,rfl,rfl,_,rfl,aB (by decide +kernel) ?_⟩
   refine⟨_,rfl,c,_,dc,_,_,rfl,fZ,T.az,T.au,rfl,rfl,_,rfl,aB (by decide +kernel) ?_⟩
   refine⟨_,rfl,c,_,dc,_,_,rfl,fZ,T.az,T.au,rfl,rfl,_,rfl,aB (by decide +kernel) ?_⟩
   refine⟨_,rfl,c,_,dc,_,_,rfl,fZ,T.az,T.au,rfl,rfl,_,rfl,aB (by decide +kernel) ?_⟩
   refine⟨_,rfl,c,_,dc,_,_,rfl,fZ,T.az,T.au,rfl,rfl,_,rfl,aB (by decide +kernel) ?_⟩
   refine⟨_,rfl,c,_,dc,_,_,rfl,fZ,T.az,T.au,rfl,rfl,_,rfl,aB (by decide +kernel) ?_⟩
   refine⟨_,rfl,c,_,dc,_,_,rfl,fZ,T.az,T.au,rfl,rfl,_,rfl,bC ?_⟩
   exact⟨_,rfl,_,rfl,_,rfl,ln,_,_,_,rfl,rfl,aE.of B8,a_ (j:=0) rfl,st.n,p2,o,_,rfl,hE,hN,hW.S_,ho,by omega,(k1 _ rfl).after fi⟩
  ·refine⟨_,rfl,c,_,dc,_,_,rfl,fZ,T.az,T.au,rfl,rfl,_,rfl,aB n1 ?_⟩
   refine⟨_,rfl,c,_,dc,_,_,rfl,fZ,T.az,T.au,rfl,rfl,_,rfl,aB n2 ?_⟩
   refine⟨_,rfl,c,_,dc,_,_,rfl,fZ,T.az,T.au,rfl,rfl,_,rfl,aB n3 ?_⟩
   refine⟨_,rfl,c,_,dc,_,_,rfl,fZ,T.az,T.au,rfl,rfl,_,rfl,aB n4 ?_⟩
   refine⟨_,rfl,c,_,dc,_,_,rfl,fZ,T.az,T.au,rfl,rfl,_,rfl,aB n5 ?_⟩
   refine⟨_,rfl,c,_,dc,_,_,rfl,fZ,T.az,T.au,rfl,rfl,_,rfl,aB n6 ?_⟩
   refine⟨_,rfl,c,_,dc,_,_,rfl,fZ,T.az,T.au,rfl,rfl,_,rfl,aB n7 ?_⟩
   exact k0 rfl H2 fi
def JN (A:aW):Sp:=fun vs H Q _=>∃(n:Nat) (le:Addr) (es:List Edge),vs=[.int n,.ref le]/\a7 A H le es/\WS.bB n es/\WS.bK es/\0<n/\n<=100/\
 ∀(H':Hp) (p:Addr),aq H H'->nE H' p (Vbedac.web n es)->Q (.ref p) H'
theorem rb {n:Nat} {es:List Edge}:(Vbedac.web n es).length=n:=by simp[Vbedac.web,Vbedac.events]
theorem BM {n:Nat} {es:List Edge} {i:Nat} (hi:i<n):(Vbedac.web n es)[i]?=some (Vbedac.within_ n es i n):=by
 unfold Vbedac.web Vbedac.events
 rw[getElem?_map,List.getElem?_range hi];rfl
theorem BN {n:Nat} {es:List Edge} {r:kT} (h:r∈Vbedac.web n es):r.length=n:=by
 unfold Vbedac.web at h
 obtain⟨g,_,rfl⟩:=mem_map.mp h
 exact fN
theorem xf:aJ ["n","edges","i"] ["n","edges"] (ay uC):=by refine⟨rfl,rfl,rfl,?_,rfl,?_,?_⟩ <;> decide +kernel
theorem CB (T:Txt K mg A):aY P w K mg base bF 4 A.n_ A.mH ["n","edges"] (JN A):=by
 refine T.ig.ok xf (fun vs H Q E h=>?_) (fun bg Ar outer s H vs Q E hr h=>?_)
 ·obtain⟨n,le,es,rfl,_⟩:=h
  rfl
 ·obtain⟨n,le,es,rfl,hE,hN,hG,h0,hz,k⟩:=h
  refine⟨_,(ao (ax (lZ rfl xf.nd (lK rfl T.hX (aa (pv 0) ag)) (c8 (N:=["n","edges","i"]) (sc:=ay uC) (own:=[("i",2)]) (by decide +kernel)) (fun _ _ _ _ _=>(a6 (i:=2) xf.nd rfl (Or.inl rfl))) (fun _ _ _ _ _=>ja) (fun _ _ _ _ _=>by exact(aA (jy T) (hr.mono (by decide:3<=3)) rfl T.iz T.bM.kp T.iy .nil aF (aa (pv 0) (aa (pv 1) (aa (pv 2) ag)))))))),?_⟩
  refine⟨_,rfl,_,rfl,by omega,by omega,fun D hD=>?_⟩
  refine CP (lo:=0) (n:=n) (fun i H'=>∃bs,aq H H'/\H' D=some (.lst (bs.map V.ref))/\bc (d_ H') bs ((Vbedac.web n es).take i))
   ⟨[],aq.new hD,ah,bc.nil⟩ ?_ ?_
  ·rintro i H' hi ⟨bs,s3,ui,hB⟩
   refine⟨rfl,jm (aS ?_)⟩
   rw[Int.zero_add]
   refine⟨_,rfl,_,rfl,_,rfl,n,le,i,es,rfl,bj hE s3,hN,hG,hi,by omega,fun H4 p4 s4 uh=>?_⟩
   have AX:=s4 _ _ ui
   obtain⟨g1,g2⟩:=yV AX (hB.imp fun a r hr=>s4 _ _ hr) uh (by rw[fN];exact h0) (fun r hr=>by rw[BN (List.mem_of_mem_take hr)];exact h0)
   refine⟨_,AX,(by rw[length_map,hB.1,length_take,rb,sizeLine_eq];omega),_,aq.but (s3.trans s4) hD bA.upd,g1,?_⟩
   rw[take_snoc (BM hi)]
   exact g2
  ·rintro H3 ⟨bs,s3,ui,hB⟩
   rw[List.take_of_length_le (by rw[rb];exact Nat.le_refl _)] at hB
   exact k H3 D s3 ⟨bs,ui,hB⟩
def atMost (x:Option Int) (m:Int):Bool:=match x with
 | none=>false
 | some b=>decide (b<=m)
def GS (A:aW):Sp:=fun vs H Q _=>∃(x:Option Int) (m:Int),vs=[fD x,.int m]/\Q (.bl (atMost x m)) H
theorem GU:aJ ["bound","number"] ["bound","number"] (ay vz):=by refine⟨rfl,rfl,rfl,?_,rfl,?_,?_⟩ <;> decide +kernel
theorem zF (T:Txt K mg A):aY P w K mg base bF 1 A.lq A.jV ["bound","number"] (GS A):=by
 refine T.fC.ok GU (fun vs H Q E h=>?_) (fun bg Ar outer s H vs Q E hr h=>?_)
 ·obtain⟨x,m,rfl,_⟩:=h
  rfl
 ·obtain⟨x,m,rfl,k⟩:=h
  refine⟨_,(ao (ax (Dv (u_ (pK (pv 0))) (va (rH G4 (pv 0) (pv 1) (aU _)))))),?_⟩
  refine⟨_,rfl,_,rfl,?_⟩
  cases x with
  | none=>exact aZ k
  | some b=>exact aS ⟨_,rfl,_,rfl,_,_,rfl,rfl,k⟩
theorem L0 (n:Nat) (es:List Edge) (a b:Nat) (lo hi:Int):Vbedac.follows n es a b lo hi=(atMost (Vbedac.reach n es a b) hi&&atMost (Vbedac.reach n es b a) (-lo)):=rfl
def Fj (A:aW):Sp:=fun vs H Q _=>∃(n:Nat) (le a:Addr) (es:List Edge) (x:Said),vs=[.int n,.ref le,.ref a]/\a7 A H le es/\jw A H a x/\WS.bB n es/\WS.bK es/\x.a<n/\x.b<n/\n<=100/\
 ∀H',aq H H'->Q (.bl (Vbedac.follows n es x.a x.b x.lo x.hi)) H'
theorem Fl:aJ ["n","edges","statement"] ["n","edges","statement"] (ay tL):=by refine⟨rfl,rfl,rfl,?_,rfl,?_,?_⟩ <;> decide +kernel
theorem x6 (T:Txt K mg A):aY P w K mg base bF 5 A.jW A.je ["n","edges","statement"] (Fj A):=by
 refine T.eN.ok Fl (fun vs H Q E h=>?_) (fun bg Ar outer s H vs Q E hr h=>?_)
 ·obtain⟨n,le,a,es,x,rfl,_⟩:=h
  rfl
 ·obtain⟨n,le,a,es,x,rfl,hE,⟨da,ha⟩,hN,hG,A5,A6,hz,k⟩:=h
  refine⟨_,(ae (aP (kZ (fz (aA (zF T) (hr.mono (by decide:1<=4)) rfl T.vH T.fC.kp T.vG .nil aF (aa (aA (fM T) (hr.mono (by decide:4<=4)) rfl T.fB T.bY.kp T.fA .nil aF (aa (pv 0) (aa (pv 1) (aa (aD (pv 2) rfl) (aa (aD (pv 2) rfl) ag))))) (aa (aD (pv 2) rfl) ag))))) (ao (ax iG)) aI)
   (ao (ax (aA (zF T) (hr.mono (by decide:1<=4)) rfl T.vH T.fC.kp T.vG .nil aF (aa (aA (fM T) (hr.mono (by decide:4<=4)) rfl T.fB T.bY.kp T.fA .nil aF (aa (pv 0) (aa (pv 1) (aa (aD (pv 2) rfl) (aa (aD (pv 2) rfl) ag))))) (aa (mZ j_ (aD (pv 2) rfl)) ag)))))),?_⟩
  refine⟨_,rfl,_,rfl,_,rfl,a,_,_,_,_,rfl,ha,T.aC,T.cw,rfl,_,rfl,a,_,_,_,_,rfl,ha,T.aC,T.cx,rfl,n,le,x.a,x.b,es,rfl,hE,hN,hG,A5,A6,by omega,fun H1 s1=>?_⟩
  have CC:=s1 _ _ ha
  refine⟨_,rfl,a,_,_,_,_,rfl,CC,T.aC,T.df,rfl,_,_,rfl,_,rfl,?_⟩
  rw[L0] at k
  cases c:atMost (Vbedac.reach n es x.a x.b) x.hi with
  | false=>
   rw[c,Bool.false_and] at k
   refine aS ?_
   exact k H1 s1
  | true=>
   rw[c,Bool.true_and] at k
   refine aZ ?_
   refine⟨_,rfl,_,rfl,_,rfl,a,_,_,_,_,rfl,CC,T.aC,T.cx,rfl,_,rfl,a,_,_,_,_,rfl,CC,T.aC,T.cw,rfl,n,le,x.b,x.a,es,rfl,bj hE s1,hN,hG,A6,A5,by omega,fun H2 s2=>?_⟩
   have Rk:=s2 _ _ CC
   exact⟨_,rfl,a,_,_,_,_,rfl,Rk,T.aC,T.c_,rfl,_,rfl,_,_,rfl,k H2 (s1.trans s2)⟩
def u7 (n:Nat) (es:List Edge) (a b:Nat):List Int:=match Vbedac.why n es a b with
 | none=>[0]
 | some (x,l)=>1::x::Vbedac.pairs l
def Um (A:aW):Sp:=fun vs H Q _=>∃(n:Nat) (le:Addr) (a b:Nat) (es:List Edge),vs=[.int n,.ref le,.int a,.int b]/\a7 A H le es/\WS.bB n es/\WS.bK es/\a<n/\b<n/\n<=100/\Told H Q (u7 n es a b)
theorem N3:aJ ["n","edges","a","b","bound"] ["n","edges","a","b"] (ay LP):=by refine⟨rfl,rfl,rfl,?_,rfl,?_,?_⟩ <;> decide +kernel
theorem Uo (T:Txt K mg A):aY P w K mg base bF 5 A.BH A.xF ["n","edges","a","b"] (Um A):=by
 refine T.uI.ok N3 (fun vs H Q E h=>?_) (fun bg Ar outer s H vs Q E hr h=>?_)
 ·obtain⟨n,le,a,b,es,rfl,_⟩:=h
  rfl
 ·obtain⟨n,le,a,b,es,rfl,hE,hN,hG,ha,hb,hz,k⟩:=h
  refine⟨_,(ae (aG (i:=4) N3.nd rfl (Or.inl rfl) (aA (fM T) (hr.mono (by decide:4<=4)) rfl T.fB T.bY.kp T.fA .nil aF (aa (pv 0) (aa (pv 1) (aa (pv 2) (aa (pv 3) ag))))))
   (ae (aP (d3 (gR (pv 4))) (ao (ax (aR (aa aH ag)))) aI)
   (ao (ax (dM sJ (aR (aa aH (aa (pv 4) ag))) (aA (Cy T) (hr.mono (by decide:1<=4)) rfl T.yP T.ie.kp T.yO .nil aF (aa (aA (BZ T) (hr.mono (by decide:3<=4)) rfl T.vD T.dD.kp T.vC .nil aF (aa (pv 0) (aa (pv 1) (aa (pv 2) (aa (pv 3) (aa (pv 4) ag)))))) ag))))))),?_⟩
  refine⟨_,rfl,_,rfl,_,rfl,_,rfl,n,le,a,b,es,rfl,hE,hN,hG,ha,hb,by omega,fun H1 s1=>?_⟩
  refine⟨_,rfl,_,rfl,?_⟩
  unfold u7 at k
  cases c:Vbedac.reach n es a b with
  | none=>
   rw[WS.O7 c] at k
   refine aS ?_
   exact⟨zl1,fun p hp=>(k.after s1).new hp⟩
  | some x=>
   obtain⟨kk,h1,h2,h3,h4⟩:=WS.O6 hN hG ha hb c
   rw[h4] at k
   refine aZ ?_
   refine⟨_,rfl,zl2,fun q hq=>?_⟩
   have s2:aq H1 (upd H1 q (.lst [.int 1,.int x])):=aq.new hq
   refine⟨_,rfl,_,rfl,_,rfl,_,rfl,_,rfl,le,n,a,b,kk,x,es,rfl,bj hE (s1.trans s2),hN,ha,hb,by omega,h1,h2,h3,fun H3 p3 s3 rd=>?_⟩
   have FZ:=yY (n:=n) (es:=es) (to:=b) kk a x
   refine⟨p3,_,rfl,rd,by omega,fun H4 p4 s4 zE=>?_⟩
   refine⟨q,p4,_,_,rfl,rfl,s4 _ _ (s3 _ _ ah),zE,?_,fun z lM=>?_⟩
   ·have gS:(Vbedac.pairs (Vbedac.wayOf n es b kk a x)).length=1+2*(Vbedac.wayOf n es b kk a x).length:=by unfold Vbedac.pairs;rw[length_cons,q_];omega
    rw[sizeLine_eq,length_map,gS]
    simp;omega
   ·refine k _ z (((s1.trans s2).trans (s3.trans s4)).trans (aq.new lM)) (((s1.trans s2).trans (s3.trans s4)).free lM) ?_
    show upd _ _ _ _=_
    rw[ah]
    rfl
def JO (A:aW):Sp:=fun vs H Q _=>∃(n:Nat) (le a:Addr) (l:List Said) (x:Said),vs=[.int n,.ref le,.ref a]/\a7 A H le (Vbedac.edgesIn l)/\jw A H a x/\WS.bB n (Vbedac.edgesIn l)/\WS.bK (Vbedac.edgesIn l)/\x.a<n/\x.b<n/\n<=100/\l.length<=1000/\
 Told H Q [Vbedac.bit (Vbedac.follows n (Vbedac.edgesIn (Vbedac.without l [x.key])) x.a x.b x.lo x.hi)]
theorem xg:aJ ["n","edges","statement","others","edge"] ["n","edges","statement"] (ay uD):=by refine⟨rfl,rfl,rfl,?_,rfl,?_,?_⟩ <;> decide +kernel
theorem JP (T:Txt K mg A):aY P w K mg base bF 6 A.oe A.mI ["n","edges","statement"] (JO A):=by
 refine T.iZ.ok xg (fun vs H Q E h=>?_) (fun bg Ar outer s H vs Q E hr h=>?_)
 ·obtain⟨n,le,a,l,x,rfl,_⟩:=h
  rfl
 ·obtain⟨n,le,a,l,x,rfl,⟨as,hl,hA⟩,hS,hN,hG,A5,A6,hz,hll,k⟩:=h
  obtain⟨da,ha⟩:=id hS
  refine⟨_,(ae (vf (i:=3) rfl xg.nd rfl rfl (xp rfl rfl rfl (by decide +kernel)) (bz (pv 1)) (c8 (N:=["n","edges","statement","others","edge"]) (sc:=ay uD) (own:=[("edge",4)]) (by decide +kernel)) (fun _ _ _ _ _=>(a6 (i:=4) xg.nd rfl (Or.inl rfl))) (fun _ _ _ _ _=>(rK (aO yn (dQ (K:=K) rfl (pv 4) rfl) (dQ (K:=K) rfl (pv 2) rfl) (aU _)))) (fun _ _ _ _ _=>by exact(pv 4)))
   (ao (ax (aR (aa (aA (iV T) (hr.mono (by decide:1<=5)) rfl T.iB T.cy.kp T.iA .nil aF (aa (aA (x6 T) (hr.mono (by decide:5<=5)) rfl T.tT T.eN.kp T.tS .nil aF (aa (pv 0) (aa (pv 3) (aa (pv 2) ag)))) ag)) ag))))),?_⟩
  refine⟨_,rfl,le,rfl,⟨_,aE.of hl⟩,fun D hD=>?_⟩
  refine fQ (K:=K) (a:=le) (xs:=as.map V.ref) (fun i H'=>∃bs,aq H H'/\H' D=some (.lst (bs.map V.ref))/\bc (fE A H') bs (((Vbedac.edgesIn l).take i).filter fun e=>!(e.key==x.key)))
   ⟨[],aq.new hD,ah,bc.nil⟩ (fun i H' _ ⟨_,s2,_⟩=>aE.of (s2 _ _ hl)) ?_ ?_
  ·rintro i y H' hi ⟨bs,s2,dq,hB⟩
   obtain⟨b,hb,rfl⟩:=bh hi
   obtain⟨e,he,de,hd⟩:=hA.get hb
   have dZ:=s2 _ _ hd
   have ha':=s2 _ _ ha
   have k4:i<(Vbedac.edgesIn l).length:=(List.getElem?_eq_some_iff.mp he).1
   rw[oC] at k4
   refine⟨rfl,_,rfl,b,_,_,_,_,rfl,dZ,T.bw,T.gn,rfl,_,rfl,a,_,_,_,_,rfl,ha',T.aC,T.bp,rfl,rfl,_,rfl,?_⟩
   rw[i8 he]
   by_cases c:e.key=x.key
   ·refine uL (by rw[c]) ?_
    rw[if_neg (by simp[c]),append_nil]
    exact⟨bs,s2,dq,hB⟩
   ·refine uM (by omega) ?_
    rw[if_pos (by simp[c])]
    obtain⟨g1,g2⟩:=pZ dq hB (x:=b) (e:=e) ⟨de,dZ⟩
    refine⟨_,rfl,_,dq,?_,_,aq.but s2 hD bA.upd,g1,g2⟩
    rw[length_map,hB.1,sizeLine_eq]
    have:=length_filter_le (fun e:Edge=>!(e.key==x.key)) ((Vbedac.edgesIn l).take i)
    rw[length_take,oC] at this
    omega
  ·rintro H2 ⟨bs,s2,dq,hB⟩
   rw[length_map,hA.1,take_length,WS.zj] at hB
   have oN:∀e,e∈Vbedac.edgesIn (Vbedac.without l [x.key])->e∈Vbedac.edgesIn l:=by
    intro e he
    rw[<- WS.zj] at he
    exact(mem_filter.mp he).1
   refine⟨_,rfl,_,rfl,_,rfl,n,D,a,_,x,rfl,⟨bs,dq,hB⟩,hS.same s2,fun e he=>hN e (oN e he),hG.mono oN,A5,A6,hz,fun H3 s3=>?_⟩
   exact⟨_,rfl,zl1,fun p hp=>(k.after (s2.trans s3)).new hp⟩
def PF (A:aW):Sp:=fun vs H Q _=>∃(n:Nat) (le a:Addr) (es:List Edge) (x:Said),vs=[.int n,.ref le,.ref a]/\a7 A H le es/\jw A H a x/\WS.bB n es/\WS.bK es/\x.a<n/\x.b<n/\n<=100/\es.length<=10000/\
 Told H Q [if Vbedac.follows n es x.a x.b x.lo x.hi=true then 1 else if Vbedac.fit n (es++Vbedac.edgesOf x)=true then 0 else 2]
theorem N4 {A:aW} {H:Hp} {l1 l2 p:Addr} {as bs:List Addr} {es fs:List Edge} (hp:H p=some (.lst (as.map V.ref++bs.map V.ref))) (h1:bc (fE A H) as es) (h2:bc (fE A H) bs fs):a7 A H p (es++fs):=by
 refine⟨as++bs,by rw[hp,map_append],by rw[length_append,length_append,h1.1,h2.1],fun i a e ha he=>?_⟩
 by_cases c:i<as.length
 ·rw[List.getElem?_append_left c] at ha
  rw[List.getElem?_append_left (by rw[<- h1.1];exact c)] at he
  exact h1.2 i a e ha he
 ·rw[List.getElem?_append_right (by omega)] at ha
  rw[List.getElem?_append_right (by rw[<- h1.1];omega),<- h1.1] at he
  exact h2.2 _ a e ha he
theorem PH:aJ ["n","edges","statement"] ["n","edges","statement"] (ay Fc):=by refine⟨rfl,rfl,rfl,?_,rfl,?_,?_⟩ <;> decide +kernel
theorem PJ (T:Txt K mg A):aY P w K mg base bF 6 A.uT A.rV ["n","edges","statement"] (PF A):=by
 refine T.om.ok PH (fun vs H Q E h=>?_) (fun bg Ar outer s H vs Q E hr h=>?_)
 ·obtain⟨n,le,a,es,x,rfl,_⟩:=h
  rfl
 ·obtain⟨n,le,a,es,x,rfl,hE,hS,hN,hG,A5,A6,hz,Ic,k⟩:=h
  refine⟨_,(ae (aP (fz (aA (x6 T) (hr.mono (by decide:5<=5)) rfl T.tT T.eN.kp T.tS .nil aF (aa (pv 0) (aa (pv 1) (aa (pv 2) ag))))) (ao (ax (aR (aa aH ag)))) aI)
   (ae (aP (fz (aA (cP T) (hr.mono (by decide:3<=5)) rfl T.cE T.bu.kp T.cD .nil aF (aa (pv 0) (aa (dM sJ (pv 1) (aA (gQ T) (hr.mono (by decide:3<=5)) rfl T.gq T.cg.kp T.gp .nil aF (aa (aR (aa (pv 2) ag)) ag))) ag)))) (ao (ax (aR (aa aH ag)))) aI)
   (ao (ax (aR (aa aH ag)))))),?_⟩
  refine⟨_,rfl,_,rfl,_,rfl,n,le,a,es,x,rfl,hE,hS,hN,hG,A5,A6,hz,fun H1 s1=>⟨_,rfl,?_⟩⟩
  cases c:Vbedac.follows n es x.a x.b x.lo x.hi with
  | true=>
   rw[c,if_pos rfl] at k
   refine aS ?_
   exact⟨zl1,fun p hp=>(k.after s1).new hp⟩
  | false=>
   rw[c,if_neg Bool.false_ne_true] at k
   refine aZ ?_
   refine⟨_,rfl,_,rfl,_,rfl,zl1,fun q hq=>?_⟩
   have s2:aq H1 (upd H1 q (.lst [.ref a])):=aq.new hq
   have Ak:dN A (upd H1 q (.lst [.ref a])) q [x]:=⟨[a],ah,bc.snoc (as:=[]) (xs:=[]) bc.nil (hS.same (s1.trans s2))⟩
   refine⟨q,[x],rfl,Ak,by show 1<=1000;decide,fun H3 p3 s3 rd=>?_⟩
   obtain⟨as,hl,hA⟩:=bj hE ((s1.trans s2).trans s3)
   obtain⟨bs,hl3,hB⟩:=rd
   refine⟨le,p3,_,_,rfl,rfl,hl,hl3,?_,fun z lM=>?_⟩
   ·rw[length_map,length_map,hA.1,hB.1,oC,sizeLine_eq]
    simp;omega
   ·have s4:=aq.new (o:=.lst (as.map V.ref++bs.map V.ref)) lM
    have Ra:=N4 (l1:=le) (l2:=p3) (A:=A) (H:=upd H3 z (.lst (as.map V.ref++bs.map V.ref))) (p:=z) ah (hA.imp fun _ _ h=>h.same s4) (hB.imp fun _ _ h=>h.same s4)
    have e:Vbedac.edgesIn [x]=Vbedac.edgesOf x:=by simp[Vbedac.edgesIn]
    rw[e] at Ra
    have hN4:WS.bB n (es++Vbedac.edgesOf x):=by
     intro e he
     rcases mem_append.mp he with he | he
     ·exact hN e he
     ·unfold Vbedac.edgesOf at he
      simp at he
      rcases he with rfl | rfl
      ·exact⟨A5,A6⟩
      ·exact⟨A6,A5⟩
    refine⟨n,z,_,rfl,Ra,hN4,by omega,by omega,fun H5 s5=>⟨_,rfl,?_⟩⟩
    have s15:=(((s1.trans s2).trans s3).trans s4).trans s5
    cases c2:Vbedac.fit n (es++Vbedac.edgesOf x) with
    | true=>
     rw[c2,if_pos rfl] at k
     refine aS ?_
     exact⟨zl1,fun p hp=>(k.after s15).new hp⟩
    | false=>
     rw[c2,if_neg Bool.false_ne_true] at k
     refine aZ ?_
     exact⟨zl1,fun p hp=>(k.after s15).new hp⟩
def PK (A:aW):Sp:=fun vs H Q _=>∃(n:Nat) (le a:Addr) (es:List Edge) (x:Said) (u v:Int),vs=[.int n,.ref le,.ref a]/\a7 A H le es/\jw A H a x/\WS.bB n es/\WS.bK es/\x.a<n/\x.b<n/\n<=100/\Vbedac.reach n es x.b x.a=some u/\Vbedac.reach n es x.a x.b=some v/\
 Told H Q [-u-x.lo,x.hi-v]
theorem Df:aJ ["n","edges","statement","least","greatest"] ["n","edges","statement"] (ay Fd):=by refine⟨rfl,rfl,rfl,?_,rfl,?_,?_⟩ <;> decide +kernel
theorem PL (T:Txt K mg A):aY P w K mg base bF 5 A.uU A.rW ["n","edges","statement"] (PK A):=by
 refine T.oo.ok Df (fun vs H Q E h=>?_) (fun bg Ar outer s H vs Q E hr h=>?_)
 ·obtain⟨n,le,a,es,x,u,v,rfl,_⟩:=h
  rfl
 ·obtain⟨n,le,a,es,x,u,v,rfl,hE,⟨da,ha⟩,hN,hG,A5,A6,hz,hu,hv,k⟩:=h
  refine⟨_,(ae (aG (i:=3) Df.nd rfl (Or.inl rfl) (mZ j_ (aA (fM T) (hr.mono (by decide:4<=4)) rfl T.fB T.bY.kp T.fA .nil aF (aa (pv 0) (aa (pv 1) (aa (aD (pv 2) rfl) (aa (aD (pv 2) rfl) ag)))))))
   (ae (aG (i:=4) Df.nd rfl (Or.inl rfl) (aA (fM T) (hr.mono (by decide:4<=4)) rfl T.fB T.bY.kp T.fA .nil aF (aa (pv 0) (aa (pv 1) (aa (aD (pv 2) rfl) (aa (aD (pv 2) rfl) ag))))))
   (ao (ax (aR (aa (dM zV (pv 3) (aD (pv 2) rfl)) (aa (dM zV (aD (pv 2) rfl) (pv 4)) ag))))))),?_⟩
  refine⟨_,rfl,_,rfl,_,rfl,a,_,_,_,_,rfl,ha,T.aC,T.cx,rfl,_,rfl,a,_,_,_,_,rfl,ha,T.aC,T.cw,rfl,n,le,x.b,x.a,es,rfl,hE,hN,hG,A6,A5,by omega,fun H1 s1=>?_⟩
  rw[hu]
  have CC:=s1 _ _ ha
  refine⟨_,rfl,?_⟩
  refine⟨_,rfl,_,rfl,_,rfl,a,_,_,_,_,rfl,CC,T.aC,T.cw,rfl,_,rfl,a,_,_,_,_,rfl,CC,T.aC,T.cx,rfl,n,le,x.a,x.b,es,rfl,bj hE s1,hN,hG,A5,A6,by omega,fun H2 s2=>?_⟩
  rw[hv]
  have Rk:=s2 _ _ CC
  exact⟨_,rfl,_,rfl,a,_,_,_,_,rfl,Rk,T.aC,T.c_,rfl,_,_,rfl,rfl,_,rfl,a,_,_,_,_,rfl,Rk,T.aC,T.df,rfl,_,rfl,_,_,rfl,rfl,zl2,fun p hp=>(k.after (s1.trans s2)).new hp⟩
def tx (n:Nat) (es:List Edge) (a b:Nat):List Int:=
 let hi:=Vbedac.reach n es a b
 let lo:=Vbedac.neg (Vbedac.reach n es b a)
 [Vbedac.bit ((lo.map fun x=>decide (x<0)).getD true),Vbedac.bit ((lo.map fun x=>decide (x<=0)).getD true&&(hi.map fun x=>decide (0<=x)).getD true),Vbedac.bit ((hi.map fun x=>decide (0<x)).getD true)]
def PM (A:aW):Sp:=fun vs H Q _=>∃(n:Nat) (le:Addr) (a b:Nat) (es:List Edge),vs=[.int n,.ref le,.int a,.int b]/\a7 A H le es/\WS.bB n es/\WS.bK es/\a<n/\b<n/\n<=100/\Told H Q (tx n es a b)
theorem sj:aJ ["n","edges","a","b","there","back","before","after","same"] ["n","edges","a","b"] (ay Fe):=by refine⟨rfl,rfl,rfl,?_,rfl,?_,?_⟩ <;> decide +kernel
theorem PN (T:Txt K mg A):aY P w K mg base bF 5 A.uV A.rY ["n","edges","a","b"] (PM A):=by
 refine T.oq.ok sj (fun vs H Q E h=>?_) (fun bg Ar outer s H vs Q E hr h=>?_)
 ·obtain⟨n,le,a,b,es,rfl,_⟩:=h
  rfl
 ·obtain⟨n,le,a,b,es,rfl,hE,hN,hG,ha,hb,hz,k⟩:=h
  refine⟨_,(ae (aG (i:=4) sj.nd rfl (Or.inl rfl) (aA (fM T) (hr.mono (by decide:4<=4)) rfl T.fB T.bY.kp T.fA .nil aF (aa (pv 0) (aa (pv 1) (aa (pv 2) (aa (pv 3) ag))))))
   (ae (aG (i:=5) sj.nd rfl (Or.inl rfl) (aA (fM T) (hr.mono (by decide:4<=4)) rfl T.fB T.bY.kp T.fA .nil aF (aa (pv 0) (aa (pv 1) (aa (pv 3) (aa (pv 2) ag))))))
   (ae (aG (i:=6) sj.nd rfl (Or.inl rfl) (G3 (u_ (gR (pv 5))) (va (rH uu (mZ j_ (pv 5)) aH (aU _)))))
   (ae (aG (i:=7) sj.nd rfl (Or.inl rfl) (G3 (u_ (gR (pv 4))) (va (rH yo (pv 4) aH (aU _)))))
   (ae (aG (i:=8) sj.nd rfl (Or.inl rfl) (Dv (G3 (u_ (gR (pv 5))) (va (rH G4 (mZ j_ (pv 5)) aH (aU _)))) (va (G3 (u_ (gR (pv 4))) (va (rH Qz (pv 4) aH (aU _)))))))
   (ao (ax (aR (aa (aA (iV T) (hr.mono (by decide:1<=4)) rfl T.iB T.cy.kp T.iA .nil aF (aa (pv 6) ag)) (aa (aA (iV T) (hr.mono (by decide:1<=4)) rfl T.iB T.cy.kp T.iA .nil aF (aa (pv 8) ag)) (aa (aA (iV T) (hr.mono (by decide:1<=4)) rfl T.iB T.cy.kp T.iA .nil aF (aa (pv 7) ag)) ag))))))))))),?_⟩
  refine⟨_,rfl,_,rfl,_,rfl,_,rfl,n,le,a,b,es,rfl,hE,hN,hG,ha,hb,by omega,fun H1 s1=>?_⟩
  refine⟨_,rfl,_,rfl,_,rfl,_,rfl,n,le,b,a,es,rfl,bj hE s1,hN,hG,hb,ha,by omega,fun H2 s2=>?_⟩
  have k2:=k.after (s1.trans s2)
  unfold tx at k2
  cases c1:Vbedac.reach n es b a with
  | none=>
   cases c2:Vbedac.reach n es a b with
   | none=>
    rw[c1,c2] at k2
    refine⟨_,rfl,_,rfl,aS ?_⟩
    refine⟨_,rfl,_,rfl,aS ?_⟩
    refine⟨_,rfl,_,rfl,aS ⟨_,rfl,aS ⟨_,rfl,_,rfl,aS ?_⟩⟩⟩
    exact⟨_,rfl,_,rfl,_,rfl,_,rfl,_,rfl,_,rfl,zl3,fun p hp=>k2.new hp⟩
   | some v=>
    rw[c1,c2] at k2
    refine⟨_,rfl,_,rfl,aS ?_⟩
    refine⟨_,rfl,_,rfl,aZ ⟨_,rfl,_,_,rfl,rfl,?_⟩⟩
    refine⟨_,rfl,_,rfl,aS ⟨_,rfl,aS ⟨_,rfl,_,rfl,aZ ⟨_,rfl,_,_,rfl,rfl,?_⟩⟩⟩⟩
    exact⟨_,rfl,_,rfl,_,rfl,_,rfl,_,rfl,_,rfl,zl3,fun p hp=>k2.new hp⟩
  | some u=>
   cases c2:Vbedac.reach n es a b with
   | none=>
    rw[c1,c2] at k2
    refine⟨_,rfl,_,rfl,aZ ⟨_,rfl,_,rfl,_,_,rfl,rfl,?_⟩⟩
    refine⟨_,rfl,_,rfl,aS ?_⟩
    refine⟨_,rfl,_,rfl,aZ ⟨_,rfl,_,rfl,_,_,rfl,rfl,_,rfl,?_⟩⟩
    by_cases d:-u<=0
    ·refine sf d ⟨_,rfl,_,rfl,aS ?_⟩
     have e:decide (-u<=0)=true:=decide_eq_true d
     refine⟨_,rfl,_,rfl,_,rfl,_,rfl,_,rfl,_,rfl,zl3,fun p hp=>?_⟩
     have:=k2.new hp
     dsimp only at this
     rw[show ((Vbedac.neg (some u)).map fun x=>decide (x<=0)).getD true=true from e] at this
     exact this
    ·refine sg d ?_
     have e:decide (-u<=0)=false:=decide_eq_false d
     refine⟨_,rfl,_,rfl,_,rfl,_,rfl,_,rfl,_,rfl,zl3,fun p hp=>?_⟩
     have:=k2.new hp
     dsimp only at this
     rw[show ((Vbedac.neg (some u)).map fun x=>decide (x<=0)).getD true=false from e] at this
     exact this
   | some v=>
    rw[c1,c2] at k2
    refine⟨_,rfl,_,rfl,aZ ⟨_,rfl,_,rfl,_,_,rfl,rfl,?_⟩⟩
    refine⟨_,rfl,_,rfl,aZ ⟨_,rfl,_,_,rfl,rfl,?_⟩⟩
    refine⟨_,rfl,_,rfl,aZ ⟨_,rfl,_,rfl,_,_,rfl,rfl,_,rfl,?_⟩⟩
    by_cases d:-u<=0
    ·refine sf d ⟨_,rfl,_,rfl,aZ ⟨_,rfl,_,_,rfl,rfl,?_⟩⟩
     have e:decide (-u<=0)=true:=decide_eq_true d
     refine⟨_,rfl,_,rfl,_,rfl,_,rfl,_,rfl,_,rfl,zl3,fun p hp=>?_⟩
     have:=k2.new hp
     dsimp only at this
     rw[show ((Vbedac.neg (some u)).map fun x=>decide (x<=0)).getD true=true from e] at this
     exact this
    ·refine sg d ?_
     have e:decide (-u<=0)=false:=decide_eq_false d
     refine⟨_,rfl,_,rfl,_,rfl,_,rfl,_,rfl,_,rfl,zl3,fun p hp=>?_⟩
     have:=k2.new hp
     dsimp only at this
     rw[show ((Vbedac.neg (some u)).map fun x=>decide (x<=0)).getD true=false from e] at this
     exact this
def bS (H:Hp) (a:Addr) (l:List Nat):Prop:=H a=some (.lst (l.map fun (n:Nat)=>V.int (n:Int)))
abbrev wI:=jx bS
theorem iF {H:Hp} {a q:Addr} {l:List Nat} {as:List Addr} (h:bS H a l) (hl:l≠[]) (hq:H q=some (.lst (as.map V.ref))):a≠q:=by
 refine dh h hq ?_
 intro z
 injection z with z
 cases l with
 | nil=>exact hl rfl
 | cons x l=>
  cases as with
  | nil=>cases z
  | cons b as=>
   simp only[map_cons,List.cons.injEq] at z
   cases z.1
theorem Gj {H:Hp} {q:Addr} {l:List Nat} {x:Nat}:bS (upd H q (.lst ((l.map fun (n:Nat)=>V.int (n:Int))++[V.int (x:Int)]))) q (l++[x]):=by
 show upd _ _ _ _=_
 rw[ah,map_append];rfl
def GV (A:aW):Sp:=fun vs H Q _=>∃(l:Addr) (n i j:Nat) (es:List Edge),vs=[.ref l,.int i,.int j]/\nE H l (Vbedac.web n es)/\i<n/\j<n/\Q (.bl (WS.rg n es i j)) H
theorem Up {n:Nat} {es:List Edge} {i j:Nat} (hi:i<n) (hj:j<n):WS.rg n es i j=(match Vbedac.reach n es i j,Vbedac.reach n es j i with
 | some x,some y=>decide (x+y=0)
 | _,_=>false):=by
 unfold WS.rg Vbedac.rigid
 rw[WS.vk hi,WS.vk hj]
 rfl
theorem tX:aJ ["web_of_all","i","j","there","back"] ["web_of_all","i","j"] (ay vA):=by refine⟨rfl,rfl,rfl,?_,rfl,?_,?_⟩ <;> decide +kernel
theorem GW (T:Txt K mg A):aY P w K mg base bF 1 A.lu A.jX ["web_of_all","i","j"] (GV A):=by
 refine T.gx.ok tX (fun vs H Q E h=>?_) (fun bg Ar outer s H vs Q E hr h=>?_)
 ·obtain⟨l,n,i,j,es,rfl,_⟩:=h
  rfl
 ·obtain⟨l,n,i,j,es,rfl,⟨as,hl,hA⟩,hi,hj,k⟩:=h
  obtain⟨ai,hai,hRi⟩:=hA.at_ (BM hi)
  obtain⟨aj,haj,II⟩:=hA.at_ (BM hj)
  refine⟨_,(ae (aG (i:=3) tX.nd rfl (Or.inl rfl) (bf aN (bf aN (pv 0) (pv 1) (fun _ _=>rfl)) (pv 2) (fun _ _=>rfl)))
   (ae (aG (i:=4) tX.nd rfl (Or.inl rfl) (bf aN (bf aN (pv 0) (pv 2) (fun _ _=>rfl)) (pv 1) (fun _ _=>rfl)))
   (ao (ax (Dv (u_ (pK (pv 3))) (Dv (u_ (pK (pv 4))) (va (rH bZ (dM nh (pv 3) (pv 4)) aH (aU _))))))))),?_⟩
  refine⟨_,rfl,_,rfl,l,_,_,_,rfl,rfl,aE.of hl,a_ (nI hai),_,rfl,ai,_,_,_,rfl,rfl,aE.of hRi,mr (by rw[fN];exact hj),?_⟩
  refine⟨_,rfl,_,rfl,l,_,_,_,rfl,rfl,aE.of hl,a_ (nI haj),_,rfl,aj,_,_,_,rfl,rfl,aE.of II,mr (by rw[fN];exact hi),?_⟩
  rw[Up hi hj] at k
  have e1:Vbedac.entry (Vbedac.within_ n es i n) j=Vbedac.reach n es i j:=rfl
  have e2:Vbedac.entry (Vbedac.within_ n es j n) i=Vbedac.reach n es j i:=rfl
  rw[e1,e2]
  refine⟨_,rfl,_,rfl,?_⟩
  cases c1:Vbedac.reach n es i j with
  | none=>
   rw[c1] at k
   exact aZ k
  | some x=>
   rw[c1] at k
   refine aS ⟨_,rfl,_,rfl,?_⟩
   cases c2:Vbedac.reach n es j i with
   | none=>
    rw[c2] at k
    exact aZ k
   | some y=>
    rw[c2] at k
    refine aS ⟨_,rfl,_,rfl,_,_,rfl,rfl,rfl,?_⟩
    have e:decide (V.int (x+y)=V.int 0)=decide (x+y=0):=by
     rw[Bool.eq_iff_iff];simp
    rw[e]
    exact k
theorem A7 {p:Nat->Bool} {i:Nat}:(List.range (i+1)).filter p=(List.range i).filter p++(if p i=true then [i] else []):=by
 rw[List.range_succ,List.filter_append,List.filter_cons]
 split <;> simp
def Ey (A:aW):Sp:=fun vs H Q _=>∃(l:Addr) (n:Nat) (es:List Edge),vs=[.ref l]/\nE H l (Vbedac.web n es)/\WS.bB n es/\WS.bK es/\n<=100/\
 ∀(H':Hp) (p:Addr),aq H H'->wI H' p (Vbedac.classesOf n (Vbedac.web n es))->Q (.ref p) H'
theorem fj:aJ ["web_of_all","n","placed","classes","i","members","member","j"] ["web_of_all"] (ay nY):=by refine⟨rfl,rfl,rfl,?_,rfl,?_,?_⟩ <;> decide +kernel
theorem Ez (T:Txt K mg A):aY P w K mg base bF 2 A.jf A.iJ ["web_of_all"] (Ey A):=by
 refine T.eX.ok fj (fun vs H Q E h=>?_) (fun bg Ar outer s H vs Q E hr h=>?_)
 ·obtain⟨l,n,es,rfl,_⟩:=h
  rfl
 ·obtain⟨l,n,es,rfl,hRs,hN,hG,hz,k⟩:=h
  obtain⟨as,hl,hA⟩:=id hRs
  refine⟨_,(ae (aG (i:=1) fj.nd rfl (Or.inl rfl) (bX bx (by rfl) T.d9 PySem.boot_len (aa (pv 0) ag)))
   (ae (aG (i:=2) fj.nd rfl (Or.inl rfl) CQ)
   (ae (aG (i:=3) fj.nd rfl (Or.inl rfl) (aR ag))
   (ae (cq PassesOwn.never rfl (lK rfl T.hX (aa (pv 1) ag)) (a6 (i:=4) fj.nd rfl (Or.inr rfl))
    (ae (aP (d3 (MP (kb hr) (pv 4) (pv 2))) (ao oU) aI)
   (ae (vf (i:=5) rfl fj.nd rfl rfl (xp rfl rfl rfl (by decide +kernel)) (Mw rfl T.hX (aa (pv 4) (aa (pv 1) ag))) (c8 (N:=["web_of_all","n","placed","classes","i","members","member","j"]) (sc:=ay nY) (own:=[("j",7)]) (by decide +kernel)) (fun _ _ _ _ _=>(a6 (i:=7) fj.nd rfl (Or.inl rfl))) (fun _ _ _ _ _=>(rK (fz (aA (GW T) (hr.mono (by decide:1<=1)) rfl T.AK T.gx.kp T.AJ .nil aF (aa (pv 0) (aa (pv 4) (aa (pv 7) ag))))))) (fun _ _ _ _ _=>by exact(pv 7)))
   (ae (cq PassesOwn.never rfl (bz (pv 5)) (a6 (i:=6) fj.nd rfl (Or.inl rfl))
    (ao (EV (kb hr) (pv 2) (pv 6) iG rfl)))
   (ao (cv (fG PySem.F.plainAttrs_list PySem.F.slot_list_append PySem.F.type_list_append dn (pv 3) (aa (pv 5) ag))))))))
   (ao (ax (pv 3))))))),?_⟩
  refine⟨_,rfl,l,_,rfl,.inl (aE.of hl),?_⟩
  rw[length_map,hA.1,rb]
  intro pd Em
  have s1:aq H (upd H pd (.dK [])):=aq.new Em
  refine⟨zl0,fun q hq=>?_⟩
  have s2:aq (upd H pd (.dK [])) (upd (upd H pd (.dK [])) q (.lst [])):=aq.new hq
  have xX:H q=none:=s1.free hq
  have wF:pd≠q:=aK ah hq
  refine⟨_,rfl,_,rfl,by omega,by omega,pL (lo:=0) (n:=n) (fun i σ H'=>∃v4 v5 v6 kvs cs,σ=[some (.ref l),some (.int n),some (.ref pd),some (.ref q),v4,v5,v6,none]/\aq H H'/\H' pd=some (.dK kvs)/\kvs.length<=100*i/\
    (∀j:Int,(dJ kvs (Sum.inl j)).isSome=true↔∃f,f<i/\WS.gD n es f=true/\∃m:Nat,j=m/\m∈WS.cls n es f)/\H' q=some (.lst (cs.map V.ref))/\bc (bS H') cs (((List.range i).filter (WS.gD n es)).map (WS.cls n es)))
   ⟨none,none,none,[],[],rfl,s1.trans s2,(by rw[aw wF];exact ah),Nat.zero_le _,(by intro j;simp[dJ]),ah,bc.nil⟩ ?_ ?_⟩
  ·rintro i σ H' hi ⟨v4,v5,v6,kvs,cs,rfl,s3,AS,DS,N5,ee,hC⟩
   rw[Int.zero_add]
   refine⟨_,rfl,_,rfl,pd,_,rfl,jC.k (k:=Sum.inl (i:Int)) AS,_,rfl,?_⟩
   by_cases cin:(dJ kvs (Sum.inl (i:Int))).isSome=true
   ·have Ig:WS.gD n es i=false:=by
     obtain⟨f,hf,Rl,m,hm,hmm⟩:=(N5 i).mp cin
     have:m=i:=by omega
     subst this
     cases c:WS.gD n es m with
     | false=>rfl
     | true=>
      have h1:=WS.HP c hf
      rw[((WS.E6 hN hG (by omega)).mp hmm).2] at h1
      cases h1
    rw[cin]
    refine aS ?_
    refine⟨_,_,_,kvs,cs,rfl,s3,AS,by omega,?_,ee,?_⟩
    ·intro j
     rw[N5 j]
     constructor
     ·rintro⟨f,hf,x⟩
      exact⟨f,by omega,x⟩
     ·rintro⟨f,hf,Rl,x⟩
      have:f≠i:=fun e=>by rw[e,Ig] at Rl;cases Rl
      exact⟨f,by omega,Rl,x⟩
    ·rw[A7,Ig,if_neg Bool.false_ne_true,append_nil]
     exact hC
   ·have K0:WS.gD n es i=true:=by
     cases c:WS.gD n es i with
     | true=>rfl
     | false=>
      obtain⟨f,h1,h2,h3⟩:=WS.notFirst hN hG i i (Nat.le_refl _) hi c
      exact absurd ((N5 i).mpr ⟨f,h1,h2,i,rfl,(WS.E6 hN hG (by omega)).mpr ⟨hi,h3⟩⟩) cin
    rw[Bool.eq_false_iff.mpr cin]
    refine aZ ?_
    refine⟨_,rfl,_,rfl,_,_,rfl,⟨by omega,by omega,by omega,by omega⟩,fun D hD=>?_⟩
    have oN:((n:Int)-(i:Int)).toNat=n-i:=by omega
    rw[oN]
    refine CP (lo:=(i:Int)) (n:=n-i) (fun m dI=>aq H' dI/\bS dI D (((List.range m).map fun m=>i+m).filter (WS.rg n es i)))
     ⟨aq.new hD,ah⟩ ?_ ?_
    ·rintro m dI hm ⟨s4,AX⟩
     have e1:((i:Int)+(m:Int))=((i+m:Nat):Int):=by omega
     rw[e1]
     refine⟨rfl,_,rfl,_,rfl,_,rfl,l,n,i,i+m,es,rfl,wB hRs (s3.trans s4),hi,by omega,_,rfl,?_⟩
     have e2:((List.range (m+1)).map fun m=>i+m).filter (WS.rg n es i)=((List.range m).map fun m=>i+m).filter (WS.rg n es i)++(if WS.rg n es i (i+m)=true then [i+m] else []):=by
      rw[List.range_succ,map_append,List.filter_append,map_cons,List.map_nil,List.filter_cons]
      split <;> simp
     rw[e2]
     cases c:WS.rg n es i (i+m) with
     | true=>
      refine aS ?_
      rw[if_pos rfl]
      refine⟨_,rfl,_,AX,?_,aq.but s4 hD bA.upd,Gj⟩
      rw[length_map,sizeLine_eq]
      have:=length_filter_le (WS.rg n es i) ((List.range m).map fun m=>i+m)
      rw[length_map,List.length_range] at this
      omega
     | false=>
      refine aZ ?_
      rw[if_neg Bool.false_ne_true,append_nil]
      exact⟨s4,AX⟩
    ·rintro H4 ⟨s4,AX⟩
     rw[<- WS.M_ hN hG hi K0] at AX
     have Uq:D≠pd:=fun z=>aK AS hD z.symm
     have oV:(WS.cls n es i).length<=n:=by
      unfold WS.cls Vbedac.events
      have:=length_filter_le (fun j=>j==i||Vbedac.rigid (Vbedac.web n es) i j) (List.range n)
      rw[List.length_range] at this;exact this
     have PQ:H4 D=some (.lst ((WS.cls n es i).map fun (n:Nat)=>V.int (n:Int))):=AX
     refine⟨_,rfl,D,rfl,⟨_,aE.of PQ⟩,ck (K:=K) (a:=D) (xs:=(WS.cls n es i).map fun (n:Nat)=>V.int (n:Int)) (fun m σ dI=>∃v6 Fm,σ=[some (.ref l),some (.int n),some (.ref pd),some (.ref q),some (.int i),some (.ref D),v6,none]/\bA pd H4 dI/\dI pd=some (.dK Fm)/\Fm.length<=100*i+m/\
       (∀j:Int,(dJ Fm (Sum.inl j)).isSome=true↔(dJ kvs (Sum.inl j)).isSome=true\/∃m':Nat,j=m'/\m' ∈ (WS.cls n es i).take m))
      ⟨v6,kvs,rfl,bA.refl,s4 _ _ AS,by omega,(by intro j;simp)⟩ (fun m σ dI _ ⟨_,_,_,b,_⟩=>aE.of (b _ _ PQ Uq)) ?_ ?_⟩
     ·rintro m y σ dI hm ⟨v6,Fm,rfl,b,Gk,Ur,IJ⟩
      obtain⟨x,hx,rfl⟩:=get_map hm
      have Us:m<(WS.cls n es i).length:=(List.getElem?_eq_some_iff.mp hx).1
      refine⟨_,rfl,_,rfl,pd,_,rfl,yr.k (k:=Sum.inl (x:Int)) Gk (by rw[sizeLine_eq];omega),?_⟩
      refine⟨_,_,rfl,b.trans bA.upd,ah,?_,fun j=>?_⟩
      ·unfold putK
       split
       ·rw[length_map];omega
       ·rw[length_append];simp;omega
      ·rw[yq,take_snoc hx]
       by_cases e:(Sum.inl j:Key)=Sum.inl (x:Int)
       ·rw[if_pos e]
        injection e with e
        simp only[Option.isSome_some,true_iff]
        exact .inr ⟨x,e,by simp⟩
       ·rw[if_neg e,IJ j]
        have ne:¬j=(x:Int):=fun z=>e (by rw[z])
        constructor
        ·rintro(h | ⟨m',h1,h2⟩)
         ·exact .inl h
         ·exact .inr ⟨m',h1,by simp[h2]⟩
        ·rintro(h | ⟨m',h1,h2⟩)
         ·exact .inl h
         ·rcases mem_append.mp h2 with h2 | h2
          ·exact .inr ⟨m',h1,h2⟩
          ·rw[mem_singleton.mp h2] at h1
           exact absurd h1 ne
     ·rintro σ H5 ⟨v6,Fm,rfl,b,Gk,Ur,IJ⟩
      rw[length_map] at Ur IJ
      rw[take_length] at IJ
      have hpd0:H pd=none:=Em
      have s5:aq H H5:=aq.but (s3.trans s4) hpd0 b
      have kW:=b _ _ (s4 _ _ ee) (fun z=>wF z.symm)
      have zG:bS H5 D (WS.cls n es i):=b _ _ PQ Uq
      obtain⟨rr,hrr⟩:=WS.CV hN hG hi K0
      have h9:WS.cls n es i≠[]:=by rw[hrr];simp
      have T7:D≠q:=iF zG h9 kW
      refine⟨_,rfl,.inl ⟨rfl,_,aE.of kW⟩,_,rfl,q,_,_,rfl,rfl,kW,?_,?_⟩
      ·rw[length_map,hC.1,length_map,sizeLine_eq]
       have:=length_filter_le (WS.gD n es) (List.range i)
       rw[List.length_range] at this
       omega
      ·refine⟨_,_,_,Fm,cs++[D],rfl,aq.but s5 xX bA.upd,(by rw[aw wF];exact Gk),by omega,fun j=>?_,(by rw[ah,map_append];rfl),?_⟩
       ·rw[IJ j,N5 j]
        constructor
        ·rintro(⟨f,h1,x⟩|⟨m',h1,h2⟩)
         ·exact⟨f,by omega,x⟩
         ·exact⟨i,by omega,K0,m',h1,h2⟩
        ·rintro⟨f,h1,h2,m',h3,h4⟩
         by_cases e:f=i
         ·subst e
          exact .inr ⟨m',h3,h4⟩
         ·exact .inl ⟨f,by omega,h2,m',h3,h4⟩
       ·rw[A7,if_pos K0,map_append]
        refine bc.snoc ⟨hC.1,fun j a r h1 h2=>?_⟩ ?_
        ·have h3:=hC.2 j a r h1 h2
         have hr:r≠[]:=by
          have:=mem_of_getElem? h2
          obtain⟨f,hf,rfl⟩:=mem_map.mp this
          obtain⟨A8,hf2⟩:=mem_filter.mp hf
          obtain⟨r',zk⟩:=WS.CV hN hG (by have:=List.mem_range.mp A8;omega) hf2
          rw[zk];simp
         have h4:bS H4 a r:=s4 _ _ h3
         have h5:bS H5 a r:=b _ _ h4 (dh h4 (s4 _ _ AS) (by intro z;cases z))
         show upd _ _ _ _=_
         rw[aw (iF h5 hr kW)]
         exact h5
        ·show upd _ _ _ _=_
         rw[aw T7]
         exact zG
  ·rintro σ H' ⟨v4,v5,v6,kvs,cs,rfl,s3,AS,DS,N5,ee,hC⟩
   exact⟨_,rfl,k H' q s3 ⟨cs,ee,hC⟩⟩
theorem mR {α:Type} {f:α->List Int} {B:Nat}:∀{l:List α},(∀x,x∈l->(f x).length<=B)->(l.flatMap f).length<=B*l.length
 | [],_=>by simp
 | x::l,h=>by
  rw[List.flatMap_cons,length_append,length_cons,Nat.mul_succ]
  have h1:=h x (by simp)
  have h2:=mR (l:=l) fun y hy=>h y (by simp[hy])
  omega
def i9 (n:Nat) (es:List Edge) (m:List Nat):List Int:=Vbedac.listed m++m.map fun j=>(Vbedac.cell (Vbedac.web n es) (m.headD 0) j).getD 0
def rf (n:Nat) (es:List Edge):List Int:=Vbedac.nat (Vbedac.classesOf n (Vbedac.web n es)).length::(Vbedac.classesOf n (Vbedac.web n es)).flatMap (i9 n es)
def N6 (A:aW):Sp:=fun vs H Q _=>∃(n:Nat) (le:Addr) (es:List Edge),vs=[.int n,.ref le]/\a7 A H le es/\WS.bB n es/\WS.bK es/\0<n/\n<=100/\Told H Q (rf n es)
theorem IK {n:Nat} {es:List Edge} (hN:WS.bB n es) (hG:WS.bK es) {m:List Nat} (h:m∈Vbedac.classesOf n (Vbedac.web n es)):∃f r,f<n/\m=f::r/\m.length<=n/\∀j,j∈m->j<n/\∃x,Vbedac.reach n es f j=some x:=by
 rw[WS.vn] at h
 obtain⟨f,hf,rfl⟩:=mem_map.mp h
 obtain⟨h1,h2⟩:=mem_filter.mp hf
 have zQ:f<n:=by simpa [Vbedac.events] using h1
 obtain⟨r,hr⟩:=WS.CV hN hG zQ h2
 refine⟨f,r,zQ,hr,?_,fun j hj=>?_⟩
 ·unfold WS.cls Vbedac.events
  have:=length_filter_le (fun j=>j==f||Vbedac.rigid (Vbedac.web n es) f j) (List.range n)
  rw[List.length_range] at this;exact this
 ·obtain⟨a,b⟩:=(WS.E6 hN hG zQ).mp hj
  obtain⟨x,y,c,_⟩:=(WS.vm zQ a).mp b
  exact⟨a,x,c⟩
theorem EA {n:Nat} {es:List Edge}:(Vbedac.classesOf n (Vbedac.web n es)).length<=n:=by
 rw[WS.vn,length_map]
 have:=length_filter_le (WS.gD n es) (Vbedac.events n)
 unfold Vbedac.events at this ⊢
 rw[List.length_range] at this;exact this
theorem lY:aJ ["n","edges","web_of_all","classes","told","members","from_first","member"] ["n","edges"] (ay yJ):=by refine⟨rfl,rfl,rfl,?_,rfl,?_,?_⟩ <;> decide +kernel
theorem N7 (T:Txt K mg A):aY P w K mg base bF 5 A.rX A.pS ["n","edges"] (N6 A):=by
 refine T.ma.ok lY (fun vs H Q E h=>?_) (fun bg Ar outer s H vs Q E hr h=>?_)
 ·obtain⟨n,le,es,rfl,_⟩:=h
  rfl
 ·obtain⟨n,le,es,rfl,hE,hN,hG,h0,hz,k⟩:=h
  refine⟨_,(ae (aG (i:=2) lY.nd rfl (Or.inl rfl) (aA (CB T) (hr.mono (by decide:4<=4)) rfl T.yR T.ig.kp T.yQ .nil aF (aa (pv 0) (aa (pv 1) ag))))
   (ae (aG (i:=3) lY.nd rfl (Or.inl rfl) (aA (Ez T) (hr.mono (by decide:2<=4)) rfl T.xR T.eX.kp T.xQ .nil aF (aa (pv 2) ag)))
   (ae (aG (i:=4) lY.nd rfl (Or.inl rfl) (aR (aa (bX bx (by rfl) T.d9 PySem.boot_len (aa (pv 3) ag)) ag)))
   (ae (cq PassesOwn.never rfl (bz (pv 3)) (a6 (i:=5) lY.nd rfl (Or.inl rfl))
    (ae (aG (i:=6) lY.nd rfl (Or.inr rfl) (bf aN (pv 2) (bf aN (pv 5) aH (fun _ _=>rfl)) (fun _ _=>rfl)))
   (ae (cv (fG PySem.F.plainAttrs_list PySem.F.slot_list_append PySem.F.type_list_append dn (pv 4) (aa (bX bx (by rfl) T.d9 PySem.boot_len (aa (pv 5) ag)) ag)))
   (ae (cv (fG PySem.F.plainAttrs_list PySem.F.slot_list_extend PySem.F.type_list_extend lL (pv 4) (aa (pv 5) ag)))
   (ao (cv (fG PySem.F.plainAttrs_list PySem.F.slot_list_extend PySem.F.type_list_extend lL (pv 4) (aa (lZ rfl lY.nd (bz (pv 5)) (c8 (N:=["n","edges","web_of_all","classes","told","members","from_first","member"]) (sc:=ay yJ) (own:=[("member",7)]) (by decide +kernel)) (fun _ _ _ _ _=>(a6 (i:=7) lY.nd rfl (Or.inl rfl))) (fun _ _ _ _ _=>ja) (fun _ _ _ _ _=>by exact(bf (HZ (K:=K) rfl) (pv 6) (pv 7) (fun _ _=>rfl)))) ag))))))))
   (ao (ax (pv 4))))))),?_⟩
  refine⟨_,rfl,_,rfl,n,le,es,rfl,hE,hN,hG,h0,hz,fun H1 p1 s1 Rm=>?_⟩
  refine⟨_,rfl,p1,n,es,rfl,Rm,hN,hG,hz,fun H2 p2 s2 hCl=>?_⟩
  obtain⟨cs,jo,hC⟩:=hCl
  obtain⟨as,jA,hA⟩:=wB Rm s2
  have oV:=EA (n:=n) (es:=es)
  refine⟨_,rfl,p2,_,rfl,.inl (aE.of jo),zl1,fun q hq=>?_⟩
  rw[length_map,hC.1]
  have s3:aq H2 (upd H2 q (.lst [.int ((Vbedac.classesOf n (Vbedac.web n es)).length:Nat)])):=aq.new hq
  refine⟨_,rfl,p2,rfl,⟨_,aE.of (s3 _ _ jo)⟩,ck (K:=K) (a:=p2) (xs:=cs.map V.ref) (fun i σ H'=>∃v5 v6,σ=[some (.int n),some (.ref le),some (.ref p1),some (.ref p2),some (.ref q),v5,v6,none]/\aq H2 H'/\cH H' q (Vbedac.nat (Vbedac.classesOf n (Vbedac.web n es)).length::((Vbedac.classesOf n (Vbedac.web n es)).take i).flatMap (i9 n es)))
   ⟨none,none,rfl,s3,ah⟩ (fun i σ H' _ ⟨_,_,_,s4,_⟩=>aE.of (s4 _ _ jo)) ?_ ?_⟩
  ·rintro i y σ H' hi ⟨v5,v6,rfl,s4,eC⟩
   obtain⟨a,ha,rfl⟩:=bh hi
   obtain⟨m,hm,hd⟩:=hC.get ha
   have k4:i<(Vbedac.classesOf n (Vbedac.web n es)).length:=(List.getElem?_eq_some_iff.mp hm).1
   obtain⟨f,r,zQ,hmf,Us,hmj⟩:=IK hN hG (mem_of_getElem? hm)
   have hqn:(Vbedac.nat (Vbedac.classesOf n (Vbedac.web n es)).length::((Vbedac.classesOf n (Vbedac.web n es)).take i).flatMap (i9 n es)).length<=30000:=by
    have:=mR (f:=i9 n es) (B:=201) (l:=(Vbedac.classesOf n (Vbedac.web n es)).take i) fun x hx=>by
     obtain⟨_,_,_,_,h,_⟩:=IK hN hG (List.mem_of_mem_take hx)
     unfold i9 Vbedac.listed
     rw[length_append,length_cons,length_map,length_map];omega
    rw[length_take] at this
    rw[length_cons];omega
   have Ri:=s4 _ _ hd
   have Rn:=s4 _ _ jA
   obtain⟨af,haf,hRf⟩:=hA.at_ (BM zQ)
   refine⟨_,rfl,_,rfl,a,_,_,_,rfl,rfl,aE.of Ri,a_ (j:=0) (v:=V.int (f:Int)) (by rw[hmf];rfl),p1,_,_,_,rfl,rfl,aE.of Rn,a_ (nI haf),?_⟩
   generalize Ut:(Vbedac.nat (Vbedac.classesOf n (Vbedac.web n es)).length::((Vbedac.classesOf n (Vbedac.web n es)).take i).flatMap (i9 n es))=L at eC hqn
   refine⟨_,rfl,.inl ⟨rfl,_,aE.of eC⟩,_,rfl,a,_,rfl,.inl (aE.of Ri),q,_,_,rfl,rfl,eC,(by rw[length_map,sizeLine_eq];omega),?_⟩
   rw[length_map]
   have kW:=ints_snoc (H:=H') (q:=q) (xs:=L) (x:=(m.length:Nat))
   have s5:=aq.but s4 hq (bA.upd (o:=.lst (L.map V.int++[V.int (m.length:Nat)])))
   have Gk:=s5 _ _ hd
   generalize upd H' q (.lst (L.map V.int++[V.int (m.length:Nat)]))=H5 at kW s5 Gk
   refine⟨_,rfl,.inl ⟨rfl,_,aE.of kW⟩,_,rfl,q,a,_,_,rfl,rfl,kW,Gk,(by rw[length_map,length_map,length_append,sizeLine_eq];simp;omega),?_⟩
   have wC:cH (upd H5 q (.lst ((L++[((m.length:Nat):Int)]).map V.int++m.map fun (n:Nat)=>V.int (n:Int)))) q (L++[((m.length:Nat):Int)]++m.map Vbedac.nat):=by
    show upd _ _ _ _=_
    rw[ah,map_append (l₂:=m.map Vbedac.nat),map_map]
    rfl
   have s6:=aq.but s5 hq (bA.upd (o:=.lst ((L++[((m.length:Nat):Int)]).map V.int++m.map fun (n:Nat)=>V.int (n:Int))))
   have Uu:=s6 _ _ hd
   have hR6:=s6 _ _ hRf
   generalize upd H5 q (.lst ((L++[((m.length:Nat):Int)]).map V.int++m.map fun (n:Nat)=>V.int (n:Int)))=H6 at wC s6 Uu hR6
   refine⟨_,rfl,.inl ⟨rfl,_,aE.of wC⟩,_,rfl,a,rfl,⟨_,aE.of Uu⟩,fun D hD=>?_⟩
   have hd6':H6 a=some (.lst (m.map fun (n:Nat)=>V.int (n:Int))):=Uu
   refine fQ (K:=K) (a:=a) (xs:=m.map fun (n:Nat)=>V.int (n:Int)) (fun j dI=>aq H6 dI/\cH dI D ((m.take j).map fun j=>(Vbedac.cell (Vbedac.web n es) (m.headD 0) j).getD 0))
    ⟨aq.new hD,ah⟩ (fun j dI _ ⟨s7,_⟩=>aE.of (s7 _ _ hd6')) ?_ ?_
   ·rintro j y dI hj ⟨s7,Iz⟩
    obtain⟨x,hx,rfl⟩:=get_map hj
    obtain⟨hxn,z,lM⟩:=hmj x (mem_of_getElem? hx)
    have Al:j<m.length:=(List.getElem?_eq_some_iff.mp hx).1
    have e1:Vbedac.entry (Vbedac.within_ n es f n) x=some z:=lM
    have e2:(Vbedac.cell (Vbedac.web n es) (m.headD 0) x).getD 0=z:=by
     rw[hmf]
     show (Vbedac.cell (Vbedac.web n es) f x).getD 0=z
     rw[WS.vk zQ,lM];rfl
    refine⟨rfl,jm (aS ?_)⟩
    refine⟨_,rfl,_,rfl,af,_,_,_,rfl,rfl,aE.of (s7 _ _ hR6),mr (by rw[fN];exact hxn),?_⟩
    rw[e1]
    refine⟨_,Iz,(by rw[length_map,length_map,length_take,sizeLine_eq];omega),aq.but s7 hD bA.upd,?_⟩
    rw[take_snoc hx,map_append,map_cons,List.map_nil,e2]
    exact ints_snoc
   ·rintro H7 ⟨s7,Iz⟩
    rw[length_map,take_length] at Iz
    have AY:=s7 _ _ wC
    refine⟨q,D,_,_,rfl,rfl,AY,Iz,(by rw[length_map,length_map,length_map,length_append,length_append,length_map,sizeLine_eq];simp;omega),?_⟩
    refine⟨_,_,rfl,aq.but (s6.trans s7) hq bA.upd,?_⟩
    rw[p0 hm,<- List.cons_append]
    have e:∀X:List Int,X++i9 n es m=((X++[((m.length:Nat):Int)])++m.map Vbedac.nat)++m.map fun j=>(Vbedac.cell (Vbedac.web n es) (m.headD 0) j).getD 0:=by
     intro X
     unfold i9 Vbedac.listed
     simp[Vbedac.nat]
    rw[Ut,e]
    exact vS
  ·rintro σ H' ⟨v5,v6,rfl,s4,eC⟩
   rw[length_map,hC.1,take_length] at eC
   exact⟨_,rfl,k H' q ((s1.trans s2).trans s4) ((s1.trans s2).free hq) eC⟩
def yZ (r:kT):List Int:=r.flatMap Vbedac.open_
def x8 (n:Nat) (es:List Edge):List Int:=(Vbedac.web n es).flatMap yZ
def Uv (A:aW):Sp:=fun vs H Q _=>∃(n:Nat) (le:Addr) (es:List Edge),vs=[.int n,.ref le]/\a7 A H le es/\WS.bB n es/\WS.bK es/\0<n/\n<=100/\Told H Q (x8 n es)
theorem EB:aJ ["n","edges","told","bounds_from","bound"] ["n","edges"] (ay LQ):=by refine⟨rfl,rfl,rfl,?_,rfl,?_,?_⟩ <;> decide +kernel
theorem Uw (T:Txt K mg A):aY P w K mg base bF 5 A.BI A.xG ["n","edges"] (Uv A):=by
 refine T.uJ.ok EB (fun vs H Q E h=>?_) (fun bg Ar outer s H vs Q E hr h=>?_)
 ·obtain⟨n,le,es,rfl,_⟩:=h
  rfl
 ·obtain⟨n,le,es,rfl,hE,hN,hG,h0,hz,k⟩:=h
  refine⟨_,(ae (aG (i:=2) EB.nd rfl (Or.inl rfl) (aR ag))
   (ae (cq PassesOwn.never rfl (bz (aA (CB T) (hr.mono (by decide:4<=4)) rfl T.yR T.ig.kp T.yQ .nil aF (aa (pv 0) (aa (pv 1) ag)))) (a6 (i:=3) EB.nd rfl (Or.inl rfl))
    (ao (cq PassesOwn.never rfl (bz (pv 3)) (a6 (i:=4) EB.nd rfl (Or.inl rfl))
    (ao (cv (fG PySem.F.plainAttrs_list PySem.F.slot_list_extend PySem.F.type_list_extend lL (pv 2) (aa (aA (tW T) (hr.mono (by decide:1<=4)) rfl T.qA T.eJ.kp T.qz .nil aF (aa (pv 4) ag)) ag)))))))
   (ao (ax (pv 2))))),?_⟩
  refine⟨zl0,fun q hq=>?_⟩
  have s1:aq H (upd H q (.lst [])):=aq.new hq
  refine⟨_,rfl,_,rfl,n,le,es,rfl,bj hE s1,hN,hG,h0,hz,fun H2 p2 s2 Rm=>?_⟩
  have oH:H2 q=some (.lst []):=s2 _ _ ah
  obtain⟨as,hl,hA⟩:=Rm
  have hlen:as.length=n:=by rw[hA.1,rb]
  have wF:p2≠q:=dh hl oH (by
   intro z
   injection z with z
   have:=congrArg List.length z
   rw[length_map,hlen] at this
   simp at this;omega)
  have IM:∀(a:Addr) (r:kT),d_ H2 a r->r.length=n->a≠q:=fun a r hr m6=>dh hr oH (by
   intro z
   injection z with z
   have:=congrArg List.length z
   rw[length_map,m6] at this
   simp at this;omega)
  refine⟨p2,rfl,⟨_,aE.of hl⟩,ck (K:=K) (a:=p2) (xs:=as.map V.ref) (fun i σ H'=>∃v3 v4,σ=[some (.int n),some (.ref le),some (.ref q),v3,v4]/\bA q H2 H'/\cH H' q (((Vbedac.web n es).take i).flatMap yZ))
   ⟨none,none,rfl,bA.refl,oH⟩ (fun i σ H' _ ⟨_,_,_,b,_⟩=>aE.of (b _ _ hl wF)) ?_ ?_⟩
  ·rintro i y σ H' hi ⟨v3,v4,rfl,b,ee⟩
   obtain⟨a,ha,rfl⟩:=bh hi
   obtain⟨r,rG,zB⟩:=hA.get ha
   have k4:i<n:=by
    have:=(List.getElem?_eq_some_iff.mp ha).1
    omega
   have m6:r.length=n:=BN (mem_of_getElem? rG)
   have CD:=IM a r zB m6
   have oJ:H' a=some (.lst (r.map fD)):=b _ _ zB CD
   have Ux:(((Vbedac.web n es).take i).flatMap yZ).length<=20000:=by
    have:=mR (f:=yZ) (B:=200) (l:=(Vbedac.web n es).take i) fun x hx=>by
     unfold yZ
     rw[pG di,BN (List.mem_of_mem_take hx)];omega
    rw[length_take] at this
    omega
   rw[p0 (f:=yZ) rG]
   generalize (((Vbedac.web n es).take i).flatMap yZ)=L at ee Ux
   refine⟨_,rfl,a,rfl,⟨_,aE.of oJ⟩,ck (K:=K) (a:=a) (xs:=r.map fD) (fun j σ dI=>∃v4,σ=[some (.int n),some (.ref le),some (.ref q),some (.ref a),v4]/\bA q H2 dI/\cH dI q (L++(r.take j).flatMap Vbedac.open_))
    ⟨v4,rfl,b,(by rw[List.take_zero,List.flatMap_nil,append_nil];exact ee)⟩ (fun j σ dI _ ⟨_,_,b',_⟩=>aE.of (b' _ _ zB CD)) ?_ ?_⟩
   ·rintro j y σ dI hj ⟨v4,rfl,b',eC⟩
    obtain⟨x,hx,rfl⟩:=get_map hj
    have Al:j<r.length:=(List.getElem?_eq_some_iff.mp hx).1
    refine⟨_,rfl,.inl ⟨rfl,_,aE.of eC⟩,_,rfl,_,rfl,fun H5 p5 hf5 s5 h5=>?_⟩
    have kW:=s5 _ _ eC
    refine⟨q,p5,_,_,rfl,rfl,kW,h5,?_,?_⟩
    ·rw[length_map,length_map,length_append,pG di,di,length_take,sizeLine_eq];omega
    ·refine⟨_,rfl,(b'.trans (C5 s5)).trans bA.upd,?_⟩
     rw[p0 hx,<- append_assoc]
     exact vS
   ·rintro σ dI ⟨v4,rfl,b',eC⟩
    rw[length_map,take_length] at eC
    exact⟨_,_,rfl,b',eC⟩
  ·rintro σ H' ⟨v3,v4,rfl,b,ee⟩
   rw[length_map,hA.1,take_length] at ee
   exact⟨_,rfl,k H' q (aq.but (s1.trans s2) hq b) hq ee⟩
def e7 (s:State) (n:Nat):Option Int:=match Vbedac.saidBy s n with
 | none=>some (-10)
 | some x=>if x.on=false then some (-7) else none
def xh (A:aW):Sp:=fun vs H Q _=>∃(k d:Addr) (s:State) (ad:Nat->Addr) (ks:List Said) (n:Nat),vs=[.ref k,.int n]/\bR A H k d s ad ks/\Q (fD (e7 s n)) H
theorem xi:aJ ["kept","key"] ["kept","key"] (ay k6):=by refine⟨rfl,rfl,rfl,?_,rfl,?_,?_⟩ <;> decide +kernel
theorem xj (T:Txt K mg A):aY P w K mg base bF 1 A.ez A.dS ["kept","key"] (xh A):=by
 refine T.b6.ok xi (fun vs H Q E h=>?_) (fun bg Ar outer s H vs Q E hr h=>?_)
 ·obtain⟨k,d,s,ad,ks,n,rfl,_⟩:=h
  rfl
 ·obtain⟨k,d,st,ad,ks,n,rfl,hK,kk⟩:=h
  obtain⟨dx,br⟩:=hK.ob
  refine⟨_,(ae (aP (d3 (Ab (kb hr) (pv 1) (aD (pv 0) rfl))) (ao (ax (bU (v:=.int (-10)) rfl T.kJ ⟨_,rfl⟩))) aI)
   (ae (aP (kZ (fz (aD (nS (kb hr) (aD (pv 0) rfl) (pv 1) (fun _ _=>rfl)) rfl))) (ao (ax (bU (v:=.int (-7)) rfl T.jv ⟨_,rfl⟩))) aI)
   (ao (ax iu)))),?_⟩
  unfold e7 at kk
  cases c:Vbedac.saidBy st n with
  | none=>
   rw[c] at kk
   have hg:jC H d (.int n) none:=hK.miss fun y hy=>by
    have:=WS.mz c y hy
    omega
   exact⟨_,rfl,_,rfl,k,_,_,_,_,rfl,br,T.ba,T.bD,rfl,d,_,rfl,hg,_,rfl,aS kk⟩
  | some x=>
   rw[c] at kk
   obtain⟨hx,hk⟩:=WS.mB c
   have hg:=hK.get hx
   obtain⟨da,ha⟩:=hK.st x hx
   rw[hk] at hg ha
   refine⟨_,rfl,_,rfl,k,_,_,_,_,rfl,br,T.ba,T.bD,rfl,d,_,rfl,hg,_,rfl,aZ ?_⟩
   refine⟨_,rfl,k,_,_,_,_,rfl,br,T.ba,T.bD,rfl,_,rfl,d,_,rfl,hg,ad n,_,_,_,_,rfl,ha,T.aC,T.bJ,rfl,_,rfl,?_⟩
   cases c1:x.on with
   | false=>
    dsimp only at kk
    rw[c1,if_pos rfl] at kk
    exact aS kk
   | true=>
    dsimp only at kk
    rw[c1,if_neg (by simp)] at kk
    exact aZ kk
def i_ (a b:Nat) (lo hi:Int):Option Int:=if a=b then some (-4) else if hi<lo then some (-5) else none
def x9 (A:aW):Sp:=fun vs H Q _=>∃(a b:Nat) (lo hi:Int),vs=[.int a,.int b,.int lo,.int hi]/\Q (fD (i_ a b lo hi)) H
theorem x_:aJ ["a","b","lo","hi"] ["a","b","lo","hi"] (ay l6):=by refine⟨rfl,rfl,rfl,?_,rfl,?_,?_⟩ <;> decide +kernel
theorem ya (T:Txt K mg A):aY P w K mg base bF 1 A.eT A.eA ["a","b","lo","hi"] (x9 A):=by
 refine T.cp.ok x_ (fun vs H Q E h=>?_) (fun bg Ar outer s H vs Q E hr h=>?_)
 ·obtain⟨a,b,lo,hi,rfl,_⟩:=h
  rfl
 ·obtain⟨a,b,lo,hi,rfl,k⟩:=h
  refine⟨_,(ae (aP (aO bZ (pv 0) (pv 1) (aU _)) (ao (ax (bU (v:=.int (-4)) rfl T.ju ⟨_,rfl⟩))) aI)
   (ae (aP (aO uu (pv 3) (pv 2) (aU _)) (ao (ax (bU (v:=.int (-5)) rfl T.iT ⟨_,rfl⟩))) aI)
   (ao (ax iu)))),?_⟩
  unfold i_ at k
  refine⟨_,rfl,_,rfl,rfl,_,rfl,?_⟩
  by_cases c:a=b
  ·rw[if_pos c] at k
   exact nJ (by rw[c]) k
  ·rw[if_neg c] at k
   refine nL (by omega) ?_
   refine⟨_,rfl,_,rfl,_,_,rfl,rfl,_,rfl,?_⟩
   by_cases c2:hi<lo
   ·rw[if_pos c2] at k
    exact sf c2 k
   ·rw[if_neg c2] at k
    exact sg c2 k
def Uy (s:State) (name:Str) (ns:List Int) (r:Option Int):Prop:=
 ((name="needless"\/name="slack")/\∃n:Nat,ns=[(n:Int)]/\r=e7 s n)\/
 (name="if_of"/\∃(a b:Nat) (lo hi:Int),ns=[(a:Int),(b:Int),lo,hi]/\r=i_ a b lo hi)\/
 ((name ≠ "needless"/\name ≠ "slack"/\name ≠ "if_of")/\r=none)
def f6 (s:State) (r:Option Int):Option Int:=match r with
 | some x=>some x
 | none=>if Vbedac.fit s.n (Vbedac.edges s)=true then none else some (-8)
def EC (A:aW):Sp:=fun vs H Q _=>∃(k d c le:Addr) (s:State) (ad:Nat->Addr) (ks:List Said) (name:Str) (kinds:List Str) (ns row:List Int) (r:Option Int),vs=[.ref k,.ref c,.ref le]/\bR A H k d s ad ks/\WS.Well s/\CallAt A H c name kinds ns row/\a7 A H le (Vbedac.edges s)/\Uy s name ns r/\
 ∀H',aq H H'->Q (fD (f6 s r)) H'
theorem iP:aJ ["kept","call","edges","numbers","refusal"] ["kept","call","edges"] (ay rP):=by refine⟨rfl,rfl,rfl,?_,rfl,?_,?_⟩ <;> decide +kernel
theorem ED (T:Txt K mg A):aY P w K mg base bF 4 A.jg A.iK ["kept","call","edges"] (EC A):=by
 refine T.eY.ok iP (fun vs H Q E h=>?_) (fun bg Ar outer s H vs Q E hr h=>?_)
 ·obtain⟨k,d,c,le,s,ad,ks,name,kinds,ns,row,r,rfl,_⟩:=h
  rfl
 ·obtain⟨k,d,c,le,st,ad,ks,name,kinds,ns,row,r,rfl,hK,hW,hC,hE,hP,kk⟩:=h
  obtain⟨dx,br⟩:=hK.ob
  obtain⟨dc,lk,ln,lr,hc,_,hn,aT⟩:=id hC
  have h2:=hW.n2
  have Ul:=hW.D1
  refine⟨_,(ae (aG (i:=3) iP.nd rfl (Or.inl rfl) (aD (pv 1) rfl))
   (ae (aG (i:=4) iP.nd rfl (Or.inl rfl) iu)
   (ae (aP (PW.pt (Bq (aO bZ (aD (pv 1) rfl) cF (aU _)) (xn (aO bZ (aD (pv 1) rfl) cF (aU _))))) (ao (aG (i:=4) iP.nd rfl (Or.inl rfl) (aA (xj T) (hr.mono (by decide:1<=3)) rfl T.pX T.b6.kp T.pW .nil aF (aa (pv 0) (aa (bf aN (pv 3) aH (fun _ _=>rfl)) ag))))) aI)
   (ae (aP (aO bZ (aD (pv 1) rfl) cF (aU _)) (ao (aG (i:=4) iP.nd rfl (Or.inl rfl) (aA (ya T) (hr.mono (by decide:1<=3)) rfl T.qD T.cp.kp T.qC .nil aF (aa (bf aN (pv 3) aH (fun _ _=>rfl)) (aa (bf aN (pv 3) aH (fun _ _=>rfl)) (aa (bf aN (pv 3) aH (fun _ _=>rfl)) (aa (bf aN (pv 3) aH (fun _ _=>rfl)) ag))))))) aI)
   (ae (aP (PW.pt (Hi (d3 (gR (pv 4))) (EN (kZ (fz (aA (cP T) (hr.mono (by decide:3<=3)) rfl T.cE T.bu.kp T.cD .nil aF (aa (aD (pv 0) rfl) (aa (pv 2) ag)))))))) (ao (aG (i:=4) iP.nd rfl (Or.inl rfl) (bU (v:=.int (-8)) rfl T.gh ⟨_,rfl⟩))) aI)
   (ao (ax (pv 4)))))))),?_⟩
  refine⟨_,rfl,c,_,_,_,_,rfl,hc,T.az,T.bo,rfl,?_⟩
  rcases hP with ⟨hnm,n,rfl,rfl⟩|⟨rfl,a,b,lo,hi,rfl,rfl⟩|⟨⟨n1,n2,n3⟩,rfl⟩
  ·have Uz:name ≠ "if_of":=by
    rcases hnm with rfl | rfl
    ·decide +kernel
    ·decide +kernel
   have h1:∀(X:Prop),X->X:=fun _ h=>h
   have call1:∀{X Y:Prop},X->(if decide (V.str name=V.str "needless")=true then X else Y)\/True:=fun _=>.inr trivial
   rcases hnm with rfl | rfl
   ·refine⟨_,rfl,c,_,dc,_,_,rfl,hc,T.az,T.au,rfl,rfl,_,rfl,bC ?_⟩
    refine aS ?_
    refine⟨_,rfl,_,rfl,ln,_,_,_,rfl,rfl,aE.of hn,a_ (j:=0) rfl,k,d,st,ad,ks,n,rfl,hK,?_⟩
    refine⟨_,rfl,c,_,dc,_,_,rfl,hc,T.az,T.au,rfl,rfl,_,rfl,aB Uz ?_⟩
    refine⟨_,rfl,_,rfl,?_⟩
    cases cr:e7 st n with
    | some x=>
     rw[cr] at kk
     refine aZ ?_
     refine aZ ?_
     exact⟨_,rfl,kk H fun _ _ h=>h⟩
    | none=>
     rw[cr] at kk
     refine aS ?_
     refine⟨_,rfl,k,_,_,_,_,rfl,br,T.ba,T.cn,rfl,_,rfl,st.n,le,_,rfl,hE,hW.Ki,by omega,by omega,fun H1 s1=>⟨_,rfl,?_⟩⟩
     unfold f6 at kk
     cases cf:Vbedac.fit st.n (Vbedac.edges st) with
     | true=>
      rw[cf] at kk
      refine aZ ?_
      exact⟨_,rfl,kk H1 s1⟩
     | false=>
      rw[cf] at kk
      refine aS ?_
      exact⟨_,rfl,kk H1 s1⟩
   ·refine⟨_,rfl,c,_,dc,_,_,rfl,hc,T.az,T.au,rfl,rfl,_,rfl,aB (by decide +kernel) ?_⟩
    refine⟨_,rfl,c,_,dc,_,_,rfl,hc,T.az,T.au,rfl,rfl,_,rfl,bC ?_⟩
    refine⟨_,rfl,_,rfl,ln,_,_,_,rfl,rfl,aE.of hn,a_ (j:=0) rfl,k,d,st,ad,ks,n,rfl,hK,?_⟩
    refine⟨_,rfl,c,_,dc,_,_,rfl,hc,T.az,T.au,rfl,rfl,_,rfl,aB Uz ?_⟩
    refine⟨_,rfl,_,rfl,?_⟩
    cases cr:e7 st n with
    | some x=>
     rw[cr] at kk
     refine aZ ?_
     refine aZ ?_
     exact⟨_,rfl,kk H fun _ _ h=>h⟩
    | none=>
     rw[cr] at kk
     refine aS ?_
     refine⟨_,rfl,k,_,_,_,_,rfl,br,T.ba,T.cn,rfl,_,rfl,st.n,le,_,rfl,hE,hW.Ki,by omega,by omega,fun H1 s1=>⟨_,rfl,?_⟩⟩
     unfold f6 at kk
     cases cf:Vbedac.fit st.n (Vbedac.edges st) with
     | true=>
      rw[cf] at kk
      refine aZ ?_
      exact⟨_,rfl,kk H1 s1⟩
     | false=>
      rw[cf] at kk
      refine aS ?_
      exact⟨_,rfl,kk H1 s1⟩
  ·refine⟨_,rfl,c,_,dc,_,_,rfl,hc,T.az,T.au,rfl,rfl,_,rfl,aB (by decide +kernel) ?_⟩
   refine⟨_,rfl,c,_,dc,_,_,rfl,hc,T.az,T.au,rfl,rfl,_,rfl,aB (by decide +kernel) ?_⟩
   refine⟨_,rfl,c,_,dc,_,_,rfl,hc,T.az,T.au,rfl,rfl,_,rfl,bC ?_⟩
   refine⟨_,rfl,ln,_,_,_,rfl,rfl,aE.of hn,a_ (j:=0) rfl,_,rfl,ln,_,_,_,rfl,rfl,aE.of hn,a_ (j:=1) rfl,_,rfl,ln,_,_,_,rfl,rfl,aE.of hn,a_ (j:=2) rfl,_,rfl,ln,_,_,_,rfl,rfl,aE.of hn,a_ (j:=3) rfl,a,b,lo,hi,rfl,?_⟩
   refine⟨_,rfl,_,rfl,?_⟩
   cases cr:i_ a b lo hi with
   | some x=>
    rw[cr] at kk
    refine aZ ?_
    refine aZ ?_
    exact⟨_,rfl,kk H fun _ _ h=>h⟩
   | none=>
    rw[cr] at kk
    refine aS ?_
    refine⟨_,rfl,k,_,_,_,_,rfl,br,T.ba,T.cn,rfl,_,rfl,st.n,le,_,rfl,hE,hW.Ki,by omega,by omega,fun H1 s1=>⟨_,rfl,?_⟩⟩
    unfold f6 at kk
    cases cf:Vbedac.fit st.n (Vbedac.edges st) with
    | true=>
     rw[cf] at kk
     refine aZ ?_
     exact⟨_,rfl,kk H1 s1⟩
    | false=>
     rw[cf] at kk
     refine aS ?_
     exact⟨_,rfl,kk H1 s1⟩
  ·refine⟨_,rfl,c,_,dc,_,_,rfl,hc,T.az,T.au,rfl,rfl,_,rfl,aB n1 ?_⟩
   refine⟨_,rfl,c,_,dc,_,_,rfl,hc,T.az,T.au,rfl,rfl,_,rfl,aB n2 ?_⟩
   refine⟨_,rfl,c,_,dc,_,_,rfl,hc,T.az,T.au,rfl,rfl,_,rfl,aB n3 ?_⟩
   refine⟨_,rfl,_,rfl,?_⟩
   refine aS ?_
   refine⟨_,rfl,k,_,_,_,_,rfl,br,T.ba,T.cn,rfl,_,rfl,st.n,le,_,rfl,hE,hW.Ki,by omega,by omega,fun H1 s1=>⟨_,rfl,?_⟩⟩
   unfold f6 at kk
   cases cf:Vbedac.fit st.n (Vbedac.edges st) with
   | true=>
    rw[cf] at kk
    refine aZ ?_
    exact⟨_,rfl,kk H1 s1⟩
   | false=>
    rw[cf] at kk
    refine aS ?_
    exact⟨_,rfl,kk H1 s1⟩
theorem nP {x:V} {xs:List V} {X Y:Prop} (h:rp x xs=true) (y:Y):if (if true=true then !rp x xs else rp x xs)=true then X else Y:=by
 rw[if_pos rfl,h]
 exact aZ y
theorem N8 {x:V} {xs:List V} {X Y:Prop} (h:rp x xs=false) (y:X):if (if true=true then !rp x xs else rp x xs)=true then X else Y:=by
 rw[if_pos rfl,h]
 exact aS y
theorem IP {name:Str}:∀{l:List Str},(∀x,x∈l->name≠x)->rp (V.str name) (l.map V.str)=false
 | [],_=>rfl
 | x::l,h=>by
  unfold rp
  rw[map_cons,List.any_cons]
  have h1:DF (V.str x) (V.str name)=false:=by
   show (x==name)=false
   exact beq_eq_false_iff_ne.mpr fun q=>h x (by simp) q.symm
  rw[h1,Bool.false_or]
  exact IP fun y hy=>h y (by simp[hy])
def byKey (s:State) (n:Nat) (f:Said->List Int):List Int:=match Vbedac.saidBy s n with
 | none=>[-10]
 | some x=>if x.on=false then [-7] else ef s.n (Vbedac.edges s) (f x)
def rh (s:State) (a b:Nat) (lo hi:Int):List Int:=if a=b then [-4] else if hi<lo then [-5] else ef s.n (Vbedac.edges s) [if Vbedac.follows s.n (Vbedac.edges s) a b lo hi=true then 1 else if Vbedac.fit s.n (Vbedac.edges s++Vbedac.edgesOf ⟨0,0,a,b,lo,hi,true⟩)=true then 0 else 2]
def p8 (s:State) (x:Said):List Int:=[-((Vbedac.reach s.n (Vbedac.edges s) x.b x.a).getD 0)-x.lo,x.hi-(Vbedac.reach s.n (Vbedac.edges s) x.a x.b).getD 0]
def y0 (s:State) (x:Said):List Int:=[Vbedac.bit (Vbedac.follows s.n (Vbedac.edgesIn (Vbedac.without (Vbedac.standing s) [x.key])) x.a x.b x.lo x.hi)]
theorem lG {s:State} {x:Int} {l:List Int} (h:f6 s none=some x):ef s.n (Vbedac.edges s) l=[x]:=by
 unfold f6 at h
 unfold ef
 dsimp only at h
 split at h
 ·cases h
 ·rename_i c
  rw[if_neg c]
  cases h;rfl
theorem lH {s:State} {l:List Int} (h:f6 s none=none):ef s.n (Vbedac.edges s) l=l/\Vbedac.fit s.n (Vbedac.edges s)=true:=by
 unfold f6 at h
 unfold ef
 dsimp only at h
 split at h
 ·rename_i c
  rw[if_pos c]
  exact⟨rfl,c⟩
 ·cases h
theorem A9 {s:State} {n:Nat} {f:Said->List Int} {x:Int} (h:f6 s (e7 s n)=some x):byKey s n f=[x]:=by
 unfold byKey
 unfold e7 at h
 cases c:Vbedac.saidBy s n with
 | none=>rw[c] at h;cases h;rfl
 | some y=>
  rw[c] at h
  dsimp only at h ⊢
  by_cases d:y.on=false
  ·rw[if_pos d] at h ⊢
   cases h;rfl
  ·rw[if_neg d] at h ⊢
   exact lG h
theorem A_ {s:State} {n:Nat} {f:Said->List Int} (h:f6 s (e7 s n)=none):∃x,Vbedac.saidBy s n=some x/\x.on=true/\byKey s n f=f x/\Vbedac.fit s.n (Vbedac.edges s)=true:=by
 unfold byKey
 unfold e7 at h
 cases c:Vbedac.saidBy s n with
 | none=>rw[c] at h;cases h
 | some y=>
  rw[c] at h
  dsimp only at h ⊢
  by_cases d:y.on=false
  ·rw[if_pos d] at h
   cases h
  ·rw[if_neg d] at h ⊢
   obtain⟨h1,h2⟩:=lH (l:=f y) h
   exact⟨y,rfl,by simpa using d,h1,h2⟩
theorem JQ {s:State} {a b:Nat} {lo hi:Int} {x:Int} (h:f6 s (i_ a b lo hi)=some x):rh s a b lo hi=[x]:=by
 unfold rh
 unfold i_ at h
 by_cases c:a=b
 ·rw[if_pos c] at h ⊢;cases h;rfl
 ·rw[if_neg c] at h ⊢
  by_cases d:hi<lo
  ·rw[if_pos d] at h ⊢;cases h;rfl
  ·rw[if_neg d] at h ⊢
   exact lG h
theorem JR {s:State} {a b:Nat} {lo hi:Int} (h:f6 s (i_ a b lo hi)=none):rh s a b lo hi=[if Vbedac.follows s.n (Vbedac.edges s) a b lo hi=true then 1 else if Vbedac.fit s.n (Vbedac.edges s++Vbedac.edgesOf ⟨0,0,a,b,lo,hi,true⟩)=true then 0 else 2]/\Vbedac.fit s.n (Vbedac.edges s)=true:=by
 unfold rh
 unfold i_ at h
 by_cases c:a=b
 ·rw[if_pos c] at h;cases h
 ·rw[if_neg c] at h ⊢
  by_cases d:hi<lo
  ·rw[if_pos d] at h;cases h
  ·rw[if_neg d] at h ⊢
   exact lH h
def mj (s:State) (name:Str) (ns:List Int) (r:Option (List Int)):Prop:=
 (name="why"/\∃a b:Nat,ns=[(a:Int),(b:Int)]/\a<s.n/\b<s.n/\r=some (ef s.n (Vbedac.edges s) (u7 s.n (Vbedac.edges s) a b)))\/
 (name="needless"/\∃n:Nat,ns=[(n:Int)]/\r=some (byKey s n (y0 s)))\/
 (name="if_of"/\∃(a b:Nat) (lo hi:Int),ns=[(a:Int),(b:Int),lo,hi]/\a<s.n/\b<s.n/\r=some (rh s a b lo hi))\/
 (name="slack"/\∃n:Nat,ns=[(n:Int)]/\r=some (byKey s n (p8 s)))\/
 (name="pinned"/\r=some (ef s.n (Vbedac.edges s) (rf s.n (Vbedac.edges s))))\/
 (name="order"/\∃a b:Nat,ns=[(a:Int),(b:Int)]/\a<s.n/\b<s.n/\r=some (ef s.n (Vbedac.edges s) (tx s.n (Vbedac.edges s) a b)))\/
 (name="web"/\r=some (ef s.n (Vbedac.edges s) (x8 s.n (Vbedac.edges s))))\/
 ((name ≠ "why"/\name ≠ "needless"/\name ≠ "if_of"/\name ≠ "slack"/\name ≠ "pinned"/\name ≠ "order"/\name ≠ "web")/\r=none)
def B2 (A:aW):Sp:=fun vs H Q _=>∃(k d c:Addr) (s:State) (ad:Nat->Addr) (ks:List Said) (name:Str) (kinds:List Str) (ns row:List Int) (r:Option (List Int)),vs=[.ref k,.ref c]/\bR A H k d s ad ks/\WS.Well s/\CallAt A H c name kinds ns row/\mj s name ns r/\
 (∀l,r=some l->Told H Q l)/\(r=none->∀H',aq H H'->Q .bE H')
theorem iX:aJ ["kept","call","n","numbers","edges","refusal"] ["kept","call"] (ay px):=by refine⟨rfl,rfl,rfl,?_,rfl,?_,?_⟩ <;> decide +kernel
theorem B3 (T:Txt K mg A):aY P w K mg base bF 7 A.g8 A.gK ["kept","call"] (B2 A):=by
 refine T.dF.ok iX (fun vs H Q E h=>?_) (fun bg Ar outer s H vs Q E hr h=>?_)
 ·obtain⟨k,d,c,s,ad,ks,name,kinds,ns,row,r,rfl,_⟩:=h
  rfl
 ·obtain⟨k,d,c,st,ad,ks,name,kinds,ns,row,r,rfl,hK,hW,hC,hQ,k1,k0⟩:=h
  obtain⟨dx,br⟩:=hK.ob
  obtain⟨dc,lk,ln,lr,hc,_,hn,aT⟩:=id hC
  have hN:=hW.Ki
  have h2:=hW.n2
  have Ul:=hW.D1
  have Ic:=De hW
  have J0:=o5 hW
  refine⟨_,(ae (aP (aO z5 (aD (pv 1) rfl) (bU (v:=.ref A.fg) rfl T.iO rfl) (by with_unfolding_all rfl)) (ao (ax iu)) aI)
   (ae (aG (i:=2) iX.nd rfl (Or.inl rfl) (aD (pv 0) rfl))
   (ae (aG (i:=3) iX.nd rfl (Or.inl rfl) (aD (pv 1) rfl))
   (ae (aG (i:=4) iX.nd rfl (Or.inl rfl) (aA (gQ T) (hr.mono (by decide:3<=6)) rfl T.gq T.cg.kp T.gp .nil aF (aa (gi (pv 0) T.ba T.bP (eD T) (hr.mono (by decide:2<=6)) T.dC .nil aF) ag)))
   (ae (aG (i:=5) iX.nd rfl (Or.inl rfl) (aA (ED T) (hr.mono (by decide:4<=6)) rfl T.xT T.eY.kp T.xS .nil aF (aa (pv 0) (aa (pv 1) (aa (pv 4) ag)))))
   (ae (aP (d3 (pK (pv 5))) (ao (ax (aR (aa (pv 5) ag)))) aI)
   (ae (aP (aO bZ (aD (pv 1) rfl) cF (aU _)) (ao (ax (aA (Uo T) (hr.mono (by decide:5<=6)) rfl T.Q5 T.uI.kp T.Q4 .nil aF (aa (pv 2) (aa (pv 4) (aa (bf aN (pv 3) aH (fun _ _=>rfl)) (aa (bf aN (pv 3) aH (fun _ _=>rfl)) ag))))))) aI)
   (ae (aP (aO bZ (aD (pv 1) rfl) cF (aU _)) (ao (ax (aA (JP T) (hr.mono (by decide:6<=6)) rfl T.Ek T.iZ.kp T.Ej .nil aF (aa (pv 2) (aa (pv 4) (aa (nS (kb hr) (aD (pv 0) rfl) (bf aN (pv 3) aH (fun _ _=>rfl)) (fun _ _=>rfl)) ag)))))) aI)
   (ae (aP (aO bZ (aD (pv 1) rfl) cF (aU _)) (ao (ax (aA (PJ T) (hr.mono (by decide:6<=6)) rfl T.KA T.om.kp T.Kz .nil aF (aa (pv 2) (aa (pv 4) (aa (rJ T.lC (uj T) (hr.mono (by decide:2<=6)) rfl T.w8 T.pA .nil aF (aa aH (aa aH (aa (bf aN (pv 3) aH (fun _ _=>rfl)) (aa (bf aN (pv 3) aH (fun _ _=>rfl)) (aa (bf aN (pv 3) aH (fun _ _=>rfl)) (aa (bf aN (pv 3) aH (fun _ _=>rfl)) ag))))))) ag)))))) aI)
   (ae (aP (aO bZ (aD (pv 1) rfl) cF (aU _)) (ao (ax (aA (PL T) (hr.mono (by decide:5<=6)) rfl T.KD T.oo.kp T.KC .nil aF (aa (pv 2) (aa (pv 4) (aa (nS (kb hr) (aD (pv 0) rfl) (bf aN (pv 3) aH (fun _ _=>rfl)) (fun _ _=>rfl)) ag)))))) aI)
   (ae (aP (aO bZ (aD (pv 1) rfl) cF (aU _)) (ao (ax (aA (N7 T) (hr.mono (by decide:5<=6)) rfl T.Io T.ma.kp T.Im .nil aF (aa (pv 2) (aa (pv 4) ag))))) aI)
   (ae (aP (aO bZ (aD (pv 1) rfl) cF (aU _)) (ao (ax (aA (PN T) (hr.mono (by decide:5<=6)) rfl T.KH T.oq.kp T.KG .nil aF (aa (pv 2) (aa (pv 4) (aa (bf aN (pv 3) aH (fun _ _=>rfl)) (aa (bf aN (pv 3) aH (fun _ _=>rfl)) ag))))))) aI)
   (ao (ax (aA (Uw T) (hr.mono (by decide:5<=6)) rfl T.Q7 T.uJ.kp T.Q6 .nil aF (aa (pv 2) (aa (pv 4) ag))))))))))))))))),?_⟩
  refine⟨_,rfl,c,_,dc,_,_,rfl,hc,T.az,T.au,rfl,A.fg,_,rfl,.inr (T.kK.sq _),rfl,rfl,_,rfl,?_⟩
  rcases hQ with ⟨rfl,a,b,rfl,ha,hb,rfl⟩|⟨rfl,n,rfl,rfl⟩|⟨rfl,a,b,lo,hi,rfl,ha,hb,rfl⟩|⟨rfl,n,rfl,rfl⟩|⟨rfl,rfl⟩|⟨rfl,a,b,rfl,ha,hb,rfl⟩|⟨rfl,rfl⟩|⟨⟨n1,n2,n3,n4,n5,n6,n7⟩,rfl⟩
  ·refine nP (by decide +kernel) ?_
   refine⟨_,rfl,k,_,_,_,_,rfl,br,T.ba,T.cn,rfl,?_⟩
   refine⟨_,rfl,c,_,_,_,_,rfl,hc,T.az,T.bo,rfl,?_⟩
   refine⟨_,rfl,k,dx,_,rfl,br,rfl,k,d,st,ad,ks,rfl,hK,hW,fun H1 p1 s1 h1=>?_⟩
   have gc:dN A H1 p1 (Vbedac.standing st):=(hK.same s1).wH h1 fun x hx=>(WS.bQ hx).1
   refine⟨p1,Vbedac.standing st,rfl,gc,by omega,fun H2 p2 s2 ke=>?_⟩
   have hE:a7 A H2 p2 (Vbedac.edges st):=ke
   have fi:=s1.trans s2
   refine⟨_,rfl,_,rfl,_,rfl,k,d,c,p2,st,ad,ks,_,kinds,_,row,none,rfl,hK.same fi,hW,hC.same fi,hE,.inr (.inr ⟨⟨by decide +kernel,by decide +kernel,by decide +kernel⟩,rfl⟩),fun H3 s3=>?_⟩
   have cI:=fi.trans s3
   have rd:=bj hE s3
   have ia:=cI _ _ hc
   have nQ:=cI _ _ hn
   have xk:=cI _ _ br
   refine⟨_,rfl,_,rfl,?_⟩
   cases cr:f6 st none with
   | some x=>
    rw[lG cr] at k1
    refine aS ?_
    exact⟨_,rfl,zl1,fun p hp=>((k1 _ rfl).after cI).new hp⟩
   | none=>
    refine aZ ?_
    obtain⟨e1,e2⟩:=lH (s:=st) (l:=u7 st.n (Vbedac.edges st) a b) cr
    rw[e1] at k1
    have hG:=(WS.gC hN).mp e2
    have k2:=(k1 _ rfl).after cI
    refine⟨_,rfl,c,_,dc,_,_,rfl,ia,T.az,T.au,rfl,rfl,_,rfl,bC ?_⟩
    exact⟨_,rfl,_,rfl,_,rfl,ln,_,_,_,rfl,rfl,aE.of nQ,a_ (j:=0) rfl,_,rfl,ln,_,_,_,rfl,rfl,aE.of nQ,a_ (j:=1) rfl,st.n,p2,a,b,_,rfl,rd,hN,hG,ha,hb,by omega,k2⟩
  ·refine nP (by decide +kernel) ?_
   refine⟨_,rfl,k,_,_,_,_,rfl,br,T.ba,T.cn,rfl,?_⟩
   refine⟨_,rfl,c,_,_,_,_,rfl,hc,T.az,T.bo,rfl,?_⟩
   refine⟨_,rfl,k,dx,_,rfl,br,rfl,k,d,st,ad,ks,rfl,hK,hW,fun H1 p1 s1 h1=>?_⟩
   have gc:dN A H1 p1 (Vbedac.standing st):=(hK.same s1).wH h1 fun x hx=>(WS.bQ hx).1
   refine⟨p1,Vbedac.standing st,rfl,gc,by omega,fun H2 p2 s2 ke=>?_⟩
   have hE:a7 A H2 p2 (Vbedac.edges st):=ke
   have fi:=s1.trans s2
   refine⟨_,rfl,_,rfl,_,rfl,k,d,c,p2,st,ad,ks,_,kinds,_,row,(e7 st n),rfl,hK.same fi,hW,hC.same fi,hE,.inl ⟨.inl rfl,n,rfl,rfl⟩,fun H3 s3=>?_⟩
   have cI:=fi.trans s3
   have rd:=bj hE s3
   have ia:=cI _ _ hc
   have nQ:=cI _ _ hn
   have xk:=cI _ _ br
   refine⟨_,rfl,_,rfl,?_⟩
   cases cr:f6 st (e7 st n) with
   | some x=>
    rw[A9 cr] at k1
    refine aS ?_
    exact⟨_,rfl,zl1,fun p hp=>((k1 _ rfl).after cI).new hp⟩
   | none=>
    refine aZ ?_
    obtain⟨x,hx,hon,e1,e2⟩:=A_ (f:=y0 st) cr
    rw[e1] at k1
    obtain⟨Gm,UA⟩:=WS.mB hx
    have hg:=(hK.same cI).get Gm
    have rj:=(hK.same cI).st x Gm
    rw[UA] at hg rj
    have ej:=hW.ab x Gm
    have hG:=(WS.gC hN).mp e2
    have k2:=(k1 _ rfl).after cI
    refine⟨_,rfl,c,_,dc,_,_,rfl,ia,T.az,T.au,rfl,rfl,_,rfl,aB (by decide +kernel) ?_⟩
    refine⟨_,rfl,c,_,dc,_,_,rfl,ia,T.az,T.au,rfl,rfl,_,rfl,bC ?_⟩
    exact⟨_,rfl,_,rfl,_,rfl,k,_,_,_,_,rfl,xk,T.ba,T.bD,rfl,_,rfl,ln,_,_,_,rfl,rfl,aE.of nQ,a_ (j:=0) rfl,d,_,rfl,hg,st.n,p2,ad n,Vbedac.standing st,x,rfl,rd,rj,hN,hG,ej.1,ej.2,by omega,by omega,k2⟩
  ·refine nP (by decide +kernel) ?_
   refine⟨_,rfl,k,_,_,_,_,rfl,br,T.ba,T.cn,rfl,?_⟩
   refine⟨_,rfl,c,_,_,_,_,rfl,hc,T.az,T.bo,rfl,?_⟩
   refine⟨_,rfl,k,dx,_,rfl,br,rfl,k,d,st,ad,ks,rfl,hK,hW,fun H1 p1 s1 h1=>?_⟩
   have gc:dN A H1 p1 (Vbedac.standing st):=(hK.same s1).wH h1 fun x hx=>(WS.bQ hx).1
   refine⟨p1,Vbedac.standing st,rfl,gc,by omega,fun H2 p2 s2 ke=>?_⟩
   have hE:a7 A H2 p2 (Vbedac.edges st):=ke
   have fi:=s1.trans s2
   refine⟨_,rfl,_,rfl,_,rfl,k,d,c,p2,st,ad,ks,_,kinds,_,row,(i_ a b lo hi),rfl,hK.same fi,hW,hC.same fi,hE,.inr (.inl ⟨rfl,a,b,lo,hi,rfl,rfl⟩),fun H3 s3=>?_⟩
   have cI:=fi.trans s3
   have rd:=bj hE s3
   have ia:=cI _ _ hc
   have nQ:=cI _ _ hn
   have xk:=cI _ _ br
   refine⟨_,rfl,_,rfl,?_⟩
   cases cr:f6 st (i_ a b lo hi) with
   | some x=>
    rw[JQ cr] at k1
    refine aS ?_
    exact⟨_,rfl,zl1,fun p hp=>((k1 _ rfl).after cI).new hp⟩
   | none=>
    refine aZ ?_
    obtain⟨e1,e2⟩:=JR cr
    rw[e1] at k1
    have hG:=(WS.gC hN).mp e2
    have k2:=(k1 _ rfl).after cI
    refine⟨_,rfl,c,_,dc,_,_,rfl,ia,T.az,T.au,rfl,rfl,_,rfl,aB (by decide +kernel) ?_⟩
    refine⟨_,rfl,c,_,dc,_,_,rfl,ia,T.az,T.au,rfl,rfl,_,rfl,aB (by decide +kernel) ?_⟩
    refine⟨_,rfl,c,_,dc,_,_,rfl,ia,T.az,T.au,rfl,rfl,_,rfl,bC ?_⟩
    refine⟨_,rfl,_,rfl,_,rfl,ln,_,_,_,rfl,rfl,aE.of nQ,a_ (j:=0) rfl,_,rfl,ln,_,_,_,rfl,rfl,aE.of nQ,a_ (j:=1) rfl,_,rfl,ln,_,_,_,rfl,rfl,aE.of nQ,a_ (j:=2) rfl,_,rfl,ln,_,_,_,rfl,rfl,aE.of nQ,a_ (j:=3) rfl,?_⟩
    intro x1 d1 n1 m1 e1'
    refine⟨x1,d1,⟨0,0,a,b,lo,hi,true⟩,rfl,rfl,ah,fun H4 c4 b4=>⟨rfl,?_⟩⟩
    have s4:aq H3 H4:=aq.made n1 m1 b4
    exact⟨st.n,p2,x1,_,⟨0,0,a,b,lo,hi,true⟩,rfl,bj rd s4,⟨d1,c4⟩,hN,hG,ha,hb,by omega,by omega,k2.after s4⟩
  ·refine nP (by decide +kernel) ?_
   refine⟨_,rfl,k,_,_,_,_,rfl,br,T.ba,T.cn,rfl,?_⟩
   refine⟨_,rfl,c,_,_,_,_,rfl,hc,T.az,T.bo,rfl,?_⟩
   refine⟨_,rfl,k,dx,_,rfl,br,rfl,k,d,st,ad,ks,rfl,hK,hW,fun H1 p1 s1 h1=>?_⟩
   have gc:dN A H1 p1 (Vbedac.standing st):=(hK.same s1).wH h1 fun x hx=>(WS.bQ hx).1
   refine⟨p1,Vbedac.standing st,rfl,gc,by omega,fun H2 p2 s2 ke=>?_⟩
   have hE:a7 A H2 p2 (Vbedac.edges st):=ke
   have fi:=s1.trans s2
   refine⟨_,rfl,_,rfl,_,rfl,k,d,c,p2,st,ad,ks,_,kinds,_,row,(e7 st n),rfl,hK.same fi,hW,hC.same fi,hE,.inl ⟨.inr rfl,n,rfl,rfl⟩,fun H3 s3=>?_⟩
   have cI:=fi.trans s3
   have rd:=bj hE s3
   have ia:=cI _ _ hc
   have nQ:=cI _ _ hn
   have xk:=cI _ _ br
   refine⟨_,rfl,_,rfl,?_⟩
   cases cr:f6 st (e7 st n) with
   | some x=>
    rw[A9 cr] at k1
    refine aS ?_
    exact⟨_,rfl,zl1,fun p hp=>((k1 _ rfl).after cI).new hp⟩
   | none=>
    refine aZ ?_
    obtain⟨x,hx,hon,e1,e2⟩:=A_ (f:=p8 st) cr
    rw[e1] at k1
    obtain⟨Gm,UA⟩:=WS.mB hx
    have hg:=(hK.same cI).get Gm
    have rj:=(hK.same cI).st x Gm
    rw[UA] at hg rj
    have ej:=hW.ab x Gm
    have hG:=(WS.gC hN).mp e2
    have k2:=(k1 _ rfl).after cI
    refine⟨_,rfl,c,_,dc,_,_,rfl,ia,T.az,T.au,rfl,rfl,_,rfl,aB (by decide +kernel) ?_⟩
    refine⟨_,rfl,c,_,dc,_,_,rfl,ia,T.az,T.au,rfl,rfl,_,rfl,aB (by decide +kernel) ?_⟩
    refine⟨_,rfl,c,_,dc,_,_,rfl,ia,T.az,T.au,rfl,rfl,_,rfl,aB (by decide +kernel) ?_⟩
    refine⟨_,rfl,c,_,dc,_,_,rfl,ia,T.az,T.au,rfl,rfl,_,rfl,bC ?_⟩
    have hxs:x∈Vbedac.standing st:=mem_filter.mpr ⟨Gm,hon⟩
    obtain⟨⟨v,hv⟩,u,hu⟩:=WS.E5 (n:=st.n) (l:=Vbedac.standing st) hN hG hxs
    have e3:p8 st x=[-u-x.lo,x.hi-v]:=by
     unfold p8 Vbedac.edges
     rw[hu,hv];rfl
    rw[e3] at k2
    exact⟨_,rfl,_,rfl,_,rfl,k,_,_,_,_,rfl,xk,T.ba,T.bD,rfl,_,rfl,ln,_,_,_,rfl,rfl,aE.of nQ,a_ (j:=0) rfl,d,_,rfl,hg,st.n,p2,ad n,_,x,u,v,rfl,rd,rj,hN,hG,ej.1,ej.2,by omega,hu,hv,k2⟩
  ·refine nP (by decide +kernel) ?_
   refine⟨_,rfl,k,_,_,_,_,rfl,br,T.ba,T.cn,rfl,?_⟩
   refine⟨_,rfl,c,_,_,_,_,rfl,hc,T.az,T.bo,rfl,?_⟩
   refine⟨_,rfl,k,dx,_,rfl,br,rfl,k,d,st,ad,ks,rfl,hK,hW,fun H1 p1 s1 h1=>?_⟩
   have gc:dN A H1 p1 (Vbedac.standing st):=(hK.same s1).wH h1 fun x hx=>(WS.bQ hx).1
   refine⟨p1,Vbedac.standing st,rfl,gc,by omega,fun H2 p2 s2 ke=>?_⟩
   have hE:a7 A H2 p2 (Vbedac.edges st):=ke
   have fi:=s1.trans s2
   refine⟨_,rfl,_,rfl,_,rfl,k,d,c,p2,st,ad,ks,_,kinds,_,row,none,rfl,hK.same fi,hW,hC.same fi,hE,.inr (.inr ⟨⟨by decide +kernel,by decide +kernel,by decide +kernel⟩,rfl⟩),fun H3 s3=>?_⟩
   have cI:=fi.trans s3
   have rd:=bj hE s3
   have ia:=cI _ _ hc
   have nQ:=cI _ _ hn
   have xk:=cI _ _ br
   refine⟨_,rfl,_,rfl,?_⟩
   cases cr:f6 st none with
   | some x=>
    rw[lG cr] at k1
    refine aS ?_
    exact⟨_,rfl,zl1,fun p hp=>((k1 _ rfl).after cI).new hp⟩
   | none=>
    refine aZ ?_
    obtain⟨e1,e2⟩:=lH (s:=st) (l:=rf st.n (Vbedac.edges st)) cr
    rw[e1] at k1
    have hG:=(WS.gC hN).mp e2
    have k2:=(k1 _ rfl).after cI
    refine⟨_,rfl,c,_,dc,_,_,rfl,ia,T.az,T.au,rfl,rfl,_,rfl,aB (by decide +kernel) ?_⟩
    refine⟨_,rfl,c,_,dc,_,_,rfl,ia,T.az,T.au,rfl,rfl,_,rfl,aB (by decide +kernel) ?_⟩
    refine⟨_,rfl,c,_,dc,_,_,rfl,ia,T.az,T.au,rfl,rfl,_,rfl,aB (by decide +kernel) ?_⟩
    refine⟨_,rfl,c,_,dc,_,_,rfl,ia,T.az,T.au,rfl,rfl,_,rfl,aB (by decide +kernel) ?_⟩
    refine⟨_,rfl,c,_,dc,_,_,rfl,ia,T.az,T.au,rfl,rfl,_,rfl,bC ?_⟩
    exact⟨_,rfl,_,rfl,st.n,p2,_,rfl,rd,hN,hG,by omega,by omega,k2⟩
  ·refine nP (by decide +kernel) ?_
   refine⟨_,rfl,k,_,_,_,_,rfl,br,T.ba,T.cn,rfl,?_⟩
   refine⟨_,rfl,c,_,_,_,_,rfl,hc,T.az,T.bo,rfl,?_⟩
   refine⟨_,rfl,k,dx,_,rfl,br,rfl,k,d,st,ad,ks,rfl,hK,hW,fun H1 p1 s1 h1=>?_⟩
   have gc:dN A H1 p1 (Vbedac.standing st):=(hK.same s1).wH h1 fun x hx=>(WS.bQ hx).1
   refine⟨p1,Vbedac.standing st,rfl,gc,by omega,fun H2 p2 s2 ke=>?_⟩
   have hE:a7 A H2 p2 (Vbedac.edges st):=ke
   have fi:=s1.trans s2
   refine⟨_,rfl,_,rfl,_,rfl,k,d,c,p2,st,ad,ks,_,kinds,_,row,none,rfl,hK.same fi,hW,hC.same fi,hE,.inr (.inr ⟨⟨by decide +kernel,by decide +kernel,by decide +kernel⟩,rfl⟩),fun H3 s3=>?_⟩
   have cI:=fi.trans s3
   have rd:=bj hE s3
   have ia:=cI _ _ hc
   have nQ:=cI _ _ hn
   have xk:=cI _ _ br
   refine⟨_,rfl,_,rfl,?_⟩
   cases cr:f6 st none with
   | some x=>
    rw[lG cr] at k1
    refine aS ?_
    exact⟨_,rfl,zl1,fun p hp=>((k1 _ rfl).after cI).new hp⟩
   | none=>
    refine aZ ?_
    obtain⟨e1,e2⟩:=lH (s:=st) (l:=tx st.n (Vbedac.edges st) a b) cr
    rw[e1] at k1
    have hG:=(WS.gC hN).mp e2
    have k2:=(k1 _ rfl).after cI
    refine⟨_,rfl,c,_,dc,_,_,rfl,ia,T.az,T.au,rfl,rfl,_,rfl,aB (by decide +kernel) ?_⟩
    refine⟨_,rfl,c,_,dc,_,_,rfl,ia,T.az,T.au,rfl,rfl,_,rfl,aB (by decide +kernel) ?_⟩
    refine⟨_,rfl,c,_,dc,_,_,rfl,ia,T.az,T.au,rfl,rfl,_,rfl,aB (by decide +kernel) ?_⟩
    refine⟨_,rfl,c,_,dc,_,_,rfl,ia,T.az,T.au,rfl,rfl,_,rfl,aB (by decide +kernel) ?_⟩
    refine⟨_,rfl,c,_,dc,_,_,rfl,ia,T.az,T.au,rfl,rfl,_,rfl,aB (by decide +kernel) ?_⟩
    refine⟨_,rfl,c,_,dc,_,_,rfl,ia,T.az,T.au,rfl,rfl,_,rfl,bC ?_⟩
    exact⟨_,rfl,_,rfl,_,rfl,ln,_,_,_,rfl,rfl,aE.of nQ,a_ (j:=0) rfl,_,rfl,ln,_,_,_,rfl,rfl,aE.of nQ,a_ (j:=1) rfl,st.n,p2,a,b,_,rfl,rd,hN,hG,ha,hb,by omega,k2⟩
  ·refine nP (by decide +kernel) ?_
   refine⟨_,rfl,k,_,_,_,_,rfl,br,T.ba,T.cn,rfl,?_⟩
   refine⟨_,rfl,c,_,_,_,_,rfl,hc,T.az,T.bo,rfl,?_⟩
   refine⟨_,rfl,k,dx,_,rfl,br,rfl,k,d,st,ad,ks,rfl,hK,hW,fun H1 p1 s1 h1=>?_⟩
   have gc:dN A H1 p1 (Vbedac.standing st):=(hK.same s1).wH h1 fun x hx=>(WS.bQ hx).1
   refine⟨p1,Vbedac.standing st,rfl,gc,by omega,fun H2 p2 s2 ke=>?_⟩
   have hE:a7 A H2 p2 (Vbedac.edges st):=ke
   have fi:=s1.trans s2
   refine⟨_,rfl,_,rfl,_,rfl,k,d,c,p2,st,ad,ks,_,kinds,_,row,none,rfl,hK.same fi,hW,hC.same fi,hE,.inr (.inr ⟨⟨by decide +kernel,by decide +kernel,by decide +kernel⟩,rfl⟩),fun H3 s3=>?_⟩
   have cI:=fi.trans s3
   have rd:=bj hE s3
   have ia:=cI _ _ hc
   have nQ:=cI _ _ hn
   have xk:=cI _ _ br
   refine⟨_,rfl,_,rfl,?_⟩
   cases cr:f6 st none with
   | some x=>
    rw[lG cr] at k1
    refine aS ?_
    exact⟨_,rfl,zl1,fun p hp=>((k1 _ rfl).after cI).new hp⟩
   | none=>
    refine aZ ?_
    obtain⟨e1,e2⟩:=lH (s:=st) (l:=x8 st.n (Vbedac.edges st)) cr
    rw[e1] at k1
    have hG:=(WS.gC hN).mp e2
    have k2:=(k1 _ rfl).after cI
    refine⟨_,rfl,c,_,dc,_,_,rfl,ia,T.az,T.au,rfl,rfl,_,rfl,aB (by decide +kernel) ?_⟩
    refine⟨_,rfl,c,_,dc,_,_,rfl,ia,T.az,T.au,rfl,rfl,_,rfl,aB (by decide +kernel) ?_⟩
    refine⟨_,rfl,c,_,dc,_,_,rfl,ia,T.az,T.au,rfl,rfl,_,rfl,aB (by decide +kernel) ?_⟩
    refine⟨_,rfl,c,_,dc,_,_,rfl,ia,T.az,T.au,rfl,rfl,_,rfl,aB (by decide +kernel) ?_⟩
    refine⟨_,rfl,c,_,dc,_,_,rfl,ia,T.az,T.au,rfl,rfl,_,rfl,aB (by decide +kernel) ?_⟩
    refine⟨_,rfl,c,_,dc,_,_,rfl,ia,T.az,T.au,rfl,rfl,_,rfl,aB (by decide +kernel) ?_⟩
    exact⟨_,rfl,_,rfl,st.n,p2,_,rfl,rd,hN,hG,by omega,by omega,k2⟩
  ·refine N8 (IP (l:=["why","needless","if_of","slack","pinned","order","web"]) ?_) ?_
   ·intro x hx
    simp only[mem_cons,List.not_mem_nil,or_false] at hx
    rcases hx with rfl | rfl | rfl | rfl | rfl | rfl | rfl <;> assumption
   ·exact k0 rfl H fun _ _ h=>h
theorem Ba (l:List Nat):((l.map fun (n:Nat)=>V.int (n:Int)).all uv)=true:=by
 rw[List.all_map]
 exact all_eq_true.mpr fun _ _=>rfl
theorem Dg (y:Nat) (l:List Nat):rp (V.int (y:Int)) (l.map fun (n:Nat)=>V.int (n:Int))=l.contains y:=by
 unfold rp
 rw[List.any_map,Bool.eq_iff_iff]
 rw[any_eq_true,List.contains_iff_mem]
 constructor
 ·rintro⟨x,hx,h⟩
  have:((x:Int)==(y:Int))=true:=h
  have:x=y:=by have:=eq_of_beq this;omega
  rw[<- this];exact hx
 ·intro h
  exact⟨y,h,by show ((y:Int)==(y:Int))=true;simp⟩
theorem UB {x:V} {xs:List V} {b:Bool} {X Y:Prop} (h:rp x xs=b) (z:if b=true then X else Y):if (if false=true then !rp x xs else rp x xs)=true then X else Y:=by
 rw[if_neg Bool.false_ne_true,h]
 exact z
theorem K1 {x:V} {xs:List V} {b:Bool} {X Y:Prop} (h:rp x xs=b) (z:if b=true then Y else X):if (if true=true then !rp x xs else rp x xs)=true then X else Y:=by
 rw[if_pos rfl,h]
 cases b with
 | true=>exact aZ (by rw[if_pos rfl] at z;exact z)
 | false=>exact aS (by rw[if_neg Bool.false_ne_true] at z;exact z)
theorem PR {c:List Nat} {z:Nat} (h:c.getLast?=some z):z0 (c.map fun (n:Nat)=>V.int (n:Int)) (-1)=some (.int (z:Int)):=by
 have h9:c≠[]:=by intro e;rw[e] at h;cases h
 obtain⟨k,hk⟩:∃k,c.length=k+1:=⟨c.length-1,by have:=List.length_pos_iff.mpr h9;omega⟩
 refine u6 (k:=k) (by rw[length_map];exact hk) ?_
 rw[getElem?_map]
 rw[List.getLast?_eq_getElem?,hk] at h
 have:k+1-1=k:=by omega
 rw[this] at h
 rw[h];rfl
theorem Dh {α β:Type} {f:α->List β} {B:Nat}:∀{l:List α},(∀x,x∈l->(f x).length<=B)->(l.flatMap f).length<=B*l.length
 | [],_=>by simp
 | x::l,h=>by
  rw[List.flatMap_cons,length_append,length_cons,Nat.mul_succ]
  have h1:=h x (by simp)
  have h2:=Dh (l:=l) fun y hy=>h y (by simp[hy])
  omega
theorem N9 {names c:List Nat}:(WS.ext names c).length<=names.length:=by
 unfold WS.ext
 rw[length_map]
 exact length_filter_le _ _
theorem IQ {names:List Nat} (hs:names.Pairwise (·< ·)) (hl:names.length<=24):∀k,(Vbedac.parts k names).length<=24 ^ k
 | 0=>by rw[WS.uy];simp
 | k+1=>by
  rw[<- WS.qo names hs k]
  have h1:=Dh (f:=WS.ext names) (B:=24) (l:=Vbedac.parts k names) fun c _=>Nat.le_trans N9 hl
  have h2:=IQ hs hl k
  rw[Nat.pow_succ]
  omega
theorem IS {names:List Nat} {c:List Nat} {j y:Nat} (h:names[j]?=some y):((names.take (j+1)).filter (WS.cN c)).map (fun y=>c++[y])=((names.take j).filter (WS.cN c)).map (fun y=>c++[y])++(if WS.cN c y=true then [c++[y]] else []):=by
 rw[i8 h,map_append]
 split <;> rfl
def zL (A:aW):Sp:=fun vs H Q _=>∃(lc ln:Addr) (cs:List (List Nat)) (names:List Nat),vs=[.ref lc,.ref ln]/\wI H lc cs/\bS H ln names/\cs.length<=100000/\names.length<=100/\(∀c,c∈cs->c.length<=1000)/\
 ∀(H':Hp) (p:Addr),aq H H'->H p=none->wI H' p (cs.flatMap (WS.ext names))->Q (.ref p) H'
theorem jz:aJ ["choices","names","longer","choice","name"] ["choices","names"] (ay nB):=by refine⟨rfl,rfl,rfl,?_,rfl,?_,?_⟩ <;> decide +kernel
theorem zM (T:Txt K mg A):aY P w K mg base bF 1 A.fV A.fu ["choices","names"] (zL A):=by
 refine T.cO.ok jz (fun vs H Q E h=>?_) (fun bg Ar outer s H vs Q E hr h=>?_)
 ·obtain⟨lc,ln,cs,names,rfl,_⟩:=h
  rfl
 ·obtain⟨lc,ln,cs,names,rfl,⟨as,hl,hA⟩,hn,oV,Ge,zc,k⟩:=h
  have zb:H ln=some (.lst (names.map fun (n:Nat)=>V.int (n:Int))):=hn
  refine⟨_,(ae (aG (i:=2) jz.nd rfl (Or.inl rfl) (aR ag))
   (ae (cq PassesOwn.never rfl (bz (pv 0)) (a6 (i:=3) jz.nd rfl (Or.inl rfl))
    (ao (cq PassesOwn.never rfl (bz (pv 1)) (a6 (i:=4) jz.nd rfl (Or.inl rfl))
    (ao (aP (PW.pt (Bq (aO bZ (bX bx (by rfl) T.d9 PySem.boot_len (aa (pv 3) ag)) aH (aU _)) (xn (aO yo (pv 4) (bf aN (pv 3) (mZ j_ aH) (fun _ _=>rfl)) (aU _))))) (ao (cv (fG PySem.F.plainAttrs_list PySem.F.slot_list_append PySem.F.type_list_append dn (pv 2) (aa (dM sJ (pv 3) (aR (aa (pv 4) ag))) ag)))) aI)))))
   (ao (ax (pv 2))))),?_⟩
  refine⟨zl0,fun q hq=>?_⟩
  have s1:aq H (upd H q (.lst [])):=aq.new hq
  refine⟨_,rfl,lc,rfl,⟨_,aE.of (s1 _ _ hl)⟩,ck (K:=K) (a:=lc) (xs:=as.map V.ref) (fun i σ H'=>∃v3 v4 ds,σ=[some (.ref lc),some (.ref ln),some (.ref q),v3,v4]/\aq H H'/\H' q=some (.lst (ds.map V.ref))/\bc (bS H') ds ((cs.take i).flatMap (WS.ext names)))
   ⟨none,none,[],rfl,s1,ah,bc.nil⟩ (fun i σ H' _ ⟨_,_,_,_,s2,_⟩=>aE.of (s2 _ _ hl)) ?_ ?_⟩
  ·rintro i y σ H' hi ⟨v3,v4,ds,rfl,s2,oH,hD⟩
   obtain⟨a,ha,rfl⟩:=bh hi
   obtain⟨c,hc,zB⟩:=hA.get ha
   have k4:i<cs.length:=(List.getElem?_eq_some_iff.mp hc).1
   have hcl1:=zc c (mem_of_getElem? hc)
   have hL:((cs.take i).flatMap (WS.ext names)).length<=100*i:=by
    have:=Dh (f:=WS.ext names) (B:=100) (l:=cs.take i) fun c _=>Nat.le_trans N9 Ge
    rw[length_take] at this
    omega
   have uB:(cs.take (i+1)).flatMap (WS.ext names)=(cs.take i).flatMap (WS.ext names)++WS.ext names c:=by
    rw[take_snoc hc,List.flatMap_append];simp
   rw[uB]
   generalize Ut:(cs.take i).flatMap (WS.ext names)=L at hD hL
   refine⟨_,rfl,ln,rfl,⟨_,aE.of (s2 _ _ zb)⟩,ck (K:=K) (a:=ln) (xs:=names.map fun (n:Nat)=>V.int (n:Int)) (fun j σ dI=>∃v4 ds,σ=[some (.ref lc),some (.ref ln),some (.ref q),some (.ref a),v4]/\aq H dI/\dI q=some (.lst (ds.map V.ref))/\bc (bS dI) ds (L++((names.take j).filter (WS.cN c)).map fun y=>c++[y]))
    ⟨v4,ds,rfl,s2,oH,(by simpa using hD)⟩ (fun j σ dI _ ⟨_,_,_,s3,_⟩=>aE.of (s3 _ _ zb)) ?_ ?_⟩
   ·rintro j y σ dI hj ⟨v4,ds,rfl,s3,ee,ui⟩
    obtain⟨x,hx,rfl⟩:=get_map hj
    have Al:j<names.length:=(List.getElem?_eq_some_iff.mp hx).1
    have oJ:=s3 _ _ zB
    have Kq:ds.length<=100*i+j:=by
     rw[ui.1,length_append,length_map]
     have:=length_filter_le (WS.cN c) (names.take j)
     rw[length_take] at this
     omega
    have body:WS.cN c x=true->∀l1,dI l1=none->∀l2,upd dI l1 (.lst [V.int (x:Int)]) l2=none->
      ∃K2,aq H (upd (upd (upd dI l1 (.lst [V.int (x:Int)])) l2 (.lst ((c.map fun (n:Nat)=>V.int (n:Int))++[V.int (x:Int)]))) q (.lst (ds.map V.ref++[V.ref l2])))/\
       upd (upd (upd dI l1 (.lst [V.int (x:Int)])) l2 (.lst ((c.map fun (n:Nat)=>V.int (n:Int))++[V.int (x:Int)]))) q (.lst (ds.map V.ref++[V.ref l2])) q=some (.lst (K2.map V.ref))/\
       bc (bS (upd (upd (upd dI l1 (.lst [V.int (x:Int)])) l2 (.lst ((c.map fun (n:Nat)=>V.int (n:Int))++[V.int (x:Int)]))) q (.lst (ds.map V.ref++[V.ref l2])))) K2 (L++((names.take (j+1)).filter (WS.cN c)).map fun y=>c++[y]):=by
     intro a9 l1 jA l2 jo
     have t1:aq dI (upd dI l1 (.lst [V.int (x:Int)])):=aq.new jA
     have t2:aq (upd dI l1 (.lst [V.int (x:Int)])) (upd (upd dI l1 (.lst [V.int (x:Int)])) l2 (.lst ((c.map fun (n:Nat)=>V.int (n:Int))++[V.int (x:Int)]))):=aq.new jo
     have UC:=t1.trans t2
     have eC:=UC _ _ ee
     have hl2q:l2≠q:=fun z=>aK (t1 _ _ ee) jo z.symm
     have HJ:bS (upd (upd dI l1 (.lst [V.int (x:Int)])) l2 (.lst ((c.map fun (n:Nat)=>V.int (n:Int))++[V.int (x:Int)]))) l2 (c++[x]):=by
      show upd _ _ _ _=_
      rw[ah,map_append];rfl
     refine⟨ds++[l2],aq.but (s3.trans UC) hq bA.upd,(by rw[ah,map_append];rfl),?_⟩
     rw[IS hx,if_pos a9,<- append_assoc]
     refine bc.snoc ⟨ui.1,fun m b r h1 h2=>?_⟩ ?_
     ·have h3:bS _ b r:=UC _ _ (ui.2 m b r h1 h2)
      have hrne:r≠[]:=by
       have:=mem_of_getElem? h2
       rcases mem_append.mp this with h | h
       ·rw[<- Ut] at h
        obtain⟨c',_,h⟩:=List.mem_flatMap.mp h
        obtain⟨z,_,rfl⟩:=mem_map.mp h
        simp
       ·obtain⟨z,_,rfl⟩:=mem_map.mp h
        simp
      show upd _ _ _ _=_
      rw[aw (iF h3 hrne eC)]
      exact h3
     ·show upd _ _ _ _=_
      rw[aw hl2q]
      exact HJ
    have skip:WS.cN c x=false->((names.take (j+1)).filter (WS.cN c)).map (fun y=>c++[y])=((names.take j).filter (WS.cN c)).map fun y=>c++[y]:=by
     intro h
     rw[IS hx,h,if_neg Bool.false_ne_true,append_nil]
    refine⟨_,rfl,a,_,rfl,.inl (aE.of oJ),rfl,_,rfl,?_⟩
    rw[length_map]
    cases cl:c.getLast? with
    | none=>
     have MJ:c=[]:=List.getLast?_eq_none_iff.mp cl
     have a9:WS.cN c x=true:=by unfold WS.cN;rw[cl]
     refine nJ (by rw[MJ];rfl) ?_
     refine aS ?_
     refine⟨_,rfl,.inl ⟨rfl,_,aE.of ee⟩,_,rfl,_,rfl,zl1,fun l1 jA=>?_⟩
     have t1:aq dI (upd dI l1 (.lst [V.int (x:Int)])):=aq.new jA
     refine⟨a,l1,_,_,rfl,rfl,t1 _ _ oJ,ah,(by rw[length_map,sizeLine_eq];simp;omega),fun l2 jo=>?_⟩
     refine⟨q,_,_,rfl,rfl,(aq.new jo) _ _ (t1 _ _ ee),(by rw[length_map,sizeLine_eq];omega),?_⟩
     obtain⟨K2,b1,b2,b3⟩:=body a9 l1 jA l2 jo
     exact⟨_,K2,rfl,b1,b2,b3⟩
    | some z=>
     have h9:c≠[]:=by intro e;rw[e] at cl;cases cl
     refine nL (by have:=List.length_pos_iff.mpr h9;omega) ?_
     refine⟨_,rfl,_,rfl,_,rfl,a,_,_,_,rfl,rfl,aE.of oJ,PR cl,_,_,rfl,rfl,_,rfl,?_⟩
     by_cases d:(x:Int) > (z:Int)
     ·refine sf d ?_
      have a9:WS.cN c x=true:=by unfold WS.cN;rw[cl];simp;omega
      refine⟨_,rfl,.inl ⟨rfl,_,aE.of ee⟩,_,rfl,_,rfl,zl1,fun l1 jA=>?_⟩
      have t1:aq dI (upd dI l1 (.lst [V.int (x:Int)])):=aq.new jA
      refine⟨a,l1,_,_,rfl,rfl,t1 _ _ oJ,ah,(by rw[length_map,sizeLine_eq];simp;omega),fun l2 jo=>?_⟩
      refine⟨q,_,_,rfl,rfl,(aq.new jo) _ _ (t1 _ _ ee),(by rw[length_map,sizeLine_eq];omega),?_⟩
      obtain⟨K2,b1,b2,b3⟩:=body a9 l1 jA l2 jo
      exact⟨_,K2,rfl,b1,b2,b3⟩
     ·refine sg d ?_
      have a9:WS.cN c x=false:=by unfold WS.cN;rw[cl];simp;omega
      refine⟨_,ds,rfl,s3,ee,?_⟩
      rw[skip a9]
      exact ui
   ·rintro σ dI ⟨v4,ds,rfl,s3,ee,ui⟩
    rw[length_map,take_length] at ui
    exact⟨_,_,ds,rfl,s3,ee,ui⟩
  ·rintro σ H' ⟨v3,v4,ds,rfl,s2,oH,hD⟩
   rw[length_map,hA.1,take_length] at hD
   exact⟨_,rfl,k H' q s2 hq ⟨ds,oH,hD⟩⟩
def GX (A:aW):Sp:=fun vs H Q _=>∃(lc ln:Addr) (c names:List Nat),vs=[.ref lc,.ref ln]/\bS H lc c/\bS H ln names/\Q (.bl (c.any fun y=>names.contains y)) H
theorem zH:aJ ["choice","names","name"] ["choice","names"] (ay vx):=by refine⟨rfl,rfl,rfl,?_,rfl,?_,?_⟩ <;> decide +kernel
theorem GY (T:Txt K mg A):aY P w K mg base bF 1 A.ll A.jR ["choice","names"] (GX A):=by
 refine T.gv.ok zH (fun vs H Q E h=>?_) (fun bg Ar outer s H vs Q E hr h=>?_)
 ·obtain⟨lc,ln,c,names,rfl,_⟩:=h
  rfl
 ·obtain⟨lc,ln,c,names,rfl,hc,hn,k⟩:=h
  have zR:H lc=some (.lst (c.map fun (n:Nat)=>V.int (n:Int))):=hc
  refine⟨_,(ae (cq PassesOwn.never rfl (bz (pv 0)) (a6 (i:=2) zH.nd rfl (Or.inl rfl))
    (ao (aP (aO MF (pv 2) (pv 1) (by with_unfolding_all rfl)) (ao (ax iG)) aI)))
   (ao (ax iG))),?_⟩
  refine⟨_,rfl,lc,rfl,⟨_,aE.of zR⟩,ck (K:=K) (a:=lc) (xs:=c.map fun (n:Nat)=>V.int (n:Int)) (fun i σ H'=>∃v2,H'=H/\σ=[some (.ref lc),some (.ref ln),v2]/\((c.take i).any fun y=>names.contains y)=false)
   ⟨none,rfl,rfl,rfl⟩ (fun i σ H' _ ⟨_,e,_⟩=>by rw[e];exact aE.of zR) ?_ ?_⟩
  ·rintro i y σ H' hi ⟨v2,rfl,rfl,hf⟩
   obtain⟨x,hx,rfl⟩:=get_map hi
   refine⟨_,rfl,_,rfl,ln,_,rfl,.inl (aE.of hn),rfl,Ba _,_,rfl,UB (Dg x names) ?_⟩
   cases d:names.contains x with
   | true=>
    refine aS ?_
    have:(c.any fun y=>names.contains y)=true:=any_eq_true.mpr ⟨x,mem_of_getElem? hx,d⟩
    rw[this] at k
    exact k
   | false=>
    refine aZ ?_
    refine⟨_,rfl,rfl,?_⟩
    rw[take_snoc hx,List.any_append,hf]
    simp[d]
    simpa using d
  ·rintro σ H' ⟨v2,rfl,rfl,hf⟩
   rw[length_map,take_length] at hf
   rw[hf] at k
   exact k
def breaks (c:List Nat) (rs:List (List Nat)):Bool:=rs.all fun r=>c.any fun y=>r.contains y
def GZ (A:aW):Sp:=fun vs H Q _=>∃(lc lr:Addr) (c:List Nat) (rs:List (List Nat)),vs=[.ref lc,.ref lr]/\bS H lc c/\wI H lr rs/\Q (.bl (breaks c rs)) H
theorem zI:aJ ["choice","rings","names"] ["choice","rings"] (ay vy):=by refine⟨rfl,rfl,rfl,?_,rfl,?_,?_⟩ <;> decide +kernel
theorem G0 (T:Txt K mg A):aY P w K mg base bF 2 A.lp A.jS ["choice","rings"] (GZ A):=by
 refine T.gw.ok zI (fun vs H Q E h=>?_) (fun bg Ar outer s H vs Q E hr h=>?_)
 ·obtain⟨lc,lr,c,rs,rfl,_⟩:=h
  rfl
 ·obtain⟨lc,lr,c,rs,rfl,hc,⟨as,hl,hA⟩,k⟩:=h
  refine⟨_,(ae (cq PassesOwn.never rfl (bz (pv 1)) (a6 (i:=2) zI.nd rfl (Or.inl rfl))
    (ao (aP (kZ (fz (aA (GY T) (hr.mono (by decide:1<=1)) rfl T.AG T.gv.kp T.AF .nil aF (aa (pv 0) (aa (pv 2) ag))))) (ao (ax iG)) aI)))
   (ao (ax iG))),?_⟩
  unfold breaks at k
  refine⟨_,rfl,lr,rfl,⟨_,aE.of hl⟩,ck (K:=K) (a:=lr) (xs:=as.map V.ref) (fun i σ H'=>∃v2,H'=H/\σ=[some (.ref lc),some (.ref lr),v2]/\((rs.take i).all fun r=>c.any fun y=>r.contains y)=true)
   ⟨none,rfl,rfl,rfl⟩ (fun i σ H' _ ⟨_,e,_⟩=>by rw[e];exact aE.of hl) ?_ ?_⟩
  ·rintro i y σ H' hi ⟨v2,rfl,rfl,hf⟩
   obtain⟨a,ha,rfl⟩:=bh hi
   obtain⟨r,rG,zB⟩:=hA.get ha
   refine⟨_,rfl,_,rfl,lc,a,c,r,rfl,hc,zB,_,rfl,?_⟩
   cases d:c.any fun y=>r.contains y with
   | false=>
    refine aS ?_
    have:(rs.all fun r=>c.any fun y=>r.contains y)=false:=by
     rw[Bool.eq_false_iff]
     intro z
     have:=all_eq_true.mp z r (mem_of_getElem? rG)
     rw[d] at this;cases this
    rw[this] at k
    exact k
   | true=>
    refine aZ ?_
    refine⟨_,rfl,rfl,?_⟩
    rw[take_snoc rG,List.all_append,hf,List.all_cons,d]
    rfl
  ·rintro σ H' ⟨v2,rfl,rfl,hf⟩
   rw[length_map,hA.1,take_length] at hf
   rw[hf] at k
   exact k
def tD (H:Hp) (d:Addr) (nm:Said->Nat) (xs:List Said):Prop:=∃kvs,H d=some (.dK kvs)/\∀x,x∈xs->dJ kvs (Sum.inl (x.key:Int))=some (.int (nm x:Int))
theorem tD.same {H H':Hp} {d:Addr} {nm:Said->Nat} {xs:List Said} (h:tD H d nm xs) (s:aq H H'):tD H' d nm xs:=by
 obtain⟨kvs,h1,h2⟩:=h
 exact⟨kvs,s _ _ h1,h2⟩
theorem tD.get {H:Hp} {d:Addr} {nm:Said->Nat} {xs:List Said} (h:tD H d nm xs) {x:Said} (hx:x∈xs):jC H d (.int x.key) (some (.int (nm x:Int))):=by
 obtain⟨kvs,h1,h2⟩:=h
 have:=jC.k (k:=Sum.inl (x.key:Int)) h1
 rw[h2 x hx] at this
 exact this
theorem Di {A:aW} {H:Hp} {q x:Addr} {as:List Addr} {es:List Said} {e:Said} (hq:H q=some (.lst (as.map V.ref))) (h:bc (jw A H) as es) (he:jw A H x e) :
  upd H q (.lst (as.map V.ref++[.ref x])) q=some (.lst ((as++[x]).map V.ref))/\bc (jw A (upd H q (.lst (as.map V.ref++[.ref x])))) (as++[x]) (es++[e]):=by
 have key:∀(a:Addr) (y:Said),jw A H a y->jw A (upd H q (.lst (as.map V.ref++[.ref x]))) a y:=by
  intro a y h
  have n:=Eo h hq
  obtain⟨dx,h⟩:=h
  exact⟨dx,by rw[aw n];exact h⟩
 exact⟨by rw[ah,map_append];rfl,(h.imp key).snoc (key x e he)⟩
def y1 (A:aW):Sp:=fun vs H Q _=>∃(n:Nat) (l d lc:Addr) (xs:List Said) (nm:Said->Nat) (nk:Nat->Nat) (c:List Nat),vs=[.int n,.ref l,.ref d,.ref lc]/\dN A H l xs/\tD H d nm xs/\(∀x,x∈xs->nk x.key=nm x)/\bS H lc c/\(∀x,x∈xs->x.a<n/\x.b<n)/\0<n/\n<=100/\xs.length<=1000/\
 ∀(H':Hp) (p:Addr),aq H H'->bS H' p ((WS.aQ n (Vbedac.edgesIn (WS.restOf nm xs c))).map fun e=>nk e.key)->Q (.ref p) H'
theorem gB:aJ ["n","statements","name_of","choice","rest","statement","edge"] ["n","statements","name_of","choice"] (ay gT):=by refine⟨rfl,rfl,rfl,?_,rfl,?_,?_⟩ <;> decide +kernel
theorem y2 (T:Txt K mg A):aY P w K mg base bF 5 A.fv A.eS ["n","statements","name_of","choice"] (y1 A):=by
 refine T.cA.ok gB (fun vs H Q E h=>?_) (fun bg Ar outer s H vs Q E hr h=>?_)
 ·obtain⟨n,l,d,lc,xs,nm,nk,c,rfl,_⟩:=h
  rfl
 ·obtain⟨n,l,d,lc,xs,nm,nk,c,rfl,⟨as,hl,hA⟩,hD,Ck,hc,ej,h0,hz,aX,k⟩:=h
  refine⟨_,(ae (vf (i:=4) rfl gB.nd rfl rfl (xp rfl rfl rfl (by decide +kernel)) (bz (pv 1)) (c8 (N:=["n","statements","name_of","choice","rest","statement","edge"]) (sc:=ay gT) (own:=[("statement",5)]) (by decide +kernel)) (fun _ _ _ _ _=>(a6 (i:=5) gB.nd rfl (Or.inl rfl))) (fun _ _ _ _ _=>(rK (aO (zp (K:=K) rfl) (nS (kb hr) (pv 2) (dQ (K:=K) rfl (pv 5) rfl) (fun _ _=>rfl)) (pv 3) (by with_unfolding_all rfl)))) (fun _ _ _ _ _=>by exact(pv 5)))
   (ao (ax (lZ rfl gB.nd (bz (aA (qZ T) (hr.mono (by decide:4<=4)) rfl T.oY T.eL.kp T.oX .nil aF (aa (pv 0) (aa (aA (gQ T) (hr.mono (by decide:3<=4)) rfl T.gq T.cg.kp T.gp .nil aF (aa (pv 4) ag)) ag)))) (c8 (N:=["n","statements","name_of","choice","rest","statement","edge"]) (sc:=ay gT) (own:=[("edge",6)]) (by decide +kernel)) (fun _ _ _ _ _=>(a6 (i:=6) gB.nd rfl (Or.inl rfl))) (fun _ _ _ _ _=>ja) (fun _ _ _ _ _=>by exact(nS (kb hr) (pv 2) (dQ (K:=K) rfl (pv 6) rfl) (fun _ _=>rfl))))))),?_⟩
  refine⟨_,rfl,l,rfl,⟨_,aE.of hl⟩,fun D qg=>?_⟩
  refine fQ (K:=K) (a:=l) (xs:=as.map V.ref) (fun i H'=>∃bs,aq H H'/\H' D=some (.lst (bs.map V.ref))/\bc (jw A H') bs (WS.restOf nm (xs.take i) c))
   ⟨[],aq.new qg,ah,bc.nil⟩ (fun i H' _ ⟨_,s2,_⟩=>aE.of (s2 _ _ hl)) ?_ ?_
  ·rintro i y H' hi ⟨bs,s2,dq,hB⟩
   obtain⟨a,ha,rfl⟩:=bh hi
   obtain⟨x,hx,rj⟩:=hA.get ha
   obtain⟨dx,dZ⟩:=rj.same s2
   have hm:x∈xs:=mem_of_getElem? hx
   have k4:i<xs.length:=(List.getElem?_eq_some_iff.mp hx).1
   refine⟨rfl,_,rfl,_,rfl,a,_,_,_,_,rfl,dZ,T.aC,T.bp,rfl,d,_,rfl,(hD.same s2).get hm,_,rfl,lc,_,rfl,.inl (aE.of (s2 _ _ hc)),rfl,Ba _,_,rfl,K1 (Dg (nm x) c) ?_⟩
   unfold WS.restOf at hB ⊢
   rw[i8 hx]
   cases q:c.contains (nm x) with
   | true=>
    rw[if_pos rfl]
    have:(!true)=true->False:=by simp
    rw[if_neg (by simp),append_nil]
    exact⟨bs,s2,dq,hB⟩
   | false=>
    rw[if_neg Bool.false_ne_true]
    rw[if_pos (by simp)]
    obtain⟨g1,g2⟩:=Di dq hB (x:=a) (e:=x) ⟨dx,dZ⟩
    refine⟨_,rfl,_,dq,?_,_,aq.but s2 qg bA.upd,g1,g2⟩
    rw[length_map,hB.1,sizeLine_eq]
    have:=length_filter_le (fun x=>!c.contains (nm x)) (xs.take i)
    rw[length_take] at this
    omega
  ·rintro H2 ⟨bs,s2,dq,hB⟩
   rw[length_map,hA.1,take_length] at hB
   have oN:∀x,x∈WS.restOf nm xs c->x∈xs:=fun x hx=>(mem_filter.mp hx).1
   have m6:(WS.restOf nm xs c).length<=1000:=Nat.le_trans (length_filter_le _ _) aX
   have hN:WS.bB n (Vbedac.edgesIn (WS.restOf nm xs c)):=WS.mn fun x hx=>ej x (oN x hx)
   refine⟨_,rfl,_,rfl,D,_,rfl,⟨bs,dq,hB⟩,m6,fun H3 p3 s3 rd=>?_⟩
   refine⟨n,p3,_,rfl,rd,hN,h0,hz,fun H4 p4 s4 UD=>?_⟩
   obtain⟨ws,Rn,hA4⟩:=UD
   have FZ:(WS.aQ n (Vbedac.edgesIn (WS.restOf nm xs c))).length<=n:=lF
   have s24:=(s2.trans s3).trans s4
   refine⟨p4,rfl,⟨_,aE.of Rn⟩,fun D2 Fn=>?_⟩
   refine fQ (K:=K) (a:=p4) (xs:=ws.map V.ref) (fun i H'=>aq H4 H'/\bS H' D2 (((WS.aQ n (Vbedac.edgesIn (WS.restOf nm xs c))).take i).map fun e=>nk e.key))
    ⟨aq.new Fn,ah⟩ (fun i H' _ ⟨s5,_⟩=>aE.of (s5 _ _ Rn)) ?_ ?_
   ·rintro i y H' hi ⟨s5,zG⟩
    obtain⟨a,ha,rfl⟩:=bh hi
    obtain⟨e,he,dx,hd⟩:=hA4.get ha
    have k4:i<(WS.aQ n (Vbedac.edgesIn (WS.restOf nm xs c))).length:=(List.getElem?_eq_some_iff.mp he).1
    have hem:e∈Vbedac.edgesIn (WS.restOf nm xs c):=by
     have h1:=mem_of_getElem? he
     unfold WS.aQ at h1
     cases q:Vbedac.ring n (Vbedac.edgesIn (WS.restOf nm xs c)) with
     | none=>rw[q] at h1;cases h1
     | some r=>
      obtain⟨i',x',w'⟩:=r
      rw[q] at h1
      exact(WS.qm hN q).2.2 e h1
    obtain⟨x,Ro,hex⟩:=WS.my hem
    have hkx:e.key=x.key:=by rcases hex with q | q <;> rw[q]
    have hg:=((hD.same s24).same s5).get (oN x Ro)
    rw[<- hkx,<- Ck x (oN x Ro),<- hkx] at hg
    refine⟨rfl,jm (aS ?_)⟩
    refine⟨_,rfl,_,rfl,a,_,_,_,_,rfl,s5 _ _ hd,T.bw,T.gn,rfl,d,_,rfl,hg,?_⟩
    refine⟨_,zG,(by rw[length_map,length_map,length_take,sizeLine_eq];omega),aq.but s5 Fn bA.upd,?_⟩
    rw[take_snoc he,map_append]
    exact Gj
   ·rintro H5 ⟨s5,zG⟩
    rw[length_map,hA4.1,take_length] at zG
    exact k H5 D2 (s24.trans s5) zG
theorem EE:∀{l m:List Int},l.Pairwise (·< ·)->m.Pairwise (·< ·)->(∀z,z∈l↔z∈m)->l=m
 | [],[],_,_,_=>rfl
 | [],b::m,_,_,h=>by have:=(h b).mpr (by simp);cases this
 | a::l,[],_,_,h=>by have:=(h a).mp (by simp);cases this
 | a::l,b::m,h1,h2,h=>by
  rw[List.pairwise_cons] at h1 h2
  have e:a=b:=by
   have p:=(h a).mp (by simp)
   have q:=(h b).mpr (by simp)
   rcases mem_cons.mp p with p | p
   ·exact p
   ·rcases mem_cons.mp q with q | q
    ·exact q.symm
    ·have:=h2.1 a p
     have:=h1.1 b q
     omega
  subst e
  congr 1
  refine EE h1.2 h2.2 fun z=>?_
  constructor
  ·intro hz
   rcases mem_cons.mp ((h z).mp (by simp[hz])) with e | e
   ·subst e;exact absurd (h1.1 z hz) (by omega)
   ·exact e
  ·intro hz
   rcases mem_cons.mp ((h z).mpr (by simp[hz])) with e | e
   ·subst e;exact absurd (h2.1 z hz) (by omega)
   ·exact e
theorem IT {h_:List Int} {l:List Nat} (h:h_.Pairwise (·< ·)) (k:∀z,z∈h_↔z∈l.map fun (n:Nat)=>(n:Int)):h_=(Vbedac.sortedKeys l).map fun (n:Nat)=>(n:Int):=by
 obtain⟨h1,h2⟩:=WS.kf l
 refine EE h ?_ fun z=>?_
 ·rw[List.pairwise_map]
  exact h1.imp fun {a b} h=>by omega
 ·rw[k z,mem_map,mem_map]
  constructor
  ·rintro⟨n,a,b⟩;exact⟨n,(h2 n).mpr a,b⟩
  ·rintro⟨n,a,b⟩;exact⟨n,(h2 n).mp a,b⟩
theorem Gn {x:Nat}:∀(l:List Nat),(Vbedac.rising x l).length<=l.length+1
 | []=>by simp[Vbedac.rising]
 | y::l=>by
  unfold Vbedac.rising
  split
  ·simp
  ·split
   ·simp
   ·have:=Gn (x:=x) l;simp;omega
theorem tY (l:List Nat):(Vbedac.sortedKeys l).length<=l.length:=by
 have:∀(l m:List Nat),(l.foldl (fun m x=>Vbedac.rising x m) m).length<=m.length+l.length:=by
  intro l
  induction l with
  | nil=>intro m;simp
  | cons x l ih=>
   intro m
   rw[List.foldl_cons]
   have h1:=ih (Vbedac.rising x m)
   have h2:=Gn (x:=x) m
   rw[length_cons];omega
 have:=this l []
 rw[List.length_nil,Nat.zero_add] at this
 exact this
def yb (n:Nat) (nm:Said->Nat) (xs:List Said) (c:List Nat):Bool:=Vbedac.fit n (Vbedac.edgesIn (WS.restOf nm xs c))
def pH (n:Nat) (nm:Said->Nat) (xs:List Said) (most:Nat):Option (List Nat):=Vbedac.firstPart (yb n nm xs) (Vbedac.sortedKeys (xs.map nm)) (most+1) 0
def Fo (A:aW):Sp:=fun vs H Q _=>∃(n most:Nat) (l d:Addr) (xs:List Said) (nm:Said->Nat) (nk:Nat->Nat),vs=[.int n,.ref l,.ref d,.int most]/\dN A H l xs/\tD H d nm xs/\(∀x,x∈xs->nk x.key=nm x)/\(∀x,x∈xs->x.a<n/\x.b<n)/\0<n/\n<=100/\xs.length<=24/\most<=3/\
 (pH n nm xs most=none->∀H',aq H H'->Q .bE H')/\(∀c,pH n nm xs most=some c->∀(H':Hp) (p:Addr),aq H H'->bS H' p c->Q (.ref p) H')
theorem K3 {c:List Nat} {rs:List (List Nat)} (h:breaks c rs=false):∃r,r∈rs/\∀y,y∈r->y∉c:=by
 unfold breaks at h
 false_or_by_contra
 rename_i q
 have:(rs.all fun r=>c.any fun y=>r.contains y)=true:=all_eq_true.mpr fun r hr=>by
  cases d:c.any fun y=>r.contains y with
  | true=>rfl
  | false=>
   refine absurd ⟨r,hr,fun y hy hc=>?_⟩ q
   have:(c.any fun y=>r.contains y)=true:=any_eq_true.mpr ⟨y,hc,by simpa using hy⟩
   rw[d] at this;cases this
 rw[h] at this;cases this
theorem dX:aJ ["n","statements","name_of","most","names","rings","choices","size","choice","left","statement"] ["n","statements","name_of","most"] (ay pb):=by refine⟨rfl,rfl,rfl,?_,rfl,?_,?_⟩ <;> decide +kernel
theorem Fp (T:Txt K mg A):aY P w K mg base bF 6 A.jT A.jb ["n","statements","name_of","most"] (Fo A):=by
 refine T.fI.ok dX (fun vs H Q E h=>?_) (fun bg Ar outer s H vs Q E hr h=>?_)
 ·obtain⟨n,most,l,d,xs,nm,nk,rfl,_⟩:=h
  rfl
 ·obtain⟨n,most,l,d,xs,nm,nk,rfl,hS,hD,Ck,ej,h0,hz,aX,BO,k0,k1⟩:=h
  obtain⟨as,hl,hA⟩:=id hS
  refine⟨_,(ae (aG (i:=4) dX.nd rfl (Or.inl rfl) (Ap rfl rfl T.nD rfl T.yS (lZ rfl dX.nd (bz (pv 1)) (c8 (N:=["n","statements","name_of","most","names","rings","choices","size","choice","left","statement"]) (sc:=ay pb) (own:=[("statement",10)]) (by decide +kernel)) (fun _ _ _ _ _=>(a6 (i:=10) dX.nd rfl (Or.inl rfl))) (fun _ _ _ _ _=>ja) (fun _ _ _ _ _=>by exact(nS (kb hr) (pv 2) (dQ (K:=K) rfl (pv 10) rfl) (fun _ _=>rfl))))))
   (ae (aG (i:=5) dX.nd rfl (Or.inl rfl) (aR ag))
   (ae (aG (i:=6) dX.nd rfl (Or.inl rfl) (aR (aa (aR ag) ag)))
   (ae (cq PassesOwn.never rfl (lK rfl T.hX (aa (dM nh (pv 3) aH) ag)) (a6 (i:=7) dX.nd rfl (Or.inl rfl))
    (ae (aP (aO yo (pv 7) aH (aU _)) (ao (aG (i:=6) dX.nd rfl (Or.inl rfl) (aA (zM T) (hr.mono (by decide:1<=5)) rfl T.sW T.cO.kp T.sV .nil aF (aa (pv 6) (aa (pv 4) ag))))) aI)
   (ao (cq PassesOwn.never rfl (bz (pv 6)) (a6 (i:=8) dX.nd rfl (Or.inl rfl))
    (ae (aP (kZ (fz (aA (G0 T) (hr.mono (by decide:2<=5)) rfl T.AI T.gw.kp T.AH .nil aF (aa (pv 8) (aa (pv 5) ag))))) (ao oU) aI)
   (ae (aG (i:=9) dX.nd rfl (Or.inl rfl) (aA (y2 T) (hr.mono (by decide:5<=5)) rfl T.rC T.cA.kp T.rB .nil aF (aa (pv 0) (aa (pv 1) (aa (pv 2) (aa (pv 8) ag))))))
   (ae (aP (aO bZ (bX bx (by rfl) T.d9 PySem.boot_len (aa (pv 9) ag)) aH (aU _)) (ao (ax (pv 8))) aI)
   (ao (cv (fG PySem.F.plainAttrs_list PySem.F.slot_list_append PySem.F.type_list_append dn (pv 5) (aa (pv 9) ag)))))))))))
   (ao (ax iu)))))),?_⟩
  refine⟨_,rfl,l,rfl,⟨_,aE.of hl⟩,fun D qg=>?_⟩
  refine fQ (K:=K) (a:=l) (xs:=as.map V.ref) (fun i H'=>aq H H'/\cH H' D ((xs.take i).map fun x=>(nm x:Int)))
   ⟨aq.new qg,ah⟩ (fun i H' _ ⟨s2,_⟩=>aE.of (s2 _ _ hl)) ?_ ?_
  ·rintro i y H' hi ⟨s2,dq⟩
   obtain⟨a,ha,rfl⟩:=bh hi
   obtain⟨x,hx,rj⟩:=hA.get ha
   obtain⟨dx,dZ⟩:=rj.same s2
   have hm:x∈xs:=mem_of_getElem? hx
   have k4:i<xs.length:=(List.getElem?_eq_some_iff.mp hx).1
   refine⟨rfl,jm (aS ?_)⟩
   refine⟨_,rfl,_,rfl,a,_,_,_,_,rfl,dZ,T.aC,T.bp,rfl,d,_,rfl,(hD.same s2).get hm,?_⟩
   refine⟨_,dq,(by rw[length_map,length_map,length_take,sizeLine_eq];omega),aq.but s2 qg bA.upd,?_⟩
   rw[take_snoc hx,map_append]
   exact ints_snoc
  ·rintro H1 ⟨s1,zA⟩
   rw[length_map,hA.1,take_length] at zA
   refine⟨D,_,rfl,aE.of zA,(by rw[length_map];omega),fun h_ p Ke E8 hp=>?_⟩
   have PU:=IT (l:=xs.map nm) Ke (fun z=>by rw[E8 z,map_map];rfl)
   subst PU
   obtain⟨names,IU⟩:∃names,names=Vbedac.sortedKeys (xs.map nm):=⟨_,rfl⟩
   have UE:names.Pairwise (·< ·):=by rw[IU];exact(WS.kf _).1
   have Ge:names.length<=24:=by
    rw[IU]
    have:=tY (xs.map nm)
    rw[length_map] at this;omega
   have gS:∀j,j<=3->(Vbedac.parts j names).length<=13824:=by
    intro j hj
    have:=IQ UE Ge j
    have h2:24 ^ j<=24 ^ 3:=Nat.pow_le_pow_right (by decide) hj
    have h3:24 ^ 3=13824:=by decide
    omega
   unfold pH at k0 k1
   rw[<- IU] at k0 k1 ⊢
   have s2:aq H1 (upd H1 p (.lst ((names.map fun (n:Nat)=>(n:Int)).map V.int))):=aq.new hp
   have HJ:bS (upd H1 p (.lst ((names.map fun (n:Nat)=>(n:Int)).map V.int))) p names:=by
    show upd _ _ _ _=_
    rw[ah,map_map];rfl
   generalize upd H1 p (.lst ((names.map fun (n:Nat)=>(n:Int)).map V.int))=H2 at s2 HJ ⊢
   have yc:=s1.trans s2
   refine⟨zl0,fun q5 kW=>?_⟩
   have s3:aq H2 (upd H2 q5 (.lst [])):=aq.new kW
   refine⟨zl0,fun l1 jA=>?_⟩
   have s4:aq (upd H2 q5 (.lst [])) (upd (upd H2 q5 (.lst [])) l1 (.lst [])):=aq.new jA
   refine⟨zl1,fun q6 wC=>?_⟩
   have s5:aq (upd (upd H2 q5 (.lst [])) l1 (.lst [])) (upd (upd (upd H2 q5 (.lst [])) l1 (.lst [])) q6 (.lst [.ref l1])):=aq.new wC
   have L1:H q5=none:=yc.free kW
   have hq5l:l1≠q5:=fun z=>aK (ah (H:=H2) (a:=q5) (o:=.lst [])) jA z.symm
   have hq56:q6≠q5:=fun z=>aK (s4 _ _ (ah (H:=H2) (a:=q5) (o:=.lst []))) wC z.symm
   have UG:p≠q5:=aK HJ kW
   have DK:((most:Int)+1).toNat=most+1:=by omega
   refine⟨_,rfl,_,_,rfl,rfl,_,rfl,by omega,by omega,?_⟩
   rw[DK]
   refine pL (lo:=0) (n:=most+1) (fun i σ H'=>∃v7 v8 v9 q6 as rA rs,σ=[some (.int n),some (.ref l),some (.ref d),some (.int most),some (.ref p),some (.ref q5),some (.ref q6),v7,v8,v9,none]/\
     aq H H'/\bS H' p names/\H' q5=some (.lst (rA.map V.ref))/\bc (bS H') rA rs/\rs.length<=20000*i/\(∀r,r∈rs->r≠[]/\∀c,(∀y,y∈r->y∉c)->yb n nm xs c=false)/\
     H' q6=some (.lst (as.map V.ref))/\bc (bS H') as (Vbedac.parts (i-1) names)/\q6≠q5/\(∀a,a∈as->a≠q5)/\∀j,j<i->(Vbedac.parts j names).find? (yb n nm xs)=none)
    ⟨none,none,none,q6,[l1],[],[],rfl,((yc.trans s3).trans s4).trans s5,(s3.trans (s4.trans s5)) _ _ HJ,(s4.trans s5) _ _ ah,bc.nil,Nat.zero_le _,(by intro r hr;cases hr),ah,?_,hq56,(by intro a ha;rw[mem_singleton.mp ha];exact hq5l),(by intro j hj;omega)⟩ ?_ ?_
   ·show bc _ [l1] (Vbedac.parts 0 names)
    rw[WS.uy]
    exact bc.snoc (as:=[]) (xs:=[]) bc.nil (s5 _ _ ah)
   ·rintro i σ H3 hi ⟨v7,v8,v9,c6,N_,rA,rs,rfl,s6,Rp,L3,UH,m6,PV,UI,UJ,UK,UL,BP⟩
    rw[Int.zero_add]
    cases i with
    | zero=>
     refine⟨_,rfl,_,_,rfl,rfl,_,rfl,sg (by decide) ?_⟩
     have zc:=UI
     have Bb:bc (bS H3) N_ (Vbedac.parts 0 names):=UJ
     have Dj:=UK
     have CD:=UL
     have L4:=L3
     have PX:=UH
     have UM:=Rp
     refine⟨_,rfl,c6,rfl,⟨_,aE.of zc⟩,ck (K:=K) (a:=c6) (xs:=N_.map V.ref) (fun m σ H'=>∃v8 v9 rA rs,σ=[some (.int n),some (.ref l),some (.ref d),some (.int most),some (.ref p),some (.ref q5),some (.ref c6),some (.int ((0:Nat):Int)),v8,v9,none]/\
        bA q5 H3 H'/\H' q5=some (.lst (rA.map V.ref))/\bc (bS H') rA rs/\rs.length<=20000*0+m/\(∀r,r∈rs->r≠[]/\∀c,(∀y,y∈r->y∉c)->yb n nm xs c=false)/\((Vbedac.parts 0 names).take m).find? (yb n nm xs)=none)
       ⟨v8,v9,rA,rs,rfl,bA.refl,L4,PX,by omega,PV,rfl⟩ (fun m σ H' _ ⟨_,_,_,_,_,b,_⟩=>aE.of (b _ _ zc Dj)) ?_ ?_⟩
     ·rintro m y σ H5 hm ⟨v8,v9,rA,rs,rfl,b5,vT,pI,IV,oE,vU⟩
      obtain⟨a,ha,rfl⟩:=bh hm
      obtain⟨c,hc,Oa⟩:=Bb.get ha
      have Us:m<(Vbedac.parts 0 names).length:=(List.getElem?_eq_some_iff.mp hc).1
      have Ih:=gS 0 (by omega)
      have Dk:bS H5 a c:=b5 _ _ Oa (CD a (mem_of_getElem? ha))
      have s5:aq H H5:=aq.but s6 L1 b5
      refine⟨_,rfl,_,rfl,a,q5,c,rs,rfl,Dk,⟨rA,vT,pI⟩,_,rfl,?_⟩
      cases cb:breaks c rs with
      | false=>
       refine aS ?_
       obtain⟨r,rG,sT⟩:=K3 cb
       exact⟨_,_,rA,rs,rfl,b5,vT,pI,by omega,oE,lX hc vU ((oE r rG).2 c sT)⟩
      | true=>
       refine aZ ?_
       refine⟨_,rfl,_,rfl,_,rfl,_,rfl,n,l,d,a,xs,nm,nk,c,rfl,mf hS s5,hD.same s5,Ck,Dk,ej,h0,hz,by omega,fun H6 p6 Bc IW=>?_⟩
       have Ux:((WS.aQ n (Vbedac.edgesIn (WS.restOf nm xs c))).map fun e=>nk e.key).length<=n:=by rw[length_map];exact lF
       have Ob:WS.bB n (Vbedac.edgesIn (WS.restOf nm xs c)):=WS.mn fun x hx=>ej x (mem_filter.mp hx).1
       refine⟨_,rfl,p6,_,rfl,.inl (aE.of IW),rfl,_,rfl,?_⟩
       rw[length_map,length_map]
       by_cases ce:WS.aQ n (Vbedac.edgesIn (WS.restOf nm xs c))=[]
       ·refine nJ (by rw[ce];rfl) ?_
        have a9:yb n nm xs c=true:=(WS.o_ Ob).mp ce
        refine⟨_,rfl,k1 c ?_ H6 a (s5.trans Bc) (Bc _ _ Dk)⟩
        exact WS.qp (most+1) 0 0 (Nat.zero_le _) (by omega) (fun j _ hj=>BP j hj) (BL hc vU a9)
       ·refine nL (by have:=List.length_pos_iff.mpr ce;omega) ?_
        have a9:yb n nm xs c=false:=by
         cases q:yb n nm xs c with
         | false=>rfl
         | true=>exact absurd ((WS.o_ Ob).mpr q) ce
        have y3:=Bc _ _ vT
        refine⟨_,rfl,.inl ⟨rfl,_,aE.of y3⟩,_,rfl,q5,_,_,rfl,rfl,y3,(by rw[length_map,pI.1,sizeLine_eq];omega),?_⟩
        have IX:((WS.aQ n (Vbedac.edgesIn (WS.restOf nm xs c))).map fun e=>nk e.key)≠[]:=by simpa using ce
        refine⟨_,_,rA++[p6],rs++[(WS.aQ n (Vbedac.edgesIn (WS.restOf nm xs c))).map fun e=>nk e.key],rfl,(b5.trans (C5 Bc)).trans bA.upd,(by rw[ah,map_append];rfl),?_,(by rw[length_append];simp;omega),?_,lX hc vU a9⟩
        ·refine bc.snoc ⟨pI.1,fun j b r h1 h2=>?_⟩ ?_
         ·have h3:bS H6 b r:=Bc _ _ (pI.2 j b r h1 h2)
          show upd _ _ _ _=_
          rw[aw (iF h3 (oE r (mem_of_getElem? h2)).1 y3)]
          exact h3
         ·show upd _ _ _ _=_
          rw[aw (iF IW IX y3)]
          exact IW
        ·intro r hr
         rcases mem_append.mp hr with hr | hr
         ·exact oE r hr
         ·rw[mem_singleton.mp hr]
          exact⟨IX,fun c' zR=>WS.Cj ej Ck ce zR⟩
     ·rintro σ H5 ⟨v8,v9,rA,rs,rfl,b5,vT,pI,IV,oE,vU⟩
      rw[length_map,Bb.1] at IV vU
      rw[take_length] at vU
      have Ih:=gS 0 (by omega)
      refine⟨_,_,_,c6,N_,rA,rs,rfl,aq.but s6 L1 b5,b5 _ _ UM UG,vT,pI,by omega,oE,b5 _ _ zc Dj,?_,Dj,CD,fun j hj=>?_⟩
      ·refine⟨Bb.1,fun j b r h1 h2=>?_⟩
       exact b5 _ _ (Bb.2 j b r h1 h2) (CD b (mem_of_getElem? h1))
      ·by_cases e:j=0
       ·rw[e];exact vU
       ·exact BP j (by omega)
    | succ i=>
     refine⟨_,rfl,_,_,rfl,rfl,_,rfl,sf (by omega) ?_⟩
     have hpm0:=gS i (by omega)
     refine⟨_,rfl,_,rfl,c6,p,Vbedac.parts i names,names,rfl,⟨N_,UI,UJ⟩,Rp,by omega,by omega,(fun c hc=>by have:=(WS.nv _ _ _ hc).2;omega),fun H4 c7 Rq hf7 hC7=>?_⟩
     obtain⟨UN,zc,Bb⟩:=hC7
     rw[WS.qo names UE] at Bb
     have s64:=s6.trans Rq
     have Dj:c7≠q5:=fun z=>aK L3 hf7 z.symm
     have L4:=Rq _ _ L3
     have PX:bc (bS H4) rA rs:=UH.imp fun _ _ h=>Rq _ _ h
     have UM:bS H4 p names:=Rq _ _ Rp
     have CD:∀a,a∈UN->a≠q5:=by
      intro a ha
      obtain⟨j,hj,hja⟩:=List.mem_iff_getElem.mp ha
      obtain⟨c,hc,Oa⟩:=Bb.get (List.getElem?_eq_some_iff.mpr ⟨hj,hja⟩)
      have oV:=(WS.nv _ _ _ (mem_of_getElem? hc)).2
      exact iF Oa (by intro e;rw[e] at oV;cases oV) L4
     refine⟨_,rfl,c7,rfl,⟨_,aE.of zc⟩,ck (K:=K) (a:=c7) (xs:=UN.map V.ref) (fun m σ H'=>∃v8 v9 rA rs,σ=[some (.int n),some (.ref l),some (.ref d),some (.int most),some (.ref p),some (.ref q5),some (.ref c7),some (.int ((i+1:Nat):Int)),v8,v9,none]/\
        bA q5 H4 H'/\H' q5=some (.lst (rA.map V.ref))/\bc (bS H') rA rs/\rs.length<=20000*(i+1)+m/\(∀r,r∈rs->r≠[]/\∀c,(∀y,y∈r->y∉c)->yb n nm xs c=false)/\((Vbedac.parts (i+1) names).take m).find? (yb n nm xs)=none)
       ⟨v8,v9,rA,rs,rfl,bA.refl,L4,PX,by omega,PV,rfl⟩ (fun m σ H' _ ⟨_,_,_,_,_,b,_⟩=>aE.of (b _ _ zc Dj)) ?_ ?_⟩
     ·rintro m y σ H5 hm ⟨v8,v9,rA,rs,rfl,b5,vT,pI,IV,oE,vU⟩
      obtain⟨a,ha,rfl⟩:=bh hm
      obtain⟨c,hc,Oa⟩:=Bb.get ha
      have Us:m<(Vbedac.parts (i+1) names).length:=(List.getElem?_eq_some_iff.mp hc).1
      have Ih:=gS (i+1) (by omega)
      have Dk:bS H5 a c:=b5 _ _ Oa (CD a (mem_of_getElem? ha))
      have s5:aq H H5:=aq.but s64 L1 b5
      refine⟨_,rfl,_,rfl,a,q5,c,rs,rfl,Dk,⟨rA,vT,pI⟩,_,rfl,?_⟩
      cases cb:breaks c rs with
      | false=>
       refine aS ?_
       obtain⟨r,rG,sT⟩:=K3 cb
       exact⟨_,_,rA,rs,rfl,b5,vT,pI,by omega,oE,lX hc vU ((oE r rG).2 c sT)⟩
      | true=>
       refine aZ ?_
       refine⟨_,rfl,_,rfl,_,rfl,_,rfl,n,l,d,a,xs,nm,nk,c,rfl,mf hS s5,hD.same s5,Ck,Dk,ej,h0,hz,by omega,fun H6 p6 Bc IW=>?_⟩
       have Ux:((WS.aQ n (Vbedac.edgesIn (WS.restOf nm xs c))).map fun e=>nk e.key).length<=n:=by rw[length_map];exact lF
       have Ob:WS.bB n (Vbedac.edgesIn (WS.restOf nm xs c)):=WS.mn fun x hx=>ej x (mem_filter.mp hx).1
       refine⟨_,rfl,p6,_,rfl,.inl (aE.of IW),rfl,_,rfl,?_⟩
       rw[length_map,length_map]
       by_cases ce:WS.aQ n (Vbedac.edgesIn (WS.restOf nm xs c))=[]
       ·refine nJ (by rw[ce];rfl) ?_
        have a9:yb n nm xs c=true:=(WS.o_ Ob).mp ce
        refine⟨_,rfl,k1 c ?_ H6 a (s5.trans Bc) (Bc _ _ Dk)⟩
        exact WS.qp (most+1) 0 (i+1) (Nat.zero_le _) (by omega) (fun j _ hj=>BP j hj) (BL hc vU a9)
       ·refine nL (by have:=List.length_pos_iff.mpr ce;omega) ?_
        have a9:yb n nm xs c=false:=by
         cases q:yb n nm xs c with
         | false=>rfl
         | true=>exact absurd ((WS.o_ Ob).mpr q) ce
        have y3:=Bc _ _ vT
        refine⟨_,rfl,.inl ⟨rfl,_,aE.of y3⟩,_,rfl,q5,_,_,rfl,rfl,y3,(by rw[length_map,pI.1,sizeLine_eq];omega),?_⟩
        have IX:((WS.aQ n (Vbedac.edgesIn (WS.restOf nm xs c))).map fun e=>nk e.key)≠[]:=by simpa using ce
        refine⟨_,_,rA++[p6],rs++[(WS.aQ n (Vbedac.edgesIn (WS.restOf nm xs c))).map fun e=>nk e.key],rfl,(b5.trans (C5 Bc)).trans bA.upd,(by rw[ah,map_append];rfl),?_,(by rw[length_append];simp;omega),?_,lX hc vU a9⟩
        ·refine bc.snoc ⟨pI.1,fun j b r h1 h2=>?_⟩ ?_
         ·have h3:bS H6 b r:=Bc _ _ (pI.2 j b r h1 h2)
          show upd _ _ _ _=_
          rw[aw (iF h3 (oE r (mem_of_getElem? h2)).1 y3)]
          exact h3
         ·show upd _ _ _ _=_
          rw[aw (iF IW IX y3)]
          exact IW
        ·intro r hr
         rcases mem_append.mp hr with hr | hr
         ·exact oE r hr
         ·rw[mem_singleton.mp hr]
          exact⟨IX,fun c' zR=>WS.Cj ej Ck ce zR⟩
     ·rintro σ H5 ⟨v8,v9,rA,rs,rfl,b5,vT,pI,IV,oE,vU⟩
      rw[length_map,Bb.1] at IV vU
      rw[take_length] at vU
      have Ih:=gS (i+1) (by omega)
      refine⟨_,_,_,c7,UN,rA,rs,rfl,aq.but s64 L1 b5,b5 _ _ UM UG,vT,pI,by omega,oE,b5 _ _ zc Dj,?_,Dj,CD,fun j hj=>?_⟩
      ·refine⟨Bb.1,fun j b r h1 h2=>?_⟩
       exact b5 _ _ (Bb.2 j b r h1 h2) (CD b (mem_of_getElem? h1))
      ·by_cases e:j=(i+1)
       ·rw[e];exact vU
       ·exact BP j (by omega)
   ·rintro σ H3 ⟨v7,v8,v9,c6,N_,rA,rs,rfl,s6,Rp,L3,UH,m6,PV,UI,UJ,UK,UL,BP⟩
    refine k0 ?_ H3 s6
    exact WS.xA (most+1) 0 fun j _ hj=>BP j (by omega)
theorem tZ {ok:List Nat->Bool} {l:List Nat}:∀(f k0:Nat) {c:List Nat},Vbedac.firstPart ok l f k0=some c->c.length<k0+f
 | 0,k0,c,h=>by cases h
 | f+1,k0,c,h=>by
  unfold Vbedac.firstPart at h
  cases q:(Vbedac.parts k0 l).find? ok with
  | some p=>
   rw[q] at h
   cases h
   have:=(WS.nv _ _ _ (List.mem_of_find?_eq_some q)).2
   omega
  | none=>
   rw[q] at h
   have:=tZ f (k0+1) h
   omega
theorem Gp {R:Addr->Key×V->Prop}:∀{as:List Addr} {xs:List (Key×V)},as.length=xs.length->(∀(i:Nat) a x,as[i]?=some a->xs[i]?=some x->R a x)->Paired R as xs
 | [],[],_,_=>.nil
 | [],_::_,h,_=>by simp at h
 | _::_,[],h,_=>by simp at h
 | a::as,x::xs,h,k=>.cons (k 0 a x rfl rfl) (Gp (by simpa using h) fun i b y h1 h2=>k (i+1) b y h1 h2)
theorem Gq {k:Key}:∀(kvs acc:List (Key×V)),(∀kv,kv∈kvs->kv.1≠k)->dJ (ka acc kvs) k=dJ acc k
 | [],acc,_=>rfl
 | kv::kvs,acc,h=>by
  show dJ (ka (putK acc kv.1 kv.2) kvs) k=_
  rw[Gq kvs _ fun x hx=>h x (by simp[hx]),yq,if_neg fun e=>h kv (by simp) e.symm]
theorem IY {k:Key} {v:V}:∀(kvs acc:List (Key×V)),(kvs.map (·.1)).Nodup->(k,v)∈kvs->dJ (ka acc kvs) k=some v
 | [],_,_,h=>by cases h
 | kv::kvs,acc,hn,h=>by
  rw[map_cons,List.nodup_cons] at hn
  show dJ (ka (putK acc kv.1 kv.2) kvs) k=_
  rcases mem_cons.mp h with e | h
  ·rw[Gq kvs _ fun x hx=>?_,yq,<- e,if_pos rfl]
   intro q
   refine hn.1 (mem_map.mpr ⟨x,hx,?_⟩)
   rw[q,<- e]
  ·exact IY kvs _ hn.2 h
def j8 (n:Nat) (nm:Said->Nat) (xs:List Said) (most:Nat):List Int:=if 24<xs.length then [-11] else Vbedac.foundPart (pH n nm xs most)
def Fq (A:aW):Sp:=fun vs H Q _=>∃(n most:Nat) (l d:Addr) (xs:List Said) (nm:Said->Nat) (nk:Nat->Nat),vs=[.int n,.ref l,.ref d,.int most]/\dN A H l xs/\tD H d nm xs/\(∀x,x∈xs->nk x.key=nm x)/\(∀x,x∈xs->x.a<n/\x.b<n)/\0<n/\n<=100/\most<=3/\Told H Q (j8 n nm xs most)
theorem yd:aJ ["n","statements","name_of","most","choice"] ["n","statements","name_of","most"] (ay tK):=by refine⟨rfl,rfl,rfl,?_,rfl,?_,?_⟩ <;> decide +kernel
theorem ye (T:Txt K mg A):aY P w K mg base bF 7 A.jU A.jc ["n","statements","name_of","most"] (Fq A):=by
 refine T.eM.ok yd (fun vs H Q E h=>?_) (fun bg Ar outer s H vs Q E hr h=>?_)
 ·obtain⟨n,most,l,d,xs,nm,nk,rfl,_⟩:=h
  rfl
 ·obtain⟨n,most,l,d,xs,nm,nk,rfl,hS,hD,Ck,ej,h0,hz,BO,k⟩:=h
  obtain⟨as,hl,hA⟩:=id hS
  refine⟨_,(ae (aP (aO yo (bX bx (by rfl) T.d9 PySem.boot_len (aa (pv 1) ag)) (bU (v:=.int (24)) rfl T.iN ⟨_,rfl⟩) (aU _)) (ao (ax (aR (aa (bU (v:=.int (-11)) rfl T.hZ ⟨_,rfl⟩) ag)))) aI)
   (ae (aG (i:=4) yd.nd rfl (Or.inl rfl) (aA (Fp T) (hr.mono (by decide:6<=6)) rfl T.zr T.fI.kp T.zq .nil aF (aa (pv 0) (aa (pv 1) (aa (pv 2) (aa (pv 3) ag))))))
   (ae (aP (d3 (gR (pv 4))) (ao (ax (aR (aa aH ag)))) aI)
   (ao (ax (dM sJ (aR (aa aH (aa (bX bx (by rfl) T.d9 PySem.boot_len (aa (pv 4) ag)) ag))) (pv 4))))))),?_⟩
  refine⟨_,rfl,l,_,rfl,.inl (aE.of hl),_,_,rfl,rfl,_,rfl,?_⟩
  rw[length_map,hA.1]
  unfold j8 at k
  by_cases c:24<xs.length
  ·rw[if_pos c] at k
   refine sf (by omega) ?_
   exact⟨zl1,fun p hp=>k.new hp⟩
  ·rw[if_neg c] at k
   refine sg (by omega) ?_
   refine⟨_,rfl,_,rfl,_,rfl,_,rfl,n,most,l,d,xs,nm,nk,rfl,hS,hD,Ck,ej,h0,hz,by omega,BO,fun hnone H1 s1=>?_,fun ch xl H1 p1 s1 t8=>?_⟩
   ·rw[hnone] at k
    refine⟨_,rfl,_,rfl,aS ?_⟩
    exact⟨zl1,fun p hp=>(k.after s1).new hp⟩
   ·rw[xl] at k
    have oV:=tZ _ _ xl
    refine⟨_,rfl,_,rfl,aZ ?_⟩
    refine⟨_,rfl,p1,_,rfl,.inl (aE.of t8),zl2,fun q hq=>?_⟩
    rw[length_map]
    have s2:aq H1 (upd H1 q (.lst [.int 0,.int (ch.length:Nat)])):=aq.new hq
    refine⟨_,rfl,q,p1,_,_,rfl,rfl,ah,s2 _ _ t8,(by rw[length_map,sizeLine_eq];simp;omega),fun z lM=>?_⟩
    refine k _ z ((s1.trans s2).trans (aq.new lM)) ((s1.trans s2).free lM) ?_
    show upd _ _ _ _=_
    rw[ah]
    unfold Vbedac.foundPart Vbedac.listed
    rw[map_cons,map_cons,map_map]
    rfl
def rk (H:Hp) (as:List Addr) (nm:Said->Nat) (xs:List Said):Prop:=bc (fun a (x:Said)=>H a=some (.tup [.int x.key,.int (nm x:Int)])) as xs
theorem rk.snoc {H:Hp} {D t:Addr} {as:List Addr} {xs:List Said} {x:Said} {nm:Said->Nat} (hD:H D=some (.lst (as.map V.ref))) (h:rk H as nm xs) (ht:H t=some (.tup [.int x.key,.int (nm x:Int)])) :
  upd H D (.lst (as.map V.ref++[.ref t])) D=some (.lst ((as++[t]).map V.ref))/\rk (upd H D (.lst (as.map V.ref++[.ref t]))) (as++[t]) nm (xs++[x]):=by
 refine⟨by rw[ah,map_append];rfl,bc.snoc (h.imp fun a y ha=>?_) ?_⟩
 ·rw[aw (dh ha hD (by intro z;cases z))];exact ha
 ·rw[aw (dh ht hD (by intro z;cases z))];exact ht
theorem rk.name {K:W.Frag} {H:Hp} {as:List Addr} {xs:List Said} {nm:Said->Nat} (h:rk H as nm xs):Paired (fun p (kv:Key×V)=>mY K H p [kV kv.1,kv.2]) as (xs.map fun x=>(Sum.inl (x.key:Int),V.int (nm x:Int))):=by
 refine Gp (by rw[length_map];exact h.1) fun i a kv h1 h2=>?_
 rw[getElem?_map] at h2
 cases q:xs[i]? with
 | none=>rw[q] at h2;cases h2
 | some x=>
  rw[q] at h2
  cases h2
  exact mY.of (h.2 i a x h1 q)
theorem EF {xs:List Said} {nm:Said->Nat} (hs:(xs.map fun x=>x.key).Pairwise (·< ·)) {x:Said} (hx:x∈xs):dJ (ka [] (xs.map fun x=>(Sum.inl (x.key:Int),V.int (nm x:Int)))) (Sum.inl (x.key:Int))=some (.int (nm x:Int)):=by
 refine IY _ _ ?_ (mem_map.mpr ⟨x,hx,rfl⟩)
 rw[map_map]
 have:(fun x:Said=>(Sum.inl (x.key:Int):Key))=(fun k:Nat=>(Sum.inl (k:Int):Key))∘fun x:Said=>x.key:=rfl
 show (xs.map fun x:Said=>(Sum.inl (x.key:Int):Key)).Nodup
 rw[this,<- map_map]
 unfold List.Nodup
 rw[List.pairwise_map]
 refine hs.imp fun {a b} h=>?_
 intro e
 injection e with e
 omega
def EG (xs:List Said) (nm:Said->Nat) (k:Nat):Nat:=match xs.find? fun x=>x.key==k with
 | none=>0
 | some x=>nm x
theorem Gr {xs:List Said} {nm:Said->Nat} (hs:(xs.map fun x=>x.key).Pairwise (·< ·)) {x:Said} (hx:x∈xs):EG xs nm x.key=nm x:=by
 unfold EG
 cases q:xs.find? fun y=>y.key==x.key with
 | none=>
  have:=List.find?_eq_none.mp q x hx
  simp at this
 | some y=>
  have h1:=List.find?_some q
  have h2:=List.mem_of_find?_eq_some q
  have:=WS.Bz hs h2 hx (by simpa using h1)
  rw[this]
def PY (A:aW):Sp:=fun vs H Q _=>∃(n most:Nat) (l:Addr) (xs:List Said),vs=[.int n,.ref l,.int most]/\dN A H l xs/\(xs.map fun x=>x.key).Pairwise (·< ·)/\(∀x,x∈xs->x.a<n/\x.b<n)/\0<n/\n<=100/\xs.length<=1000/\most<=3/\Told H Q (j8 n (fun x=>x.key) xs most)
theorem Dl:aJ ["n","statements","most","statement"] ["n","statements","most"] (ay BD):=by refine⟨rfl,rfl,rfl,?_,rfl,?_,?_⟩ <;> decide +kernel
theorem PZ (T:Txt K mg A):aY P w K mg base bF 8 A.uQ A.rS ["n","statements","most"] (PY A):=by
 refine T.oi.ok Dl (fun vs H Q E h=>?_) (fun bg Ar outer s H vs Q E hr h=>?_)
 ·obtain⟨n,most,l,xs,rfl,_⟩:=h
  rfl
 ·obtain⟨n,most,l,xs,rfl,hS,hs,ej,h0,hz,aX,BO,k⟩:=h
  obtain⟨as,hl,hA⟩:=id hS
  refine⟨_,(ao (ax (aA (ye T) (hr.mono (by decide:7<=7)) rfl T.tR T.eM.kp T.tQ .nil aF (aa (pv 0) (aa (pv 1) (aa (FT (DM rfl) (by rfl) T.vM PyProof.Rows.boot_dict (aa (lZ rfl Dl.nd (bz (pv 1)) (c8 (N:=["n","statements","most","statement"]) (sc:=ay BD) (own:=[("statement",3)]) (by decide +kernel)) (fun _ _ _ _ _=>(a6 (i:=3) Dl.nd rfl (Or.inl rfl))) (fun _ _ _ _ _=>ja) (fun _ _ _ _ _=>by exact(DC (aa (dQ (K:=K) rfl (pv 3) rfl) (aa (dQ (K:=K) rfl (pv 3) rfl) ag))))) ag)) (aa (pv 2) ag))))))),?_⟩
  refine⟨_,rfl,_,rfl,_,rfl,l,rfl,⟨_,aE.of hl⟩,fun D qg=>?_⟩
  refine fQ (K:=K) (a:=l) (xs:=as.map V.ref) (fun i H'=>∃ps,aq H H'/\H' D=some (.lst (ps.map V.ref))/\rk H' ps (fun x=>x.key) (xs.take i))
   ⟨[],aq.new qg,ah,bc.nil⟩ (fun i H' _ ⟨_,s2,_⟩=>aE.of (s2 _ _ hl)) ?_ ?_
  ·rintro i y H' hi ⟨ps,s2,dq,hT⟩
   obtain⟨a,ha,rfl⟩:=bh hi
   obtain⟨x,hx,rj⟩:=hA.get ha
   obtain⟨dx,dZ⟩:=rj.same s2
   have k4:i<xs.length:=(List.getElem?_eq_some_iff.mp hx).1
   refine⟨rfl,jm (aS ?_)⟩
   refine⟨_,rfl,a,_,_,_,_,rfl,dZ,T.aC,T.bp,rfl,_,rfl,a,_,_,_,_,rfl,dZ,T.aC,T.bp,rfl,zl2,fun t ht=>?_⟩
   have s3:aq H' (upd H' t (.tup [.int x.key,.int x.key])):=aq.new ht
   obtain⟨g1,g2⟩:=rk.snoc (s3 _ _ dq) (hT.imp fun b y hb=>s3 _ _ hb) (t:=t) (x:=x) (nm:=fun x=>x.key) ah
   refine⟨_,s3 _ _ dq,(by rw[length_map,hT.1,length_take,sizeLine_eq];omega),_,aq.but (s2.trans s3) qg bA.upd,g1,?_⟩
   rw[take_snoc hx]
   exact g2
  ·rintro H1 ⟨ps,s1,zA,hT⟩
   rw[length_map,hA.1,take_length] at hT
   refine⟨D,ps,_,rfl,aE.of zA,hT.name,fun dd K4=>?_⟩
   have s2:=aq.new (o:=.dK (ka [] (xs.map fun x=>(Sum.inl (x.key:Int),V.int ((x.key:Nat):Int))))) K4
   exact⟨_,rfl,n,most,l,dd,xs,fun x=>x.key,EG xs fun x=>x.key,rfl,mf hS (s1.trans s2),⟨_,ah,fun x hx=>EF hs hx⟩,fun x hx=>Gr hs hx,ej,h0,hz,BO,k.after (s1.trans s2)⟩
def UO (A:aW):Sp:=fun vs H Q _=>∃(n most:Nat) (l:Addr) (xs:List Said),vs=[.int n,.ref l,.int most]/\dN A H l xs/\(xs.map fun x=>x.key).Pairwise (·< ·)/\(∀x,x∈xs->x.a<n/\x.b<n)/\0<n/\n<=100/\xs.length<=1000/\most<=3/\Told H Q (j8 n (fun x=>x.who) xs most)
theorem IZ:aJ ["n","statements","most","statement"] ["n","statements","most"] (ay G6):=by refine⟨rfl,rfl,rfl,?_,rfl,?_,?_⟩ <;> decide +kernel
theorem UP (T:Txt K mg A):aY P w K mg base bF 8 A.BG A.xD ["n","statements","most"] (UO A):=by
 refine T.uH.ok IZ (fun vs H Q E h=>?_) (fun bg Ar outer s H vs Q E hr h=>?_)
 ·obtain⟨n,most,l,xs,rfl,_⟩:=h
  rfl
 ·obtain⟨n,most,l,xs,rfl,hS,hs,ej,h0,hz,aX,BO,k⟩:=h
  obtain⟨as,hl,hA⟩:=id hS
  refine⟨_,(ao (ax (aA (ye T) (hr.mono (by decide:7<=7)) rfl T.tR T.eM.kp T.tQ .nil aF (aa (pv 0) (aa (pv 1) (aa (FT (DM rfl) (by rfl) T.vM PyProof.Rows.boot_dict (aa (lZ rfl IZ.nd (bz (pv 1)) (c8 (N:=["n","statements","most","statement"]) (sc:=ay G6) (own:=[("statement",3)]) (by decide +kernel)) (fun _ _ _ _ _=>(a6 (i:=3) IZ.nd rfl (Or.inl rfl))) (fun _ _ _ _ _=>ja) (fun _ _ _ _ _=>by exact(DC (aa (dQ (K:=K) rfl (pv 3) rfl) (aa (dQ (K:=K) rfl (pv 3) rfl) ag))))) ag)) (aa (pv 2) ag))))))),?_⟩
  refine⟨_,rfl,_,rfl,_,rfl,l,rfl,⟨_,aE.of hl⟩,fun D qg=>?_⟩
  refine fQ (K:=K) (a:=l) (xs:=as.map V.ref) (fun i H'=>∃ps,aq H H'/\H' D=some (.lst (ps.map V.ref))/\rk H' ps (fun x=>x.who) (xs.take i))
   ⟨[],aq.new qg,ah,bc.nil⟩ (fun i H' _ ⟨_,s2,_⟩=>aE.of (s2 _ _ hl)) ?_ ?_
  ·rintro i y H' hi ⟨ps,s2,dq,hT⟩
   obtain⟨a,ha,rfl⟩:=bh hi
   obtain⟨x,hx,rj⟩:=hA.get ha
   obtain⟨dx,dZ⟩:=rj.same s2
   have k4:i<xs.length:=(List.getElem?_eq_some_iff.mp hx).1
   refine⟨rfl,jm (aS ?_)⟩
   refine⟨_,rfl,a,_,_,_,_,rfl,dZ,T.aC,T.bp,rfl,_,rfl,a,_,_,_,_,rfl,dZ,T.aC,T.cW,rfl,zl2,fun t ht=>?_⟩
   have s3:aq H' (upd H' t (.tup [.int x.key,.int x.who])):=aq.new ht
   obtain⟨g1,g2⟩:=rk.snoc (s3 _ _ dq) (hT.imp fun b y hb=>s3 _ _ hb) (t:=t) (x:=x) (nm:=fun x=>x.who) ah
   refine⟨_,s3 _ _ dq,(by rw[length_map,hT.1,length_take,sizeLine_eq];omega),_,aq.but (s2.trans s3) qg bA.upd,g1,?_⟩
   rw[take_snoc hx]
   exact g2
  ·rintro H1 ⟨ps,s1,zA,hT⟩
   rw[length_map,hA.1,take_length] at hT
   refine⟨D,ps,_,rfl,aE.of zA,hT.name,fun dd K4=>?_⟩
   have s2:=aq.new (o:=.dK (ka [] (xs.map fun x=>(Sum.inl (x.key:Int),V.int ((x.who:Nat):Int))))) K4
   exact⟨_,rfl,n,most,l,dd,xs,fun x=>x.who,EG xs fun x=>x.who,rfl,mf hS (s1.trans s2),⟨_,ah,fun x hx=>EF hs hx⟩,fun x hx=>Gr hs hx,ej,h0,hz,BO,k.after (s1.trans s2)⟩
def p_ (n:Nat) (xs:List Said):List Int:=if xs.length=0 then [-10] else [Vbedac.bit (Vbedac.fit n (Vbedac.edgesIn (xs.filter fun x=>x.on)))]
def P0 (A:aW):Sp:=fun vs H Q _=>∃(n:Nat) (l:Addr) (xs:List Said),vs=[.int n,.ref l]/\dN A H l xs/\(∀x,x∈xs->x.a<n/\x.b<n)/\0<n/\n<=100/\xs.length<=1000/\Told H Q (p_ n xs)
theorem Dm:aJ ["n","statements","standing","statement"] ["n","statements"] (ay BE):=by refine⟨rfl,rfl,rfl,?_,rfl,?_,?_⟩ <;> decide +kernel
theorem P_ (T:Txt K mg A):aY P w K mg base bF 4 A.uS A.rT ["n","statements"] (P0 A):=by
 refine T.oj.ok Dm (fun vs H Q E h=>?_) (fun bg Ar outer s H vs Q E hr h=>?_)
 ·obtain⟨n,l,xs,rfl,_⟩:=h
  rfl
 ·obtain⟨n,l,xs,rfl,⟨as,hl,hA⟩,ej,h0,hz,aX,k⟩:=h
  refine⟨_,(ae (aP (aO bZ (bX bx (by rfl) T.d9 PySem.boot_len (aa (pv 1) ag)) aH (aU _)) (ao (ax (aR (aa (bU (v:=.int (-10)) rfl T.kJ ⟨_,rfl⟩) ag)))) aI)
   (ae (vf (i:=2) rfl Dm.nd rfl rfl (xp rfl rfl rfl (by decide +kernel)) (bz (pv 1)) (c8 (N:=["n","statements","standing","statement"]) (sc:=ay BE) (own:=[("statement",3)]) (by decide +kernel)) (fun _ _ _ _ _=>(a6 (i:=3) Dm.nd rfl (Or.inl rfl))) (fun _ _ _ _ _=>(rK (fz (dQ (K:=K) rfl (pv 3) rfl)))) (fun _ _ _ _ _=>by exact(pv 3)))
   (ao (ax (aR (aa (aA (iV T) (hr.mono (by decide:1<=3)) rfl T.iB T.cy.kp T.iA .nil aF (aa (aA (cP T) (hr.mono (by decide:3<=3)) rfl T.cE T.bu.kp T.cD .nil aF (aa (pv 0) (aa (aA (gQ T) (hr.mono (by decide:3<=3)) rfl T.gq T.cg.kp T.gp .nil aF (aa (pv 2) ag)) ag))) ag)) ag)))))),?_⟩
  refine⟨_,rfl,l,_,rfl,.inl (aE.of hl),rfl,_,rfl,?_⟩
  rw[length_map,hA.1]
  unfold p_ at k
  by_cases c:xs.length=0
  ·rw[if_pos c] at k
   refine nJ (by omega) ?_
   exact⟨zl1,fun p hp=>k.new hp⟩
  ·rw[if_neg c] at k
   refine nL (by omega) ?_
   refine⟨_,rfl,l,rfl,⟨_,aE.of hl⟩,fun D qg=>?_⟩
   refine fQ (K:=K) (a:=l) (xs:=as.map V.ref) (fun i H'=>∃bs,aq H H'/\H' D=some (.lst (bs.map V.ref))/\bc (jw A H') bs ((xs.take i).filter fun x=>x.on))
    ⟨[],aq.new qg,ah,bc.nil⟩ (fun i H' _ ⟨_,s2,_⟩=>aE.of (s2 _ _ hl)) ?_ ?_
   ·rintro i y H' hi ⟨bs,s2,dq,hB⟩
    obtain⟨a,ha,rfl⟩:=bh hi
    obtain⟨x,hx,rj⟩:=hA.get ha
    obtain⟨dx,dZ⟩:=rj.same s2
    have k4:i<xs.length:=(List.getElem?_eq_some_iff.mp hx).1
    refine⟨rfl,_,rfl,a,_,_,_,_,rfl,dZ,T.aC,T.bJ,rfl,_,rfl,?_⟩
    rw[i8 hx]
    cases q:x.on with
    | true=>
     refine aS ?_
     rw[if_pos rfl]
     obtain⟨g1,g2⟩:=Di dq hB (x:=a) (e:=x) ⟨dx,dZ⟩
     refine⟨_,rfl,_,dq,?_,_,aq.but s2 qg bA.upd,g1,g2⟩
     rw[length_map,hB.1,sizeLine_eq]
     have:=length_filter_le (fun x:Said=>x.on) (xs.take i)
     rw[length_take] at this
     omega
    | false=>
     refine aZ ?_
     rw[if_neg Bool.false_ne_true,append_nil]
     exact⟨bs,s2,dq,hB⟩
   ·rintro H1 ⟨bs,s1,zA,hB⟩
    rw[length_map,hA.1,take_length] at hB
    have K5:=length_filter_le (fun x:Said=>x.on) xs
    have hN:WS.bB n (Vbedac.edgesIn (xs.filter fun x=>x.on)):=WS.mn fun x hx=>ej x (mem_filter.mp hx).1
    refine⟨_,rfl,_,rfl,D,_,rfl,⟨bs,zA,hB⟩,by omega,fun H2 p2 s2 ke=>?_⟩
    refine⟨n,p2,_,rfl,ke,hN,h0,by omega,fun H3 s3=>?_⟩
    exact⟨_,rfl,zl1,fun p hp=>(k.after ((s1.trans s2).trans s3)).new hp⟩
def Dn (l:List (List Nat)):List Int:=Vbedac.nat l.length::l.flatMap Vbedac.listed
theorem Oc {n:Nat} {l:List Said} (ej:∀x,x∈l->x.a<n/\x.b<n) (h:WS.aQ n (Vbedac.edgesIn l)=[]):Vbedac.peel n l.length l=[]:=by
 have:=(WS.jJ (WS.mn ej)).mp h
 cases l with
 | nil=>rfl
 | cons x l=>
  rw[length_cons]
  unfold Vbedac.peel
  rw[this]
theorem Od {n:Nat} {l:List Said} (ej:∀x,x∈l->x.a<n/\x.b<n) (h:WS.aQ n (Vbedac.edgesIn l)≠[]) :
  (Vbedac.without l (Vbedac.sortedKeys ((WS.aQ n (Vbedac.edgesIn l)).map fun e=>e.key))).length<l.length/\
  Vbedac.peel n l.length l=Vbedac.sortedKeys ((WS.aQ n (Vbedac.edgesIn l)).map fun e=>e.key)::Vbedac.peel n (Vbedac.without l (Vbedac.sortedKeys ((WS.aQ n (Vbedac.edgesIn l)).map fun e=>e.key))).length (Vbedac.without l (Vbedac.sortedKeys ((WS.aQ n (Vbedac.edgesIn l)).map fun e=>e.key))):=by
 have hN:=WS.mn (n:=n) ej
 cases c:Vbedac.ring n (Vbedac.edgesIn l) with
 | none=>exact absurd ((WS.jJ hN).mpr c) h
 | some r=>
  obtain⟨i,x,wy⟩:=r
  have e:WS.aQ n (Vbedac.edgesIn l)=wy:=by unfold WS.aQ;rw[c]
  rw[e]
  have eO:=WS.Ec hN c
  refine⟨eO,?_⟩
  obtain⟨k,hk⟩:∃k,l.length=k+1:=⟨l.length-1,by omega⟩
  rw[hk]
  conv=>lhs;unfold Vbedac.peel
  rw[c]
  dsimp only
  rw[WS.Ai k (Vbedac.without l (Vbedac.sortedKeys (wy.map fun e=>e.key))).length (Vbedac.without l (Vbedac.sortedKeys (wy.map fun e=>e.key))) (fun x hx=>ej x (mem_filter.mp hx).1) (by omega) (Nat.le_refl _)]
def RZ (A:aW):Sp:=fun vs H Q _=>∃(n:Nat) (l:Addr) (xs:List Said),vs=[.int n,.ref l]/\dN A H l xs/\(∀x,x∈xs->x.a<n/\x.b<n)/\0<n/\n<=100/\xs.length<=100/\Told H Q (Dn (Vbedac.peel n 100 xs))
theorem j9:aJ ["n","statements","told","count","rest","ring","keys","edge","statement"] ["n","statements"] (ay Au):=by refine⟨rfl,rfl,rfl,?_,rfl,?_,?_⟩ <;> decide +kernel
theorem R0 (T:Txt K mg A):aY P w K mg base bF 5 A.xE A.uR ["n","statements"] (RZ A):=by
 refine T.qB.ok j9 (fun vs H Q E h=>?_) (fun bg Ar outer s H vs Q E hr h=>?_)
 ·obtain⟨n,l,xs,rfl,_⟩:=h
  rfl
 ·obtain⟨n,l,xs,rfl,hS,ej,h0,hz,aX,k⟩:=h
  refine⟨_,(ae (aG (i:=2) j9.nd rfl (Or.inl rfl) (aR ag))
   (ae (aG (i:=3) j9.nd rfl (Or.inl rfl) aH)
   (ae (aG (i:=4) j9.nd rfl (Or.inl rfl) (pv 1))
   (ae (aG (i:=5) j9.nd rfl (Or.inl rfl) (aA (qZ T) (hr.mono (by decide:4<=4)) rfl T.oY T.eL.kp T.oX .nil aF (aa (pv 0) (aa (aA (gQ T) (hr.mono (by decide:3<=4)) rfl T.gq T.cg.kp T.gp .nil aF (aa (pv 4) ag)) ag))))
   (ae (CH PassesOwn.never (aO yo (bX bx (by rfl) T.d9 PySem.boot_len (aa (pv 5) ag)) aH (aU _)) (ae (aG (i:=6) j9.nd rfl (Or.inr rfl) (Ap rfl rfl T.nD rfl T.yS (lZ rfl j9.nd (bz (pv 5)) (c8 (N:=["n","statements","told","count","rest","ring","keys","edge","statement"]) (sc:=ay Au) (own:=[("edge",7)]) (by decide +kernel)) (fun _ _ _ _ _=>(a6 (i:=7) j9.nd rfl (Or.inl rfl))) (fun _ _ _ _ _=>ja) (fun _ _ _ _ _=>by exact(dQ (K:=K) rfl (pv 7) rfl)))))
   (ae (cv (fG PySem.F.plainAttrs_list PySem.F.slot_list_append PySem.F.type_list_append dn (pv 2) (aa (bX bx (by rfl) T.d9 PySem.boot_len (aa (pv 6) ag)) ag)))
   (ae (cv (fG PySem.F.plainAttrs_list PySem.F.slot_list_extend PySem.F.type_list_extend lL (pv 2) (aa (pv 6) ag)))
   (ae (aG (i:=3) j9.nd rfl (Or.inl rfl) (dM nh (pv 3) aH))
   (ae (vf (i:=4) rfl j9.nd rfl rfl (xp rfl rfl rfl (by decide +kernel)) (bz (pv 4)) (c8 (N:=["n","statements","told","count","rest","ring","keys","edge","statement"]) (sc:=ay Au) (own:=[("statement",8)]) (by decide +kernel)) (fun _ _ _ _ _=>(a6 (i:=8) j9.nd rfl (Or.inl rfl))) (fun _ _ _ _ _=>(rK (aO (zp (K:=K) rfl) (dQ (K:=K) rfl (pv 8) rfl) (pv 6) (by with_unfolding_all rfl)))) (fun _ _ _ _ _=>by exact(pv 8)))
   (ao (aG (i:=5) j9.nd rfl (Or.inl rfl) (aA (qZ T) (hr.mono (by decide:4<=4)) rfl T.oY T.eL.kp T.oX .nil aF (aa (pv 0) (aa (aA (gQ T) (hr.mono (by decide:3<=4)) rfl T.gq T.cg.kp T.gp .nil aF (aa (pv 4) ag)) ag)))))))))))
   (ao (ax (dM sJ (aR (aa (pv 3) ag)) (pv 2))))))))),?_⟩
  refine⟨zl0,fun q hq=>?_⟩
  have s1:aq H (upd H q (.lst [])):=aq.new hq
  refine⟨_,rfl,?_⟩
  refine⟨_,rfl,_,rfl,l,xs,rfl,mf hS s1,by omega,fun H2 p2 s2 ke=>?_⟩
  refine⟨n,p2,_,rfl,ke,WS.mn ej,h0,hz,fun H3 p3 s3 hW3=>?_⟩
  have s13:=(s1.trans s2).trans s3
  have ee:H3 q=some (.lst []):=(s2.trans s3) _ _ ah
  refine⟨fun d σ H'=>∃(v6:Option V) (lr lw:Addr) (rest:List Said) (done:List (List Nat)),σ=[some (.int n),some (.ref l),some (.ref q),some (.int (done.length:Nat)),some (.ref lr),some (.ref lw),v6,none,none]/\aq H H'/\dN A H' lr rest/\a7 A H' lw (WS.aQ n (Vbedac.edgesIn rest))/\cH H' q (done.flatMap Vbedac.listed)/\
    (∀x,x∈rest->x.a<n/\x.b<n)/\done.length+rest.length<=100/\(∀ks,ks∈done->ks.length<=100)/\lr≠q/\Vbedac.peel n 100 xs=done++Vbedac.peel n rest.length rest/\d=rest.length,
   ⟨_,none,l,p3,xs,[],rfl,s13,mf hS s13,hW3,ee,ej,(by simp;omega),(by intro ks h;cases h),?_,?_,rfl⟩,?_⟩
  ·obtain⟨as,hl,_⟩:=hS
   exact aK hl hq
  ·rw[List.nil_append]
   exact WS.Ai 100 xs.length xs ej aX (Nat.le_refl _)
  ·rintro d σ H4 ⟨v6,lr,lw,rest,done,rfl,s4,uh,UD,eC,Qa,hlen4,Qb,hlrq,UQ,rfl⟩
   obtain⟨was,UR,US⟩:=id UD
   have FZ:(WS.aQ n (Vbedac.edgesIn rest)).length<=n:=lF
   refine⟨_,rfl,lw,_,rfl,.inl (aE.of UR),_,_,rfl,rfl,_,rfl,?_⟩
   rw[length_map,US.1]
   by_cases ce:WS.aQ n (Vbedac.edgesIn rest)=[]
   ·refine sg (by rw[ce];decide) ?_
    rw[Oc Qa ce,append_nil] at UQ
    refine⟨_,rfl,zl1,fun p hp=>?_⟩
    have s5:aq H4 (upd H4 p (.lst [.int (done.length:Nat)])):=aq.new hp
    have htl:(done.flatMap Vbedac.listed).length<=101*done.length:=mR fun ks h=>by
     have:=Qb ks h
     unfold Vbedac.listed
     rw[length_cons,length_map];omega
    refine⟨_,rfl,p,q,_,_,rfl,rfl,ah,s5 _ _ eC,(by show 1+((done.flatMap Vbedac.listed).map V.int).length<=sizeLine;rw[length_map,sizeLine_eq];omega),fun z lM=>?_⟩
    refine k _ z ((s4.trans s5).trans (aq.new lM)) ((s4.trans s5).free lM) ?_
    show upd _ _ _ _=_
    rw[ah,UQ]
    rfl
   ·refine sf (by have:=List.length_pos_iff.mpr ce;omega) ⟨_,fun _ _ z=>z,?_⟩
    obtain⟨eO,hpe⟩:=Od Qa ce
    refine⟨_,rfl,lw,rfl,⟨_,aE.of UR⟩,fun D qg=>?_⟩
    refine fQ (K:=K) (a:=lw) (xs:=was.map V.ref) (fun i H'=>aq H4 H'/\cH H' D (((WS.aQ n (Vbedac.edgesIn rest)).take i).map fun e=>((e.key:Nat):Int)))
     ⟨aq.new qg,ah⟩ (fun i H' _ ⟨s5,_⟩=>aE.of (s5 _ _ UR)) ?_ ?_
    ·rintro i y H' hi ⟨s5,zG⟩
     obtain⟨a,ha,rfl⟩:=bh hi
     obtain⟨e,he,dx,hd⟩:=US.get ha
     have k4:i<(WS.aQ n (Vbedac.edgesIn rest)).length:=(List.getElem?_eq_some_iff.mp he).1
     have Gk:=s5 _ _ hd
     refine⟨rfl,jm (aS ?_)⟩
     refine⟨_,rfl,a,_,_,_,_,rfl,Gk,T.bw,T.gn,rfl,?_⟩
     refine⟨_,zG,(by rw[length_map,length_map,length_take,sizeLine_eq];omega),aq.but s5 qg bA.upd,?_⟩
     rw[take_snoc he,map_append]
     exact ints_snoc
    ·rintro H5 ⟨s5,zG⟩
     rw[length_map,US.1,take_length] at zG
     refine⟨D,_,rfl,aE.of zG,(by rw[length_map];omega),fun h_ p Ke E8 hp=>?_⟩
     have PU:=IT (l:=(WS.aQ n (Vbedac.edgesIn rest)).map fun e=>e.key) Ke (fun z=>by rw[E8 z,map_map];rfl)
     subst PU
     have I0:(Vbedac.sortedKeys ((WS.aQ n (Vbedac.edgesIn rest)).map fun e=>e.key)).length<=100:=by
      have:=tY ((WS.aQ n (Vbedac.edgesIn rest)).map fun e=>e.key)
      rw[length_map] at this;omega
     generalize wD:Vbedac.sortedKeys ((WS.aQ n (Vbedac.edgesIn rest)).map fun e=>e.key)=ks at eO hpe I0
     have s6:aq H5 (upd H5 p (.lst ((ks.map fun (n:Nat)=>(n:Int)).map V.int))):=aq.new hp
     have Rr:bS (upd H5 p (.lst ((ks.map fun (n:Nat)=>(n:Int)).map V.int))) p ks:=by
      show upd _ _ _ _=_
      rw[ah,map_map];rfl
     generalize upd H5 p (.lst ((ks.map fun (n:Nat)=>(n:Int)).map V.int))=H6 at s6 Rr
     have UT:=s5.trans s6
     have wC:cH H6 q (done.flatMap Vbedac.listed):=UT _ _ eC
     have htl:(done.flatMap Vbedac.listed).length<=101*done.length:=mR fun ks h=>by
      have:=Qb ks h
      unfold Vbedac.listed
      rw[length_cons,length_map];omega
     have wF:p≠q:=fun z=>aK (s5 _ _ eC) hp z.symm
     refine⟨_,rfl,.inl ⟨rfl,_,aE.of wC⟩,_,rfl,p,_,rfl,.inl (aE.of Rr),q,_,_,rfl,rfl,wC,(by rw[length_map,sizeLine_eq];omega),?_⟩
     rw[length_map]
     have AY:=ints_snoc (H:=H6) (q:=q) (xs:=done.flatMap Vbedac.listed) (x:=((ks.length:Nat):Int))
     have b7:bA q H6 (upd H6 q (.lst ((done.flatMap Vbedac.listed).map V.int++[V.int ((ks.length:Nat):Int)]))):=bA.upd
     generalize upd H6 q (.lst ((done.flatMap Vbedac.listed).map V.int++[V.int ((ks.length:Nat):Int)]))=H7 at AY b7
     have hp7:bS H7 p ks:=b7 _ _ Rr wF
     refine⟨_,rfl,.inl ⟨rfl,_,aE.of AY⟩,_,rfl,q,p,_,_,rfl,rfl,AY,hp7,(by rw[length_map,length_map,length_append,sizeLine_eq,List.length_singleton];omega),?_⟩
     have UU:cH (upd H7 q (.lst ((done.flatMap Vbedac.listed++[((ks.length:Nat):Int)]).map V.int++ks.map fun (n:Nat)=>V.int (n:Int)))) q ((done++[ks]).flatMap Vbedac.listed):=by
      show upd _ _ _ _=_
      rw[ah,List.flatMap_append]
      congr 2
      simp[Vbedac.listed,Vbedac.nat]
     have b8:bA q H6 (upd H7 q (.lst ((done.flatMap Vbedac.listed++[((ks.length:Nat):Int)]).map V.int++ks.map fun (n:Nat)=>V.int (n:Int)))):=b7.trans bA.upd
     generalize upd H7 q (.lst ((done.flatMap Vbedac.listed++[((ks.length:Nat):Int)]).map V.int++ks.map fun (n:Nat)=>V.int (n:Int)))=H8 at UU b8
     have s8:aq H H8:=aq.but (s4.trans UT) hq b8
     have hp8:bS H8 p ks:=b8 _ _ Rr wF
     refine⟨_,rfl,_,_,rfl,rfl,?_⟩
     have hR8:dN A H8 lr rest:=by
      have:=mf uh UT
      refine jx.mono this (fun o e=>b8 _ o e hlrq) fun a x ha=>?_
      have hn:=Eo ha wC
      obtain⟨dx,ha⟩:=ha
      exact⟨dx,b8 _ _ ha hn⟩
     obtain⟨as,Gs,hRA⟩:=id hR8
     refine⟨_,rfl,lr,rfl,⟨_,aE.of Gs⟩,fun D2 Fn=>?_⟩
     have hD2q:D2≠q:=fun z=>aK UU Fn z.symm
     refine fQ (K:=K) (a:=lr) (xs:=as.map V.ref) (fun i H'=>∃bs,aq H8 H'/\H' D2=some (.lst (bs.map V.ref))/\bc (jw A H') bs (Vbedac.without (rest.take i) ks))
      ⟨[],aq.new Fn,ah,bc.nil⟩ (fun i H' _ ⟨_,s9,_⟩=>aE.of (s9 _ _ Gs)) ?_ ?_
     ·rintro i y H' hi ⟨bs,s9,K6,hB⟩
      obtain⟨a,ha,rfl⟩:=bh hi
      obtain⟨x,hx,rj⟩:=hRA.get ha
      obtain⟨dx,dZ⟩:=rj.same s9
      have k4:i<rest.length:=(List.getElem?_eq_some_iff.mp hx).1
      refine⟨rfl,_,rfl,a,_,_,_,_,rfl,dZ,T.aC,T.bp,rfl,_,rfl,p,_,rfl,.inl (aE.of (s9 _ _ hp8)),rfl,Ba _,_,rfl,K1 (Dg x.key ks) ?_⟩
      unfold Vbedac.without at hB ⊢
      rw[i8 hx]
      cases qk:ks.contains x.key with
      | true=>
       rw[if_pos rfl,if_neg (by simp),append_nil]
       exact⟨bs,s9,K6,hB⟩
      | false=>
       rw[if_neg Bool.false_ne_true,if_pos (by simp)]
       obtain⟨g1,g2⟩:=Di K6 hB (x:=a) (e:=x) ⟨dx,dZ⟩
       refine⟨_,rfl,_,K6,?_,_,aq.but s9 Fn bA.upd,g1,g2⟩
       rw[length_map,hB.1,sizeLine_eq]
       have:=length_filter_le (fun x:Said=>!ks.contains x.key) (rest.take i)
       rw[length_take] at this
       omega
     ·rintro H9 ⟨bs,s9,K6,hB⟩
      rw[length_map,hRA.1,take_length] at hB
      have UW:∀x,x∈Vbedac.without rest ks->x.a<n/\x.b<n:=fun x hx=>Qa x (mem_filter.mp hx).1
      refine⟨_,rfl,_,rfl,D2,_,rfl,⟨bs,K6,hB⟩,by omega,fun H10 p10 s10 hE10=>?_⟩
      refine⟨n,p10,_,rfl,hE10,WS.mn UW,h0,hz,fun H11 p11 s11 hW11=>?_⟩
      have Qc:=s10.trans s11
      refine⟨(Vbedac.without rest ks).length,eO,some (.ref p),D2,p11,Vbedac.without rest ks,done++[ks],?_,(s8.trans s9).trans Qc,mf ⟨bs,K6,hB⟩ Qc,hW11,(s9.trans Qc) _ _ UU,UW,(by rw[length_append];simp;omega),?_,hD2q,?_,rfl⟩
      ·rw[length_append]
       rfl
      ·intro ff h
       rcases mem_append.mp h with h | h
       ·exact Qb ff h
       ·rw[mem_singleton.mp h];exact I0
      ·rw[UQ,hpe,append_assoc]
       rfl
theorem Oe (n:Nat) (h:n<=1000000) (he:n % 2=0):RgC 0 (n:Int) 2 (n / 2):=by
 have hs:Builtin.Range.rangeSize 0 (n:Int) 2=((n / 2:Nat):Int):=by
  unfold Builtin.Range.rangeSize
  simp only[show (2:Int) > 0 by decide,if_true]
  split <;> omega
 have fl:∀i:Int,-1000000000<=i->i<=1000000000->Builtin.Range.rangeFitsLong i=true:=by
  intro i h1 h2
  have p:(2:Int) ^ 63=9223372036854775808:=by decide
  unfold Builtin.Range.rangeFitsLong
  rw[p,Bool.and_eq_true]
  exact⟨decide_eq_true (by omega),decide_eq_true (by omega)⟩
 refine⟨by decide,by decide,?_,hs⟩
 unfold Builtin.Range.small
 rw[hs,fl 0 (by omega) (by omega),fl n (by omega) (by omega),fl 2 (by omega) (by omega),fl ((n / 2:Nat):Int) (by omega) (by omega),if_pos (by decide),fl ((n:Int)+(2-1)) (by omega) (by omega)]
 simp
def keyOf (e:Edge):List Key:=[Sum.inl (e.key:Int),Sum.inl (e.dir:Int)]
theorem Of {α:Type} {p:α->Bool} {l:List α} {x:α}:(l++[x]).find? p=match l.find? p with
  | some y=>some y
  | none=>if p x=true then some x else none:=by
 rw[List.find?_append]
 cases l.find? p with
 | some y=>rfl
 | none=>
  rw[Option.none_or,List.find?_cons]
  cases p x <;> rfl
def EH (es:List (Edge×Addr)) (kvs:List (List Key×V)):Prop:=∀k d:Int,dJ kvs [Sum.inl k,Sum.inl d]=(es.find? fun p=>WS.m3 k d p.1).map fun p=>V.ref p.2
theorem EH.put {es:List (Edge×Addr)} {kvs:List (List Key×V)} (h:EH es kvs) {e:Edge} {a:Addr} (hn:∀p,p∈es->¬(p.1.key=e.key/\p.1.dir=e.dir)):EH (es++[(e,a)]) (putK kvs (keyOf e) (.ref a)):=by
 intro k d
 rw[yq,Of]
 by_cases c:([Sum.inl k,Sum.inl d]:List Key)=keyOf e
 ·rw[if_pos c]
  unfold keyOf at c
  injection c with c1 c2
  injection c1 with c1
  injection c2 with c2 _
  injection c2 with c2
  have e0:es.find? (fun p=>WS.m3 k d p.1)=none:=by
   rw[List.find?_eq_none]
   intro p hp q
   unfold WS.m3 at q
   rw[Bool.and_eq_true,decide_eq_true_eq,decide_eq_true_eq] at q
   exact hn p hp ⟨by omega,by omega⟩
  rw[e0]
  dsimp only
  rw[if_pos (by unfold WS.m3;rw[Bool.and_eq_true];exact⟨decide_eq_true (by omega),decide_eq_true (by omega)⟩)]
  rfl
 ·rw[if_neg c,h k d]
  have e0:WS.m3 k d e=false:=by
   rw[Bool.eq_false_iff]
   intro q
   unfold WS.m3 at q
   rw[Bool.and_eq_true,decide_eq_true_eq,decide_eq_true_eq] at q
   exact c (by unfold keyOf;rw[q.1,q.2])
  cases es.find? fun p=>WS.m3 k d p.1 with
  | some y=>rfl
  | none=>
   dsimp only
   rw[if_neg (by rw[e0];exact Bool.false_ne_true)]
theorem I_ {p:Edge->Bool}:∀{es:List Edge} {as:List Addr},es.length=as.length->(es.zip as).find? (fun q=>p q.1)=none->es.find? p=none
 | [],_,_,_=>rfl
 | e::es,[],h,_=>by simp at h
 | e::es,a::as,h,k=>by
  rw[List.zip_cons_cons,List.find?_cons] at k
  rw[List.find?_cons]
  cases c:p e with
  | true=>simp[c] at k
  | false=>
   simp only[c] at k ⊢
   exact I_ (by simpa using h) k
theorem zJ {p:Edge->Bool}:∀{es:List Edge} {as:List Addr} {e:Edge} {a:Addr},(es.zip as).find? (fun q=>p q.1)=some (e,a)->es.find? p=some e/\∃i:Nat,es[i]?=some e/\as[i]?=some a
 | [],_,e,a,h=>by simp at h
 | _::_,[],e,a,h=>by simp at h
 | x::es,b::as,e,a,h=>by
  rw[List.zip_cons_cons,List.find?_cons] at h
  rw[List.find?_cons]
  cases c:p x with
  | true=>
   simp only[c] at h ⊢
   cases h
   exact⟨rfl,0,rfl,rfl⟩
  | false=>
   simp only[c] at h ⊢
   obtain⟨h1,i,h2,h3⟩:=zJ h
   exact⟨h1,i+1,h2,h3⟩
def y4 (A:aW):Sp:=fun vs H Q _=>∃(le lr:Addr) (es:List Edge) (row:List Int),vs=[.ref le,.ref lr]/\a7 A H le es/\cH H lr row/\row.length<=100000/\es.length<=10000/\(es.Pairwise fun e f=>¬(e.key=f.key/\e.dir=f.dir))/\
 (WS.eF es row=none->∀H',aq H H'->Q .bE H')/\(∀fs,WS.eF es row=some fs->∀(H':Hp) (p:Addr),aq H H'->a7 A H' p fs->Q (.ref p) H')
theorem e8:aJ ["edges","row","by_name","edge","found","i","name"] ["edges","row"] (ay mU):=by refine⟨rfl,rfl,rfl,?_,rfl,?_,?_⟩ <;> decide +kernel
theorem y6 (T:Txt K mg A):aY P w K mg base bF 1 A.fw A.eU ["edges","row"] (y4 A):=by
 refine T.cB.ok e8 (fun vs H Q E h=>?_) (fun bg Ar outer s H vs Q E hr h=>?_)
 ·obtain⟨le,lr,es,row,rfl,_⟩:=h
  rfl
 ·obtain⟨le,lr,es,row,rfl,hE,hR,m6,Ic,UX,k0,k1⟩:=h
  obtain⟨as,hl,hA⟩:=id hE
  have jB:H lr=some (.lst (row.map V.int)):=hR
  refine⟨_,(ae (aP (aO yn (dM So (bX bx (by rfl) T.d9 PySem.boot_len (aa (pv 1) ag)) aH) aH (aU _)) (ao (ax iu)) aI)
   (ae (aG (i:=2) e8.nd rfl (Or.inl rfl) OV)
   (ae (cq PassesOwn.never rfl (bz (pv 0)) (a6 (i:=3) e8.nd rfl (Or.inl rfl))
    (ao (EV (kb hr) (pv 2) (DC (aa (aD (pv 3) rfl) (aa (aD (pv 3) rfl) ag))) (pv 3) rfl)))
   (ae (aG (i:=4) e8.nd rfl (Or.inl rfl) (aR ag))
   (ae (cq PassesOwn.never rfl (MU rfl T.hX (aa aH (aa (bX bx (by rfl) T.d9 PySem.boot_len (aa (pv 1) ag)) (aa aH ag)))) (a6 (i:=5) e8.nd rfl (Or.inl rfl))
    (ae (aG (i:=6) e8.nd rfl (Or.inl rfl) (DC (aa (bf aN (pv 1) (pv 5) (fun _ _=>rfl)) (aa (bf aN (pv 1) (dM nh (pv 5) aH) (fun _ _=>rfl)) ag))))
   (ae (aP (d3 (Ab (kb hr) (pv 6) (pv 2))) (ao (ax iu)) aI)
   (ao (cv (fG PySem.F.plainAttrs_list PySem.F.slot_list_append PySem.F.type_list_append dn (pv 4) (aa (nS (kb hr) (pv 2) (pv 6) (fun _ _=>rfl)) ag)))))))
   (ao (ax (pv 4)))))))),?_⟩
  refine⟨_,rfl,lr,_,rfl,.inl (aE.of jB),_,_,rfl,rfl,(by show (0:Int)<2;decide),rfl,_,rfl,?_⟩
  rw[length_map]
  by_cases c:row.length % 2=0
  ·refine uL (by omega) ?_
   intro bd hbd
   have s1:aq H (upd H bd (.dT [])):=aq.new hbd
   refine⟨_,rfl,le,rfl,⟨_,aE.of (s1 _ _ hl)⟩,ck (K:=K) (a:=le) (xs:=as.map V.ref) (fun i σ H'=>∃v3 kvs,σ=[some (.ref le),some (.ref lr),some (.ref bd),v3,none,none,none]/\aq H H'/\H' bd=some (.dT kvs)/\kvs.length<=i/\EH ((es.zip as).take i) kvs)
    ⟨none,[],rfl,s1,ah,Nat.le_refl _,(by intro k d;rfl)⟩ (fun i σ H' _ ⟨_,_,_,s2,_⟩=>aE.of (s2 _ _ hl)) ?_ ?_⟩
   ·rintro i y σ H' hi ⟨v3,kvs,rfl,s2,Ep,DS,Og⟩
    obtain⟨a,ha,rfl⟩:=bh hi
    obtain⟨e,he,dx,hd⟩:=hA.get ha
    have hd2:=s2 _ _ hd
    have k4:i<es.length:=(List.getElem?_eq_some_iff.mp he).1
    refine⟨_,rfl,_,rfl,_,rfl,a,_,_,_,_,rfl,hd2,T.bw,T.gn,rfl,_,rfl,a,_,_,_,_,rfl,hd2,T.bw,T.eI,rfl,zl2,fun t ht=>?_⟩
    have s3:aq H' (upd H' t (.tup [.int e.key,.int e.dir])):=aq.new ht
    refine⟨bd,_,rfl,yr.t (k:=keyOf e) (s3 _ _ Ep) ah (by rw[sizeLine_eq];omega),?_⟩
    refine⟨_,putK kvs (keyOf e) (.ref a),rfl,aq.but (s2.trans s3) hbd bA.upd,ah,?_,?_⟩
    ·unfold putK
     split
     ·rw[length_map];omega
     ·rw[length_append];simp;omega
    ·have hz:(es.zip as)[i]?=some (e,a):=by
      rw[List.getElem?_zip_eq_some]
      exact⟨he,ha⟩
     rw[take_snoc hz]
     refine Og.put fun q hq=>?_
     obtain⟨j,hj,Rt⟩:=List.mem_iff_getElem.mp hq
     rw[length_take] at hj
     rw[List.getElem_take,List.getElem_zip] at Rt
     have Rh:j<i:=by omega
     obtain⟨Tt,vp⟩:=List.getElem?_eq_some_iff.mp he
     have:=List.pairwise_iff_getElem.mp UX j i (by omega) Tt Rh
     rw[<- Rt,<- vp]
     exact this
   ·rintro σ H2 ⟨v3,kvs,rfl,s2,Ep,DS,Og⟩
    rw[length_map] at Og
    rw[List.take_of_length_le (by rw[List.length_zip];omega)] at Og
    refine⟨zl0,fun q hq=>?_⟩
    have s3:aq H2 (upd H2 q (.lst [])):=aq.new hq
    have xX:H q=none:=s2.free hq
    have hqb:bd≠q:=aK Ep hq
    have oJ:=(s2.trans s3) _ _ jB
    refine⟨_,rfl,lr,_,rfl,.inl (aE.of oJ),_,_,_,row.length / 2,rfl,(by rw[length_map];exact Oe row.length (by omega) c),Lr (lo:=0) (c:=2) (n:=row.length / 2) (fun i σ H'=>∃v5 v6 bs fs,σ=[some (.ref le),some (.ref lr),some (.ref bd),v3,some (.ref q),v5,v6]/\aq H H'/\H' bd=some (.dT kvs)/\H' q=some (.lst (bs.map V.ref))/\bc (fE A H') bs fs/\fs.length=i/\
      WS.eF es row=match WS.eF es (row.drop (2*i)) with
       | none=>none
       | some gs=>some (fs++gs))
     ⟨none,none,[],[],rfl,s2.trans s3,s3 _ _ Ep,ah,bc.nil,rfl,?_⟩ ?_ ?_⟩
    ·rw[Nat.mul_zero,List.drop_zero]
     cases WS.eF es row <;> rfl
    ·rintro i σ H4 hi ⟨v5,v6,bs,fs,rfl,s4,hb4,eC,hB,K5,aT⟩
     have uh:=s4 _ _ jB
     have h1:2*i<row.length:=by omega
     have h2:2*i+1<row.length:=by omega
     obtain⟨kk,UY⟩:∃kk,row[2*i]?=some kk:=⟨_,getElem?_eq_getElem h1⟩
     obtain⟨dd,K4⟩:∃dd,row[2*i+1]?=some dd:=⟨_,getElem?_eq_getElem h2⟩
     have e1:(0:Int)+((i:Nat):Int)*2=((2*i:Nat):Int):=by omega
     rw[e1]
     have e2:((2*i:Nat):Int)+1=((2*i+1:Nat):Int):=by omega
     refine⟨_,rfl,_,rfl,lr,_,_,_,rfl,rfl,aE.of uh,a_ (j:=2*i) (v:=.int kk) (by rw[getElem?_map,UY];rfl),_,rfl,_,rfl,_,_,rfl,rfl,lr,_,_,_,rfl,rfl,aE.of uh,(by rw[e2];exact a_ (j:=2*i+1) (v:=.int dd) (by rw[getElem?_map,K4];rfl)),zl2,fun t ht=>?_⟩
     have s5:aq H4 (upd H4 t (.tup [.int kk,.int dd])):=aq.new ht
     have hb5:=s5 _ _ hb4
     have hg:=jC.t (k:=[Sum.inl kk,Sum.inl dd]) hb5 (b:=t) ah
     rw[Og kk dd] at hg
     rw[WS.Pa (es:=es) UY K4] at aT
     rw[WS.GC] at aT
     cases cf:(es.zip as).find? fun p=>WS.m3 kk dd p.1 with
     | none=>
      rw[cf] at hg
      rw[I_ (by rw[hA.1]) cf] at aT
      refine⟨_,rfl,_,rfl,bd,_,rfl,hg,_,rfl,aS ?_⟩
      exact k0 aT _ (s4.trans s5)
     | some pr=>
      obtain⟨e,a⟩:=pr
      rw[cf] at hg
      obtain⟨f1,j,f2,f3⟩:=zJ cf
      rw[f1] at aT
      have hEa:fE A (upd H4 t (.tup [.int kk,.int dd])) a e:=(hA.2 j a e f3 f2).same (s4.trans s5)
      refine⟨_,rfl,_,rfl,bd,_,rfl,hg,_,rfl,aZ ?_⟩
      have kW:=s5 _ _ eC
      obtain⟨g1,g2⟩:=pZ kW (hB.imp fun a e h=>h.same s5) (x:=a) (e:=e) hEa
      refine⟨_,rfl,.inl ⟨rfl,_,aE.of kW⟩,_,rfl,_,rfl,bd,_,rfl,hg,q,_,_,rfl,rfl,kW,(by rw[length_map,hB.1,K5,sizeLine_eq];omega),?_⟩
      refine⟨_,_,bs++[a],fs++[e],rfl,aq.but (s4.trans s5) xX bA.upd,(by rw[aw hqb];exact hb5),g1,g2,by rw[length_append,K5];rfl,?_⟩
      rw[aT]
      dsimp only
      cases WS.eF es (row.drop (2*(i+1))) with
      | none=>rfl
      | some gs=>dsimp only;rw[append_assoc];rfl
    ·rintro σ H4 ⟨v5,v6,bs,fs,rfl,s4,hb4,eC,hB,K5,aT⟩
     have e1:2*(row.length / 2)=row.length:=by omega
     rw[e1,List.drop_length] at aT
     have hrow':WS.eF es row=some fs:=by rw[aT];show some (fs++[])=_;rw[append_nil]
     exact⟨_,rfl,k1 fs hrow' H4 q s4 ⟨bs,eC,hB⟩⟩
  ·refine uM (by omega) ?_
   exact k0 (WS.Kn row c) H fun _ _ h=>h
def sk (es:List Edge) (a:Nat) (row:List Int):List Int:=match WS.eF es row with
 | none=>[-2]
 | some fs=>match WS.wo a 0 fs with
  | none=>[-2]
  | some (i,x)=>[0,Vbedac.nat i,x]
def R1 (A:aW):Sp:=fun vs H Q _=>∃(le lr:Addr) (a:Nat) (es:List Edge) (row:List Int),vs=[.ref le,.int a,.ref lr]/\a7 A H le es/\cH H lr row/\row.length<=100000/\es.length<=10000/\(es.Pairwise fun e f=>¬(e.key=f.key/\e.dir=f.dir))/\Told H Q (sk es a row)
theorem sm:aJ ["edges","event","row","found","at","total","edge"] ["edges","event","row"] (ay Ik):=by refine⟨rfl,rfl,rfl,?_,rfl,?_,?_⟩ <;> decide +kernel
theorem R3 (T:Txt K mg A):aY P w K mg base bF 2 A.xK A.u1 ["edges","event","row"] (R1 A):=by
 refine T.qG.ok sm (fun vs H Q E h=>?_) (fun bg Ar outer s H vs Q E hr h=>?_)
 ·obtain⟨le,lr,a,es,row,rfl,_⟩:=h
  rfl
 ·obtain⟨le,lr,a,es,row,rfl,hE,hR,m6,Ic,UX,k⟩:=h
  refine⟨_,(ae (aG (i:=3) sm.nd rfl (Or.inl rfl) (aA (y6 T) (hr.mono (by decide:1<=1)) rfl T.rE T.cB.kp T.rD .nil aF (aa (pv 0) (aa (pv 2) ag))))
   (ae (aP (d3 (gR (pv 3))) (ao (ax (aR (aa (bU (v:=.int (-2)) rfl T.kI ⟨_,rfl⟩) ag)))) aI)
   (ae (aG (i:=4) sm.nd rfl (Or.inl rfl) (pv 1))
   (ae (aG (i:=5) sm.nd rfl (Or.inl rfl) aH)
   (ae (cq PassesOwn.never rfl (bz (pv 3)) (a6 (i:=6) sm.nd rfl (Or.inl rfl))
    (ae (aP (aO yn (aD (pv 6) rfl) (pv 4) (aU _)) (ao (ax (aR (aa (bU (v:=.int (-2)) rfl T.kI ⟨_,rfl⟩) ag)))) aI)
   (ae (aG (i:=4) sm.nd rfl (Or.inl rfl) (aD (pv 6) rfl))
   (ao (aG (i:=5) sm.nd rfl (Or.inl rfl) (dM nh (pv 5) (aD (pv 6) rfl)))))))
   (ao (ax (aR (aa aH (aa (pv 4) (aa (pv 5) ag))))))))))),?_⟩
  unfold sk at k
  refine⟨_,rfl,_,rfl,le,lr,es,row,rfl,hE,hR,m6,Ic,UX,fun hn H1 s1=>?_,fun fs hf H1 p1 s1 KS=>?_⟩
  ·rw[hn] at k
   refine⟨_,rfl,_,rfl,aS ?_⟩
   exact⟨zl1,fun p hp=>(k.after s1).new hp⟩
  ·rw[hf] at k
   dsimp only at k
   obtain⟨bs,jA,hB⟩:=id KS
   refine⟨_,rfl,_,rfl,aZ ?_⟩
   refine⟨_,rfl,?_⟩
   refine⟨_,rfl,p1,rfl,⟨_,aE.of jA⟩,ck (K:=K) (a:=p1) (xs:=bs.map V.ref) (fun i σ H'=>∃(v6:Option V) (at_:Nat) (Oh:Int),H'=H1/\σ=[some (.ref le),some (.int a),some (.ref lr),some (.ref p1),some (.int at_),some (.int Oh),v6]/\WS.wo a 0 fs=WS.wo at_ Oh (fs.drop i))
    ⟨none,a,0,rfl,rfl,rfl⟩ (fun i σ H' _ ⟨_,_,_,e,_⟩=>by rw[e];exact aE.of jA) ?_ ?_⟩
   ·rintro i y σ H' hi ⟨v6,at_,Oh,rfl,rfl,hw⟩
    obtain⟨b,hb,rfl⟩:=bh hi
    obtain⟨e,he,dx,hd⟩:=hB.get hb
    obtain⟨k4,TC⟩:=List.getElem?_eq_some_iff.mp he
    rw[List.drop_eq_getElem_cons k4,TC] at hw
    rw[WS.LC] at hw
    refine⟨_,rfl,b,_,_,_,_,rfl,hd,T.bw,T.cK,rfl,_,rfl,rfl,_,rfl,?_⟩
    by_cases c:e.src=at_
    ·rw[if_pos c] at hw
     refine uL (by rw[c]) ?_
     refine⟨_,rfl,b,_,_,_,_,rfl,hd,T.bw,T.cM,rfl,?_⟩
     refine⟨_,rfl,_,rfl,b,_,_,_,_,rfl,hd,T.bw,T.cZ,rfl,_,_,rfl,rfl,?_⟩
     exact⟨_,e.dst,Oh+e.w,rfl,rfl,hw⟩
    ·rw[if_neg c] at hw
     rw[hw] at k
     refine uM (by omega) ?_
     exact⟨zl1,fun p hp=>(k.after s1).new hp⟩
   ·rintro σ H' ⟨v6,at_,Oh,rfl,rfl,hw⟩
    rw[length_map,hB.1,List.drop_length] at hw
    rw[hw] at k
    exact⟨_,rfl,_,rfl,zl3,fun p hp=>(k.after s1).new hp⟩
def B4 (A:aW):Sp:=fun vs H Q _=>∃(a:Addr) (x:Said),vs=[.ref a]/\jw A H a x/\Told H Q (Vbedac.shownSaid x)
theorem um:aJ ["statement","said"] ["statement"] (ay pz):=by refine⟨rfl,rfl,rfl,?_,rfl,?_,?_⟩ <;> decide +kernel
theorem B5 (T:Txt K mg A):aY P w K mg base bF 2 A.g9 A.gM ["statement"] (B4 A):=by
 refine T.dG.ok um (fun vs H Q E h=>?_) (fun bg Ar outer s H vs Q E hr h=>?_)
 ·obtain⟨a,x,rfl,_⟩:=h
  rfl
 ·obtain⟨a,x,rfl,⟨dx,ha⟩,k⟩:=h
  refine⟨_,(ae (aG (i:=1) um.nd rfl (Or.inl rfl) (aR (aa (aD (pv 0) rfl) (aa (aD (pv 0) rfl) (aa (aD (pv 0) rfl) (aa (aD (pv 0) rfl) (aa (aD (pv 0) rfl) (aa (aD (pv 0) rfl) ag))))))))
   (ao (ax (dM sJ (pv 1) (aR (aa (aA (iV T) (hr.mono (by decide:1<=1)) rfl T.iB T.cy.kp T.iA .nil aF (aa (aD (pv 0) rfl) ag)) ag)))))),?_⟩
  refine⟨_,rfl,a,_,_,_,_,rfl,ha,T.aC,T.bp,rfl,_,rfl,a,_,_,_,_,rfl,ha,T.aC,T.cW,rfl,_,rfl,a,_,_,_,_,rfl,ha,T.aC,T.cw,rfl,_,rfl,a,_,_,_,_,rfl,ha,T.aC,T.cx,rfl,_,rfl,a,_,_,_,_,rfl,ha,T.aC,T.c_,rfl,_,rfl,a,_,_,_,_,rfl,ha,T.aC,T.df,rfl,zl6,fun q hq=>?_⟩
  have s1:aq H (upd H q (.lst [.int x.key,.int x.who,.int x.a,.int x.b,.int x.lo,.int x.hi])):=aq.new hq
  have CC:=s1 _ _ ha
  refine⟨_,rfl,_,rfl,a,_,_,_,_,rfl,CC,T.aC,T.bJ,rfl,_,rfl,zl1,fun q2 oH=>?_⟩
  have s2:=aq.new (o:=.lst [.int (Vbedac.bit x.on)]) oH
  refine⟨q,q2,_,_,rfl,rfl,s2 _ _ ah,ah,(by show 6+1<=sizeLine;decide),fun z hz=>?_⟩
  refine k _ z ((s1.trans s2).trans (aq.new hz)) ((s1.trans s2).free hz) ?_
  show upd _ _ _ _=_
  rw[ah]
  rfl
def Ja (A:aW):Sp:=fun vs H Q _=>∃(n:Nat) (l:Addr) (xs:List Said),vs=[.int n,.ref l]/\dN A H l xs/\xs.length<=1000/\Told H Q (Vbedac.nat n::Vbedac.nat xs.length::xs.flatMap Vbedac.shownSaid)
theorem vV:aJ ["n","statements","numbers","statement"] ["n","statements"] (ay w6):=by refine⟨rfl,rfl,rfl,?_,rfl,?_,?_⟩ <;> decide +kernel
theorem Jb (T:Txt K mg A):aY P w K mg base bF 3 A.mL A.lB ["n","statements"] (Ja A):=by
 refine T.il.ok vV (fun vs H Q E h=>?_) (fun bg Ar outer s H vs Q E hr h=>?_)
 ·obtain⟨n,l,xs,rfl,_⟩:=h
  rfl
 ·obtain⟨n,l,xs,rfl,⟨as,hl,hA⟩,aX,k⟩:=h
  refine⟨_,(ae (aG (i:=2) vV.nd rfl (Or.inl rfl) (aR (aa (pv 0) (aa (bX bx (by rfl) T.d9 PySem.boot_len (aa (pv 1) ag)) ag))))
   (ae (cq PassesOwn.never rfl (bz (pv 1)) (a6 (i:=3) vV.nd rfl (Or.inl rfl))
    (ao (cv (fG PySem.F.plainAttrs_list PySem.F.slot_list_extend PySem.F.type_list_extend lL (pv 2) (aa (aA (B5 T) (hr.mono (by decide:2<=2)) rfl T.vL T.dG.kp T.vK .nil aF (aa (pv 3) ag)) ag)))))
   (ao (ax (pv 2))))),?_⟩
  refine⟨_,rfl,_,rfl,l,_,rfl,.inl (aE.of hl),zl2,fun q hq=>?_⟩
  rw[length_map,hA.1]
  have s1:aq H (upd H q (.lst [.int n,.int (xs.length:Nat)])):=aq.new hq
  refine⟨_,rfl,l,rfl,⟨_,aE.of (s1 _ _ hl)⟩,ck (K:=K) (a:=l) (xs:=as.map V.ref) (fun i σ H'=>∃v3,σ=[some (.int n),some (.ref l),some (.ref q),v3]/\aq H H'/\cH H' q (Vbedac.nat n::Vbedac.nat xs.length::(xs.take i).flatMap Vbedac.shownSaid))
   ⟨none,rfl,s1,ah⟩ (fun i σ H' _ ⟨_,_,s2,_⟩=>aE.of (s2 _ _ hl)) ?_ ?_⟩
  ·rintro i y σ H' hi ⟨v3,rfl,s2,oH⟩
   obtain⟨a,ha,rfl⟩:=bh hi
   obtain⟨x,hx,rj⟩:=hA.get ha
   have k4:i<xs.length:=(List.getElem?_eq_some_iff.mp hx).1
   have K5:((xs.take i).flatMap Vbedac.shownSaid).length<=7*i:=by
    have:=mR (f:=Vbedac.shownSaid) (B:=7) (l:=xs.take i) fun x _=>Nat.le_refl 7
    rw[length_take] at this
    omega
   refine⟨_,rfl,.inl ⟨rfl,_,aE.of oH⟩,_,rfl,a,x,rfl,rj.same s2,fun H3 p3 s3 _ Jc=>?_⟩
   have ee:=s3 _ _ oH
   have h7:(Vbedac.shownSaid x).length=7:=rfl
   refine⟨q,p3,_,_,rfl,rfl,ee,Jc,(by rw[length_map,length_map,h7,length_cons,length_cons,sizeLine_eq];omega),?_⟩
   refine⟨_,rfl,aq.but (s2.trans s3) hq bA.upd,?_⟩
   rw[p0 hx,<- List.cons_append,<- List.cons_append]
   exact vS
  ·rintro σ H' ⟨v3,rfl,s2,oH⟩
   rw[length_map,hA.1,take_length] at oH
   exact⟨_,rfl,k H' q s2 hq oH⟩
def oF (s:State) (name:Str) (ns:List Int) (r:Option (List Int)):Prop:=
 (name="doubt"/\∃m:Nat,ns=[(m:Int)]/\m<=3/\r=some (j8 s.n (fun x=>x.key) (Vbedac.standing s) m))\/
 (name="who"/\∃m:Nat,ns=[(m:Int)]/\m<=3/\r=some (j8 s.n (fun x=>x.who) (Vbedac.standing s) m))\/
 (name="peel"/\r=some (Dn (Vbedac.peel s.n 100 (Vbedac.standing s))))\/
 (name="alone"/\∃v:Nat,ns=[(v:Int)]/\r=some (p_ s.n (e6 v s.said)))\/
 ((name ≠ "doubt"/\name ≠ "who"/\name ≠ "peel"/\name ≠ "alone")/\r=none)
def EI (A:aW):Sp:=fun vs H Q _=>∃(k d c:Addr) (s:State) (ad:Nat->Addr) (ks:List Said) (name:Str) (kinds:List Str) (ns row:List Int) (r:Option (List Int)),vs=[.ref k,.ref c]/\bR A H k d s ad ks/\WS.Well s/\CallAt A H c name kinds ns row/\oF s name ns r/\
 (∀l,r=some l->Told H Q l)/\(r=none->Q .bE H)
theorem EJ:aJ ["kept","call"] ["kept","call"] (ay rO):=by refine⟨rfl,rfl,rfl,?_,rfl,?_,?_⟩ <;> decide +kernel
theorem EK (T:Txt K mg A):aY P w K mg base bF 9 A.jd A.iI ["kept","call"] (EI A):=by
 refine T.eW.ok EJ (fun vs H Q E h=>?_) (fun bg Ar outer s H vs Q E hr h=>?_)
 ·obtain⟨k,d,c,s,ad,ks,name,kinds,ns,row,r,rfl,_⟩:=h
  rfl
 ·obtain⟨k,d,c,st,ad,ks,name,kinds,ns,row,r,rfl,hK,hW,hC,hQ,k1,k0⟩:=h
  obtain⟨dx,br⟩:=hK.ob
  obtain⟨dc,lk,ln,lr,hc,_,hn,aT⟩:=id hC
  have h2:=hW.n2
  have Ul:=hW.D1
  have J0:=o5 hW
  have Ru:=WS.m5 hW
  have ej:∀x,x∈Vbedac.standing st->x.a<st.n/\x.b<st.n:=fun x hx=>hW.ab x (WS.bQ hx).1
  refine⟨_,(ae (aP (aO bZ (aD (pv 1) rfl) cF (aU _)) (ao (ax (aA (PZ T) (hr.mono (by decide:8<=8)) rfl T.Kw T.oi.kp T.Kv .nil aF (aa (aD (pv 0) rfl) (aa (gi (pv 0) T.ba T.bP (eD T) (hr.mono (by decide:2<=8)) T.dC .nil aF) (aa (bf aN (aD (pv 1) rfl) aH (fun _ _=>rfl)) ag)))))) aI)
   (ae (aP (aO bZ (aD (pv 1) rfl) cF (aU _)) (ao (ax (aA (UP T) (hr.mono (by decide:8<=8)) rfl T.Q3 T.uH.kp T.Q2 .nil aF (aa (aD (pv 0) rfl) (aa (gi (pv 0) T.ba T.bP (eD T) (hr.mono (by decide:2<=8)) T.dC .nil aF) (aa (bf aN (aD (pv 1) rfl) aH (fun _ _=>rfl)) ag)))))) aI)
   (ae (aP (aO bZ (aD (pv 1) rfl) cF (aU _)) (ao (ax (aA (R0 T) (hr.mono (by decide:5<=8)) rfl T.NF T.qB.kp T.ND .nil aF (aa (aD (pv 0) rfl) (aa (gi (pv 0) T.ba T.bP (eD T) (hr.mono (by decide:2<=8)) T.dC .nil aF) ag))))) aI)
   (ae (aP (aO bZ (aD (pv 1) rfl) cF (aU _)) (ao (ax (aA (P_ T) (hr.mono (by decide:4<=8)) rfl T.Ky T.oj.kp T.Kx .nil aF (aa (aD (pv 0) rfl) (aa (JZ (pv 0) T.ba T.dw (oI T) (hr.mono (by decide:2<=8)) T.kS .nil aF (aa (bf aN (aD (pv 1) rfl) aH (fun _ _=>rfl)) ag)) ag))))) aI)
   (ao (ax iu)))))),?_⟩
  rcases hQ with ⟨rfl,m,rfl,hm,rfl⟩|⟨rfl,m,rfl,hm,rfl⟩|⟨rfl,rfl⟩|⟨rfl,v,rfl,rfl⟩|⟨⟨n1,n2,n3,n4⟩,rfl⟩
  ·refine⟨_,rfl,c,_,dc,_,_,rfl,hc,T.az,T.au,rfl,rfl,_,rfl,bC ?_⟩
   refine⟨_,rfl,k,_,_,_,_,rfl,br,T.ba,T.cn,rfl,_,rfl,k,dx,_,rfl,br,rfl,k,d,st,ad,ks,rfl,hK,hW,fun H1 p1 s1 h1=>?_⟩
   have gc:dN A H1 p1 (Vbedac.standing st):=(hK.same s1).wH h1 fun x hx=>(WS.bQ hx).1
   exact⟨_,rfl,c,_,_,_,_,rfl,s1 _ _ hc,T.az,T.bo,rfl,ln,_,_,_,rfl,rfl,aE.of (s1 _ _ hn),a_ (j:=0) rfl,st.n,m,p1,_,rfl,gc,Ru,ej,by omega,by omega,by omega,hm,(k1 _ rfl).after s1⟩
  ·refine⟨_,rfl,c,_,dc,_,_,rfl,hc,T.az,T.au,rfl,rfl,_,rfl,aB (by decide +kernel) ?_⟩
   refine⟨_,rfl,c,_,dc,_,_,rfl,hc,T.az,T.au,rfl,rfl,_,rfl,bC ?_⟩
   refine⟨_,rfl,k,_,_,_,_,rfl,br,T.ba,T.cn,rfl,_,rfl,k,dx,_,rfl,br,rfl,k,d,st,ad,ks,rfl,hK,hW,fun H1 p1 s1 h1=>?_⟩
   have gc:dN A H1 p1 (Vbedac.standing st):=(hK.same s1).wH h1 fun x hx=>(WS.bQ hx).1
   exact⟨_,rfl,c,_,_,_,_,rfl,s1 _ _ hc,T.az,T.bo,rfl,ln,_,_,_,rfl,rfl,aE.of (s1 _ _ hn),a_ (j:=0) rfl,st.n,m,p1,_,rfl,gc,Ru,ej,by omega,by omega,by omega,hm,(k1 _ rfl).after s1⟩
  ·refine⟨_,rfl,c,_,dc,_,_,rfl,hc,T.az,T.au,rfl,rfl,_,rfl,aB (by decide +kernel) ?_⟩
   refine⟨_,rfl,c,_,dc,_,_,rfl,hc,T.az,T.au,rfl,rfl,_,rfl,aB (by decide +kernel) ?_⟩
   refine⟨_,rfl,c,_,dc,_,_,rfl,hc,T.az,T.au,rfl,rfl,_,rfl,bC ?_⟩
   refine⟨_,rfl,k,_,_,_,_,rfl,br,T.ba,T.cn,rfl,_,rfl,k,dx,_,rfl,br,rfl,k,d,st,ad,ks,rfl,hK,hW,fun H1 p1 s1 h1=>?_⟩
   have gc:dN A H1 p1 (Vbedac.standing st):=(hK.same s1).wH h1 fun x hx=>(WS.bQ hx).1
   exact⟨st.n,p1,_,rfl,gc,ej,by omega,by omega,by omega,(k1 _ rfl).after s1⟩
  ·refine⟨_,rfl,c,_,dc,_,_,rfl,hc,T.az,T.au,rfl,rfl,_,rfl,aB (by decide +kernel) ?_⟩
   refine⟨_,rfl,c,_,dc,_,_,rfl,hc,T.az,T.au,rfl,rfl,_,rfl,aB (by decide +kernel) ?_⟩
   refine⟨_,rfl,c,_,dc,_,_,rfl,hc,T.az,T.au,rfl,rfl,_,rfl,aB (by decide +kernel) ?_⟩
   refine⟨_,rfl,c,_,dc,_,_,rfl,hc,T.az,T.au,rfl,rfl,_,rfl,bC ?_⟩
   refine⟨_,rfl,k,_,_,_,_,rfl,br,T.ba,T.cn,rfl,_,rfl,k,dx,_,rfl,br,rfl,_,rfl,c,_,_,_,_,rfl,hc,T.az,T.bo,rfl,ln,_,_,_,rfl,rfl,aE.of hn,a_ (j:=0) rfl,k,d,st,ad,ks,v,rfl,hK,hW,fun H1 p1 s1 KW h1=>?_⟩
   have oN:∀x,x∈e6 v st.said->x∈st.said:=fun x hx=>(mem_filter.mp hx).1
   have gc:dN A H1 p1 (e6 v st.said):=(hK.same s1).wH h1 oN
   have K5:=length_filter_le (fun x:Said=>x.who==v) st.said
   have OR:=hW.xx
   exact⟨st.n,p1,_,rfl,gc,fun x hx=>hW.ab x (oN x hx),by omega,by omega,(by unfold e6;omega),(k1 _ rfl).after s1⟩
  ·refine⟨_,rfl,c,_,dc,_,_,rfl,hc,T.az,T.au,rfl,rfl,_,rfl,aB n1 ?_⟩
   refine⟨_,rfl,c,_,dc,_,_,rfl,hc,T.az,T.au,rfl,rfl,_,rfl,aB n2 ?_⟩
   refine⟨_,rfl,c,_,dc,_,_,rfl,hc,T.az,T.au,rfl,rfl,_,rfl,aB n3 ?_⟩
   refine⟨_,rfl,c,_,dc,_,_,rfl,hc,T.az,T.au,rfl,rfl,_,rfl,aB n4 ?_⟩
   exact k0 rfl
def ml (s:State) (name:Str) (ns row:List Int) (r:Option (List Int)):Prop:=
 (name="walk"/\∃a:Nat,ns=[(a:Int)]/\r=some (sk (Vbedac.edges s) a row))\/
 (name="told"/\r=some (Vbedac.nat s.n::Vbedac.nat s.said.length::s.said.flatMap Vbedac.shownSaid))\/
 ((name ≠ "walk"/\name ≠ "told")/\r=none)
def Dp (A:aW):Sp:=fun vs H Q _=>∃(k d c:Addr) (s:State) (ad:Nat->Addr) (ks:List Said) (name:Str) (kinds:List Str) (ns row:List Int) (r:Option (List Int)),vs=[.ref k,.ref c]/\bR A H k d s ad ks/\WS.Well s/\CallAt A H c name kinds ns row/\row.length<=100000/\ml s name ns row r/\
 (∀l,r=some l->Told H Q l)/\(r=none->Q .bE H)
theorem Dq:aJ ["kept","call"] ["kept","call"] (ay qw):=by refine⟨rfl,rfl,rfl,?_,rfl,?_,?_⟩ <;> decide +kernel
theorem Dr (T:Txt K mg A):aY P w K mg base bF 4 A.iL A.g_ ["kept","call"] (Dp A):=by
 refine T.d8.ok Dq (fun vs H Q E h=>?_) (fun bg Ar outer s H vs Q E hr h=>?_)
 ·obtain⟨k,d,c,s,ad,ks,name,kinds,ns,row,r,rfl,_⟩:=h
  rfl
 ·obtain⟨k,d,c,st,ad,ks,name,kinds,ns,row,r,rfl,hK,hW,hC,m6,hQ,k1,k0⟩:=h
  obtain⟨dx,br⟩:=hK.ob
  obtain⟨dc,lk,ln,lr,hc,_,hn,aT⟩:=id hC
  have J0:=o5 hW
  have Ic:=De hW
  have OR:=hW.xx
  refine⟨_,(ae (aP (aO bZ (aD (pv 1) rfl) cF (aU _)) (ao (ax (aA (R3 T) (hr.mono (by decide:2<=3)) rfl T.NL T.qG.kp T.NK .nil aF (aa (aA (gQ T) (hr.mono (by decide:3<=3)) rfl T.gq T.cg.kp T.gp .nil aF (aa (gi (pv 0) T.ba T.bP (eD T) (hr.mono (by decide:2<=3)) T.dC .nil aF) ag)) (aa (bf aN (aD (pv 1) rfl) aH (fun _ _=>rfl)) (aa (aD (pv 1) rfl) ag)))))) aI)
   (ae (aP (aO bZ (aD (pv 1) rfl) cF (aU _)) (ao (ax (aA (Jb T) (hr.mono (by decide:3<=3)) rfl T.Cu T.il.kp T.Ct .nil aF (aa (aD (pv 0) rfl) (aa (gi (pv 0) T.ba T.fP (pF T) (hr.mono (by decide:1<=3)) T.m_ .nil aF) ag))))) aI)
   (ao (ax iu)))),?_⟩
  rcases hQ with ⟨rfl,a,rfl,rfl⟩|⟨rfl,rfl⟩|⟨⟨n1,n2⟩,rfl⟩
  ·refine⟨_,rfl,c,_,dc,_,_,rfl,hc,T.az,T.au,rfl,rfl,_,rfl,bC ?_⟩
   refine⟨_,rfl,k,dx,_,rfl,br,rfl,k,d,st,ad,ks,rfl,hK,hW,fun H1 p1 s1 h1=>?_⟩
   have gc:dN A H1 p1 (Vbedac.standing st):=(hK.same s1).wH h1 fun x hx=>(WS.bQ hx).1
   refine⟨p1,_,rfl,gc,by omega,fun H2 p2 s2 ke=>?_⟩
   have fi:=s1.trans s2
   have fZ:=fi _ _ hc
   exact⟨_,rfl,c,_,_,_,_,rfl,fZ,T.az,T.bo,rfl,ln,_,_,_,rfl,rfl,aE.of (fi _ _ hn),a_ (j:=0) rfl,_,rfl,c,_,_,_,_,rfl,fZ,T.az,T.kG,rfl,p2,lr,a,Vbedac.edges st,row,rfl,ke,fi _ _ aT,m6,by omega,WS.JG (WS.m5 hW),(k1 _ rfl).after fi⟩
  ·refine⟨_,rfl,c,_,dc,_,_,rfl,hc,T.az,T.au,rfl,rfl,_,rfl,aB (by decide +kernel) ?_⟩
   refine⟨_,rfl,c,_,dc,_,_,rfl,hc,T.az,T.au,rfl,rfl,_,rfl,bC ?_⟩
   refine⟨_,rfl,k,_,_,_,_,rfl,br,T.ba,T.cn,rfl,_,rfl,k,dx,_,rfl,br,rfl,k,d,st,ad,ks,rfl,hK,hW,fun H1 p1 s1 KW h1=>?_⟩
   exact⟨st.n,p1,st.said,rfl,(hK.same s1).wH h1 fun x hx=>hx,by omega,(k1 _ rfl).after s1⟩
  ·refine⟨_,rfl,c,_,dc,_,_,rfl,hc,T.az,T.au,rfl,rfl,_,rfl,aB n1 ?_⟩
   refine⟨_,rfl,c,_,dc,_,_,rfl,hc,T.az,T.au,rfl,rfl,_,rfl,aB n2 ?_⟩
   exact k0 rfl
def u9 (src:Addr) (pos:Nat):List (Str×V):=[("source",.ref src),("at",.int pos)]
def h8 (A:aW) (H:Hp) (r src:Addr) (pos:Nat):Prop:=∃dx,H r=some (.ins A.b_ dx (u9 src pos))
theorem aE.but {K:W.Frag} {H H':Hp} {r a C dx:Addr} {fs:List (Str×V)} {xs:List V} (b:bA r H H') (hr:H r=some (.ins C dx fs)) (h:aE K H a xs):aE K H' a xs:=by
 rcases h with (h | ⟨o,h⟩) | h
 ·exact .inl (.inl (b _ _ h (dh h hr (by intro z;cases z))))
 ·exact .inl (.inr ⟨o,b _ _ h (dh h hr (by intro z;cases z))⟩)
 ·exact .inr h
def Jd (A:aW):Sp:=fun vs H Q _=>∃(p dx:Addr) (name:Str),vs=[.ref p,.str name]/\H p=some (.ins A.d6 dx [])/\
 ∀(H':Hp) (lk ln lr:Addr),H' p=some (.ins A.d6 dx (wG name lk ln lr))->H' lk=some (.lst [])->H' ln=some (.lst [])->H' lr=some (.lst [])->lk≠ln->lk≠lr->ln≠lr->H lk=none->H ln=none->H lr=none->bA p H H'->Q .bE H'
theorem Je:aJ ["self","name"] ["self","name"] (ay wZ):=by refine⟨rfl,rfl,rfl,?_,rfl,?_,?_⟩ <;> decide +kernel
theorem Jf (T:Txt K mg A):aY P w K mg base bF 1 A.kR A.ly ["self","name"] (Jd A):=by
 refine T.mO.ok Je (fun vs H Q E h=>?_) (fun bg Ar outer s H vs Q E hr h=>?_)
 ·obtain⟨p,dx,name,rfl,_⟩:=h
  rfl
 ·obtain⟨p,dx,name,rfl,hp,k⟩:=h
  refine⟨_,(ae (c5 (pv 0) (pv 1) rfl)
   (ae (c5 (pv 0) (aR ag) rfl)
   (ae (c5 (pv 0) (aR ag) rfl)
   (ao (c5 (pv 0) (aR ag) rfl))))),?_⟩
  refine⟨_,rfl,_,rfl,p,_,dx,_,rfl,hp,T.az,T.au,(by show 0<1000;decide),?_⟩
  refine⟨zl0,fun lk UZ=>?_⟩
  have Gu:p≠lk:=aK ah UZ
  refine⟨_,rfl,p,_,dx,_,rfl,(by rw[aw Gu];exact ah),T.az,T.js,(by show 1<1000;decide),?_⟩
  refine⟨zl0,fun ln DJ=>?_⟩
  have K7:p≠ln:=aK ah DJ
  have Jg:lk≠ln:=aK (by rw[aw fun z=>Gu z.symm];exact ah) DJ
  refine⟨_,rfl,p,_,dx,_,rfl,(by rw[aw K7];exact ah),T.az,T.bo,(by show 2<1000;decide),?_⟩
  refine⟨zl0,fun lr Gs=>?_⟩
  have Oi:p≠lr:=aK ah Gs
  have Oj:ln≠lr:=aK (by rw[aw fun z=>K7 z.symm];exact ah) Gs
  have Ol:lk≠lr:=aK (by rw[aw fun z=>Gu z.symm,aw Jg,aw fun z=>Gu z.symm];exact ah) Gs
  refine⟨_,rfl,p,_,dx,_,rfl,(by rw[aw Oi];exact ah),T.az,T.kG,(by show 3<1000;decide),?_⟩
  have fk:H lk=none:=by rw[aw fun z=>Gu z.symm] at UZ;exact UZ
  have fn:H ln=none:=by rw[aw fun z=>K7 z.symm,aw fun z=>Jg z.symm,aw fun z=>K7 z.symm] at DJ;exact DJ
  have fr:H lr=none:=by rw[aw fun z=>Oi z.symm,aw fun z=>Oj z.symm,aw fun z=>Oi z.symm,aw fun z=>Ol z.symm,aw fun z=>Oi z.symm] at Gs;exact Gs
  refine k _ lk ln lr ?_ ?_ ?_ ?_ Jg Ol Oj fk fn fr fun b o h n=>?_
  ·rw[ah];rfl
  ·rw[aw fun z=>Gu z.symm,aw Ol,aw fun z=>Gu z.symm,aw Jg,aw fun z=>Gu z.symm];exact ah
  ·rw[aw fun z=>K7 z.symm,aw Oj,aw fun z=>K7 z.symm];exact ah
  ·rw[aw fun z=>Oi z.symm];exact ah
  ·have h1:b≠lk:=aK h fk
   have h2:b≠ln:=aK h fn
   have h3:b≠lr:=aK h fr
   rw[aw n,aw h3,aw n,aw h2,aw n,aw h1,aw n]
   exact h
def Fs (A:aW):Sp:=fun vs H Q _=>∃(p dx src:Addr),vs=[.ref p,.ref src]/\H p=some (.ins A.b_ dx [])/\∀H':Hp,h8 A H' p src 0->bA p H H'->Q .bE H'
theorem Ft:aJ ["self","source"] ["self","source"] (ay tM):=by refine⟨rfl,rfl,rfl,?_,rfl,?_,?_⟩ <;> decide +kernel
theorem Fu (T:Txt K mg A):aY P w K mg base bF 1 A.iS A.jh ["self","source"] (Fs A):=by
 refine T.j7.ok Ft (fun vs H Q E h=>?_) (fun bg Ar outer s H vs Q E hr h=>?_)
 ·obtain⟨p,dx,src,rfl,_⟩:=h
  rfl
 ·obtain⟨p,dx,src,rfl,hp,k⟩:=h
  refine⟨_,(ae (c5 (pv 0) (pv 1) rfl)
   (ao (c5 (pv 0) aH rfl))),?_⟩
  refine⟨_,rfl,_,rfl,p,_,dx,_,rfl,hp,T.cu,T.fh,(by show 0<1000;decide),?_⟩
  refine⟨_,rfl,p,_,dx,_,rfl,ah,T.cu,T.eK,(by show 1<1000;decide),?_⟩
  exact k _ ⟨dx,by rw[ah];rfl⟩ fun b o h n=>by rw[aw n,aw n];exact h
def Bd (K:W.Frag) (A:aW):Sp:=fun vs H Q _=>∃(r src:Addr) (pos:Nat) (ns:List Int),vs=[.ref r]/\h8 A H r src pos/\aE K H src (ns.map V.int)/\Q (.bl (decide (pos<ns.length))) H
theorem Be:aJ ["self"] ["self"] (ay oS):=by refine⟨rfl,rfl,rfl,?_,rfl,?_,?_⟩ <;> decide +kernel
theorem Bf (T:Txt K mg A):aY P w K mg base bF 1 A.fb A.fX ["self"] (Bd K A):=by
 refine T.gN.ok Be (fun vs H Q E h=>?_) (fun bg Ar outer s H vs Q E hr h=>?_)
 ·obtain⟨r,src,pos,ns,rfl,_⟩:=h
  rfl
 ·obtain⟨r,src,pos,ns,rfl,⟨dx,hR⟩,hS,k⟩:=h
  refine⟨_,(ao (ax (rH uu (aD (pv 0) rfl) (bX bx (by rfl) T.d9 PySem.boot_len (aa (aD (pv 0) rfl) ag)) (aU _)))),?_⟩
  refine⟨_,rfl,r,_,_,_,_,rfl,hR,T.cu,T.eK,rfl,_,rfl,r,_,_,_,_,rfl,hR,T.cu,T.fh,rfl,src,_,rfl,.inl hS,_,_,rfl,rfl,?_⟩
  rw[length_map]
  have e:decide ((pos:Int)<(ns.length:Nat))=decide (pos<ns.length):=by
   rw[Bool.eq_iff_iff];simp
  show Q (.bl (decide ((pos:Int)<(ns.length:Nat)))) H
  rw[e]
  exact k
def yf (K:W.Frag) (A:aW):Sp:=fun vs H Q _=>∃(r src:Addr) (pos:Nat) (ns:List Int) (x:Int),vs=[.ref r]/\h8 A H r src pos/\aE K H src (ns.map V.int)/\ns[pos]?=some x/\
 ∀H':Hp,h8 A H' r src (pos+1)->bA r H H'->Q (.int x) H'
theorem qa:aJ ["self","number"] ["self"] (ay l7):=by refine⟨rfl,rfl,rfl,?_,rfl,?_,?_⟩ <;> decide +kernel
theorem lI (T:Txt K mg A):aY P w K mg base bF 1 A.dB A.eB ["self"] (yf K A):=by
 refine T.eZ.ok qa (fun vs H Q E h=>?_) (fun bg Ar outer s H vs Q E hr h=>?_)
 ·obtain⟨r,src,pos,ns,x,rfl,_⟩:=h
  rfl
 ·obtain⟨r,src,pos,ns,x,rfl,⟨dx,hR⟩,hS,hx,k⟩:=h
  refine⟨_,(ae (aG (i:=1) qa.nd rfl (Or.inl rfl) (bf aN (aD (pv 0) rfl) (aD (pv 0) rfl) (fun _ _=>rfl)))
   (ae (c5 (pv 0) (dM nh (aD (pv 0) rfl) aH) rfl)
   (ao (ax (pv 1))))),?_⟩
  refine⟨_,rfl,r,_,_,_,_,rfl,hR,T.cu,T.fh,rfl,_,rfl,r,_,_,_,_,rfl,hR,T.cu,T.eK,rfl,src,_,_,_,rfl,rfl,hS,a_ (j:=pos) (v:=.int x) (by rw[getElem?_map,hx];rfl),?_⟩
  refine⟨_,rfl,r,_,_,_,_,rfl,hR,T.cu,T.eK,rfl,_,_,rfl,rfl,_,rfl,r,_,dx,_,rfl,hR,T.cu,T.eK,(by show 2<1000;decide),?_⟩
  exact⟨_,rfl,k _ ⟨dx,by rw[ah];rfl⟩ bA.upd⟩
def Bg (K:W.Frag) (A:aW):Sp:=fun vs H Q _=>∃(r src:Addr) (pos:Nat) (ns row:List Int),vs=[.ref r]/\h8 A H r src pos/\aE K H src (ns.map V.int)/\ns[pos]?=some (row.length:Int)/\row=(ns.drop (pos+1)).take row.length/\
 ∀(H':Hp) (p:Addr),h8 A H' r src (pos+1+row.length)->H p=none->cH H' p row->bA r H H'->Q (.ref p) H'
theorem R4 {ns row:List Int} {a:Nat} (h:row=(ns.drop a).take row.length):tG (ns.map V.int) (some (a:Int)) (some ((a:Int)+(row.length:Int)))=row.map V.int:=by
 have hl:a+row.length<=ns.length\/row.length=0:=by
  have:=congrArg List.length h
  rw[length_take,List.length_drop] at this
  omega
 unfold tG
 have e:(a:Int)+(row.length:Int)=((a+row.length:Nat):Int):=by omega
 rw[e,HT.Br,HT.Br,length_map]
 rcases hl with hl | hl
 ·rw[Nat.min_eq_left hl,Nat.min_eq_left (show a<=ns.length by omega),Nat.add_sub_cancel_left,<- List.map_drop,<- List.map_take]
  rw[<- h]
 ·rw[hl,Nat.add_zero,Nat.sub_self,List.take_zero]
  have:row=[]:=length_eq_zero_iff.mp hl
  rw[this];rfl
theorem nR:aJ ["self","length","first"] ["self"] (ay oT):=by refine⟨rfl,rfl,rfl,?_,rfl,?_,?_⟩ <;> decide +kernel
theorem Bh (T:Txt K mg A):aY P w K mg base bF 2 A.fe A.fY ["self"] (Bg K A):=by
 refine T.gO.ok nR (fun vs H Q E h=>?_) (fun bg Ar outer s H vs Q E hr h=>?_)
 ·obtain⟨r,src,pos,ns,row,rfl,_⟩:=h
  rfl
 ·obtain⟨r,src,pos,ns,row,rfl,Om,hS,hx,aT,k⟩:=h
  obtain⟨dx,hR⟩:=id Om
  refine⟨_,(ae (aG (i:=1) nR.nd rfl (Or.inl rfl) (gi (pv 0) T.cu T.dg (lI T) (hr.mono (by decide:1<=1)) T.i0 .nil aF))
   (ae (aG (i:=2) nR.nd rfl (Or.inl rfl) (aD (pv 0) rfl))
   (ae (c5 (pv 0) (dM nh (pv 2) (pv 1)) rfl)
   (ao (ax (CM J6 (aD (pv 0) rfl) (Bs (pv 2)) (Bs (aD (pv 0) rfl)))))))),?_⟩
  refine⟨_,rfl,r,dx,_,rfl,hR,rfl,r,src,pos,ns,_,rfl,Om,hS,hx,fun H1 AW b1=>?_⟩
  obtain⟨Jh,rG⟩:=AW
  refine⟨_,rfl,r,_,_,_,_,rfl,rG,T.cu,T.eK,rfl,?_⟩
  refine⟨_,rfl,_,rfl,_,_,rfl,rfl,_,rfl,r,_,Jh,_,rfl,rG,T.cu,T.eK,(by show 2<1000;decide),?_⟩
  have e:((pos+1:Nat):Int)+(row.length:Int)=((pos+1+row.length:Nat):Int):=by omega
  have sT:upd H1 r (.ins A.b_ Jh (kM "at" (.int (((pos+1:Nat):Int)+(row.length:Int))) (u9 src (pos+1)))) r=some (.ins A.b_ Jh (u9 src (pos+1+row.length))):=by
   rw[ah,e];rfl
  have b2:bA r H (upd H1 r (.ins A.b_ Jh (kM "at" (.int (((pos+1:Nat):Int)+(row.length:Int))) (u9 src (pos+1))))):=b1.trans bA.upd
  have Ak:aE K (upd H1 r (.ins A.b_ Jh (kM "at" (.int (((pos+1:Nat):Int)+(row.length:Int))) (u9 src (pos+1))))) src (ns.map V.int):=aE.but b2 hR hS
  generalize upd H1 r (.ins A.b_ Jh (kM "at" (.int (((pos+1:Nat):Int)+(row.length:Int))) (u9 src (pos+1))))=H2 at sT b2 Ak
  refine⟨_,rfl,r,_,_,_,_,rfl,sT,T.cu,T.fh,rfl,_,rfl,_,rfl,_,rfl,r,_,_,_,_,rfl,sT,T.cu,T.eK,rfl,_,rfl,src,_,rfl,Ak,fun q hq=>?_⟩
  rw[show ((pos+1+row.length:Nat):Int)=((pos+1:Nat):Int)+(row.length:Int) by omega,R4 aT]
  have IM:r≠q:=aK sT hq
  refine k _ q ⟨Jh,by rw[aw IM];exact sT⟩ ?_ ah fun b o h n=>?_
  ·cases c:H q with
   | none=>rfl
   | some o=>rw[b2 _ _ c fun z=>IM z.symm] at hq;cases hq
  ·rw[aw (aK (b2 _ _ h n) hq)]
   exact b2 _ _ h n
def kY:List (Str×List Str×Bool):=[("begin",["events"],false),("say",["key","witness","event","event","span","span"],false),("take",["key"],false),("give",["key"],false),("drop",["witness"],false),("trust",["witness"],false),("fit",[],false),("ring",[],false),("bounds",["event","event"],false),("early",["event"],false),("late",["event"],false),("tried",[],true),("shown",["event"],false),("why",["event","event"],false),("needless",["key"],false),("if_of",["event","event","span","span"],false),("slack",["key"],false),("pinned",[],false),("order",["event","event"],false),("doubt",["doubted"],false),("who",["doubted"],false),("peel",[],false),("web",[],false),("walk",["event"],true),("told",[],false),("alone",["witness"],false)]
def yg (p:Int) (name:Str) (ks:List Str) (hr:Bool):Prop:=∃i:Nat,p=i/\kY[i]?=some (name,ks,hr)
def mw (ks:List Str) (hr:Bool):List Str:=ks++(if hr=true then (["row"]:List Str) else [])
theorem Qe {p:Int} {name:Str} {ks:List Str} {hr:Bool} (h:yg p name ks hr):∀k,k∈ks->k ≠ "row":=by
 obtain⟨i,_,h⟩:=h
 have:∀f,f∈kY->f.2.1.all (fun k=>k != "row")=true:=by decide +kernel
 have h1:=this _ (mem_of_getElem? h)
 intro k hk e
 have:=all_eq_true.mp h1 k hk
 rw[e] at this
 exact absurd this (by decide +kernel)
theorem K8 {p:Int} {n k:Nat} (h:PyVbedac.shape p=some (n,k)):∃name ks hr,yg p name ks hr/\ks.length=n/\hr=decide (k=1):=by
 rcases WS.F6 h with ⟨rfl,rfl,rfl⟩|⟨rfl,rfl,rfl⟩|⟨rfl,rfl,rfl⟩|⟨rfl,rfl,rfl⟩|⟨rfl,rfl,rfl⟩|⟨rfl,rfl,rfl⟩|⟨rfl,rfl,rfl⟩|⟨rfl,rfl,rfl⟩|⟨rfl,rfl,rfl⟩|⟨rfl,rfl,rfl⟩|⟨rfl,rfl,rfl⟩|⟨rfl,rfl,rfl⟩|⟨rfl,rfl,rfl⟩|⟨rfl,rfl,rfl⟩|⟨rfl,rfl,rfl⟩|⟨rfl,rfl,rfl⟩|⟨rfl,rfl,rfl⟩|⟨rfl,rfl,rfl⟩|⟨rfl,rfl,rfl⟩|⟨rfl,rfl,rfl⟩|⟨rfl,rfl,rfl⟩|⟨rfl,rfl,rfl⟩|⟨rfl,rfl,rfl⟩|⟨rfl,rfl,rfl⟩|⟨rfl,rfl,rfl⟩|⟨rfl,rfl,rfl⟩
 ·exact⟨"begin",["events"],false,⟨0,rfl,rfl⟩,rfl,rfl⟩
 ·exact⟨"say",["key","witness","event","event","span","span"],false,⟨1,rfl,rfl⟩,rfl,rfl⟩
 ·exact⟨"take",["key"],false,⟨2,rfl,rfl⟩,rfl,rfl⟩
 ·exact⟨"give",["key"],false,⟨3,rfl,rfl⟩,rfl,rfl⟩
 ·exact⟨"drop",["witness"],false,⟨4,rfl,rfl⟩,rfl,rfl⟩
 ·exact⟨"trust",["witness"],false,⟨5,rfl,rfl⟩,rfl,rfl⟩
 ·exact⟨"fit",[],false,⟨6,rfl,rfl⟩,rfl,rfl⟩
 ·exact⟨"ring",[],false,⟨7,rfl,rfl⟩,rfl,rfl⟩
 ·exact⟨"bounds",["event","event"],false,⟨8,rfl,rfl⟩,rfl,rfl⟩
 ·exact⟨"early",["event"],false,⟨9,rfl,rfl⟩,rfl,rfl⟩
 ·exact⟨"late",["event"],false,⟨10,rfl,rfl⟩,rfl,rfl⟩
 ·exact⟨"tried",[],true,⟨11,rfl,rfl⟩,rfl,rfl⟩
 ·exact⟨"shown",["event"],false,⟨12,rfl,rfl⟩,rfl,rfl⟩
 ·exact⟨"why",["event","event"],false,⟨13,rfl,rfl⟩,rfl,rfl⟩
 ·exact⟨"needless",["key"],false,⟨14,rfl,rfl⟩,rfl,rfl⟩
 ·exact⟨"if_of",["event","event","span","span"],false,⟨15,rfl,rfl⟩,rfl,rfl⟩
 ·exact⟨"slack",["key"],false,⟨16,rfl,rfl⟩,rfl,rfl⟩
 ·exact⟨"pinned",[],false,⟨17,rfl,rfl⟩,rfl,rfl⟩
 ·exact⟨"order",["event","event"],false,⟨18,rfl,rfl⟩,rfl,rfl⟩
 ·exact⟨"doubt",["doubted"],false,⟨19,rfl,rfl⟩,rfl,rfl⟩
 ·exact⟨"who",["doubted"],false,⟨20,rfl,rfl⟩,rfl,rfl⟩
 ·exact⟨"peel",[],false,⟨21,rfl,rfl⟩,rfl,rfl⟩
 ·exact⟨"web",[],false,⟨22,rfl,rfl⟩,rfl,rfl⟩
 ·exact⟨"walk",["event"],true,⟨23,rfl,rfl⟩,rfl,rfl⟩
 ·exact⟨"told",[],false,⟨24,rfl,rfl⟩,rfl,rfl⟩
 ·exact⟨"alone",["witness"],false,⟨25,rfl,rfl⟩,rfl,rfl⟩
theorem R5 (T:Txt K mg A) {name:Str} {ks:List Str} {hr:Bool}:∀(i:Nat),kY[i]?=some (name,ks,hr)->∃a,dJ ([(0,V.ref A.lN),(1,V.ref A.lO),(2,V.ref A.lP),(3,V.ref A.lQ),(4,V.ref A.lR),(5,V.ref A.lS),(6,V.ref A.lT),(7,V.ref A.lU),(8,V.ref A.lV),(9,V.ref A.lW),(10,V.ref A.kh),(11,V.ref A.ki),(12,V.ref A.kj),(13,V.ref A.kl),(14,V.ref A.km),(15,V.ref A.kn),(16,V.ref A.ko),(17,V.ref A.kq),(18,V.ref A.kr),(19,V.ref A.ku),(20,V.ref A.kx),(21,V.ref A.kz),(22,V.ref A.kC),(23,V.ref A.kD),(24,V.ref A.kE),(25,V.ref A.kF)]:List (Int×V)) (i:Int)=some (.ref a)/\bO K a ((name::mw ks hr).map V.str)
 | 0,h=>by cases h;exact⟨A.lN,rfl,T.sX⟩
 | 1,h=>by cases h;exact⟨A.lO,rfl,T.sY⟩
 | 2,h=>by cases h;exact⟨A.lP,rfl,T.sZ⟩
 | 3,h=>by cases h;exact⟨A.lQ,rfl,T.s_⟩
 | 4,h=>by cases h;exact⟨A.lR,rfl,T.tf⟩
 | 5,h=>by cases h;exact⟨A.lS,rfl,T.tj⟩
 | 6,h=>by cases h;exact⟨A.lT,rfl,T.tm⟩
 | 7,h=>by cases h;exact⟨A.lU,rfl,T.tq⟩
 | 8,h=>by cases h;exact⟨A.lV,rfl,T.tu⟩
 | 9,h=>by cases h;exact⟨A.lW,rfl,T.tw⟩
 | 10,h=>by cases h;exact⟨A.kh,rfl,T.qH⟩
 | 11,h=>by cases h;exact⟨A.ki,rfl,T.qI⟩
 | 12,h=>by cases h;exact⟨A.kj,rfl,T.qJ⟩
 | 13,h=>by cases h;exact⟨A.kl,rfl,T.qK⟩
 | 14,h=>by cases h;exact⟨A.km,rfl,T.qL⟩
 | 15,h=>by cases h;exact⟨A.kn,rfl,T.qM⟩
 | 16,h=>by cases h;exact⟨A.ko,rfl,T.qN⟩
 | 17,h=>by cases h;exact⟨A.kq,rfl,T.qO⟩
 | 18,h=>by cases h;exact⟨A.kr,rfl,T.qP⟩
 | 19,h=>by cases h;exact⟨A.ku,rfl,T.qQ⟩
 | 20,h=>by cases h;exact⟨A.kx,rfl,T.qR⟩
 | 21,h=>by cases h;exact⟨A.kz,rfl,T.qS⟩
 | 22,h=>by cases h;exact⟨A.kC,rfl,T.qT⟩
 | 23,h=>by cases h;exact⟨A.kD,rfl,T.qU⟩
 | 24,h=>by cases h;exact⟨A.kE,rfl,T.qV⟩
 | 25,h=>by cases h;exact⟨A.kF,rfl,T.qW⟩
 | i+26,h=>by
  have:kY.length=26:=rfl
  have:=(List.getElem?_eq_some_iff.mp h).1
  omega
structure qb (A:aW) (H0 H:Hp) (c:Addr) (name:Str) (kinds:List Str) (ns row:List Int) (dc lk ln lr:Addr):Prop where
 ob:H c=some (.ins A.d6 dc (wG name lk ln lr))
 kk:H lk=some (.lst (kinds.map V.str))
 nn:H ln=some (.lst (ns.map V.int))
 rr:H lr=some (.lst (row.map V.int))
 fc:H0 c=none
 fk:H0 lk=none
 fn:H0 ln=none
 fr:H0 lr=none
def Ji (K:W.Frag) (A:aW):Sp:=fun vs H Q _=>∃(r src:Addr) (pos:Nat) (ns:List Int) (p:Int) (name:Str) (ks:List Str) (hr:Bool) (xs row t:List Int),vs=[.ref r]/\h8 A H r src pos/\aE K H src (ns.map V.int)/\yg p name ks hr/\xs.length=ks.length/\(hr=false->row=[])/\
 ns.drop pos=p::(xs++((if hr=true then (row.length:Int)::row else [])++t))/\
 ∀(H':Hp) (c dc lk ln lr:Addr),qb A H H' c name ks xs row dc lk ln lr->h8 A H' r src (pos+1+xs.length+(if hr=true then 1+row.length else 0))->bA r H H'->Q (.ref c) H'
theorem Jj {p:Int} {name:Str} {ks:List Str} {hr:Bool} (h:yg p name ks hr):ks.length<=6:=by
 obtain⟨i,_,h⟩:=h
 have:∀f,f∈kY->f.2.1.length<=6:=by decide +kernel
 exact this _ (mem_of_getElem? h)
theorem Ds {ns:List Int} {pos j:Nat} {x:Int} (h:(ns.drop pos)[j]?=some x):ns[pos+j]?=some x:=by
 rw[List.getElem?_drop] at h;exact h
theorem Qg (xs:List V) (x:V):tG (x::xs) (some 1) none=xs:=by
 unfold tG
 have e:(1:Int)=((1:Nat):Int):=rfl
 rw[e,HT.Br,HT.OP,length_cons,Nat.min_eq_left (by omega)]
 show (xs.drop 0).take (xs.length+1-1)=xs
 rw[List.drop_zero,Nat.add_sub_cancel,take_length]
theorem Fv {r b:Addr} {H H':Hp} {o:HO} (h:bA r H H') (n:H b=none):bA r H (upd H' b o):=fun c u hc hn=>by
 rw[aw (aK hc n)]
 exact h c u hc hn
theorem rl:aJ ["reader","form","call","kind"] ["reader"] (ay w4):=by refine⟨rfl,rfl,rfl,?_,rfl,?_,?_⟩ <;> decide +kernel
theorem Jk (T:Txt K mg A):aY P w K mg base bF 3 A.mK A.lz ["reader"] (Ji K A):=by
 refine T.ik.ok rl (fun vs H Q E h=>?_) (fun bg Ar outer s H vs Q E hr h=>?_)
 ·obtain⟨r,src,pos,ns,p,name,ks,uo,xs,row,t,rfl,_⟩:=h
  rfl
 ·obtain⟨r,src,pos,ns,p,name,ks,uo,xs,row,t,rfl,Om,hS,hF,aX,hrow0,EL,k⟩:=h
  obtain⟨dx,hR⟩:=id Om
  have hnrow:=Qe hF
  have I0:=Jj hF
  obtain⟨i,rfl,K0⟩:=hF
  obtain⟨fa,hfa,hMT⟩:=R5 T i K0
  have KW:ns[pos]?=some (i:Int):=by
   have:=Ds (ns:=ns) (pos:=pos) (j:=0) (x:=i) (by rw[EL];rfl)
   exact this
  have hxj:∀j x,xs[j]?=some x->ns[pos+1+j]?=some x:=by
   intro j x hj
   have Al:=(List.getElem?_eq_some_iff.mp hj).1
   have:=Ds (ns:=ns) (pos:=pos) (j:=j+1) (x:=x) (by
    rw[EL,List.getElem?_cons_succ,List.getElem?_append_left Al];exact hj)
   rw[show pos+1+j=pos+(j+1) by omega];exact this
  refine⟨_,(ae (aG (i:=1) rl.nd rfl (Or.inl rfl) (Pf T.xU (bU (v:=.ref A.r_) rfl T.u4 rfl) (gi (pv 0) T.cu T.dg (lI T) (hr.mono (by decide:1<=2)) T.i0 .nil aF) (fun _ _=>rfl)))
   (ae (aG (i:=2) rl.nd rfl (Or.inl rfl) (rJ T.xN (Jf T) (hr.mono (by decide:2<=2)) rfl T.NC T.Cq .nil aF (aa (bf SE (pv 1) aH (fun _ _=>rfl)) ag)))
   (ae (cq PassesOwn.never rfl (Sl (CM SA (pv 1) (Bs aH) J3)) (a6 (i:=3) rl.nd rfl (Or.inl rfl))
    (ao (aP (aO bZ (pv 3) cF (aU _)) (ao (c5 (pv 2) (gi (pv 0) T.cu T.iD (Bh T) (hr.mono (by decide:2<=2)) T.ue .nil aF) rfl)) (ae (cv (fG PySem.F.plainAttrs_list PySem.F.slot_list_append PySem.F.type_list_append dn (aD (pv 2) rfl) (aa (pv 3) ag)))
   (ao (cv (fG PySem.F.plainAttrs_list PySem.F.slot_list_append PySem.F.type_list_append dn (aD (pv 2) rfl) (aa (gi (pv 0) T.cu T.dg (lI T) (hr.mono (by decide:1<=2)) T.i0 .nil aF) ag))))))))
   (ao (ax (pv 2)))))),?_⟩
  refine⟨_,rfl,r,dx,_,rfl,hR,rfl,r,src,pos,ns,_,rfl,Om,hS,KW,fun H1 AW b1=>⟨_,_,rfl,rfl,hfa,?_⟩⟩
  refine⟨_,rfl,fa,_,_,_,rfl,rfl,hMT.sq _,a_ (j:=0) rfl,?_⟩
  intro c0 dc n1 m1 e1
  refine⟨c0,dc,name,rfl,ah,fun H2 lk ln lr fZ QP B8 sT Jg Ol Oj fk fn fr b2=>⟨rfl,?_⟩⟩
  have s2:aq H1 H2:=aq.made n1 m1 b2
  have hRr1:H1 r≠none:=by obtain⟨_,h⟩:=AW;rw[h];intro z;cases z
  have Rv:∀x,H1 x=none->H x=none:=by
   intro x hx
   cases q:H x with
   | none=>rfl
   | some o=>
    by_cases e:x=r
    ·rw[e] at hx;exact absurd hx hRr1
    ·rw[b1 _ _ q e] at hx;cases hx
  have Jl:H c0=none:=Rv _ n1
  have L5:∀y,upd (upd H1 dc (.own c0)) c0 (.ins A.d6 dc []) y=none->H y=none:=by
   intro y hy
   refine Rv y ?_
   cases q:H1 y with
   | none=>rfl
   | some o=>
    rw[aw (aK q n1),aw (aK q m1),q] at hy
    cases hy
  have K9:=L5 _ fk
  have K_:=L5 _ fn
  have fr0:=L5 _ fr
  have Gv:∀y,H y=none->y≠r:=by
   intro y hy z
   rw[z,hR] at hy
   cases hy
  have b02:bA r H H2:=fun b o h n=>s2 _ _ (b1 _ _ h n)
  have KQ:h8 A H2 r src (pos+1):=by
   obtain⟨d1,h1⟩:=AW
   exact⟨d1,s2 _ _ h1⟩
  refine⟨_,rfl,_,rfl,fa,_,rfl,hMT.sq _,?_,fun q hq=>?_⟩
  ·intro z
   have e:(1:Int)=((1:Nat):Int):=rfl
   have:=z.1
   rw[e,HT.Br,length_map,length_cons] at this
   omega
  rw[show ((name::mw ks uo).map V.str)=V.str name::(mw ks uo).map V.str from rfl,Qg]
  have s3:aq H2 (upd H2 q (.tup ((mw ks uo).map V.str))):=aq.new hq
  have hlen:(mw ks uo).length=ks.length+(if uo=true then 1 else 0):=by
   unfold mw
   rw[length_append]
   cases uo <;> rfl
  refine⟨q,rfl,⟨_,mY.of ah⟩,Rz (K:=K) (a:=q) (xs:=(mw ks uo).map V.str) (fun j σ H'=>∃(v3:Option V) (vW:Addr) (Bi:List Int) (pos':Nat),σ=[some (.ref r),some (.ref fa),some (.ref c0),v3]/\bA r H H'/\H' q=some (.tup ((mw ks uo).map V.str))/\qb A H H' c0 name (ks.take j) (xs.take j) Bi dc lk ln vW/\h8 A H' r src pos'/\
    ((j<=ks.length/\Bi=[]/\vW=lr/\pos'=pos+1+j)\/(j=ks.length+1/\uo=true/\Bi=row/\pos'=pos+1+xs.length+(1+row.length))))
   ⟨none,lr,[],pos+1,rfl,fun b o h n=>s3 _ _ (b02 _ _ h n),ah,⟨s3 _ _ fZ,s3 _ _ QP,s3 _ _ B8,s3 _ _ sT,Jl,K9,K_,fr0⟩,?_,.inl ⟨Nat.zero_le _,rfl,rfl,rfl⟩⟩ (fun j σ H' _ ⟨_,_,_,_,_,_,h,_⟩=>mY.of h) ?_ ?_⟩
  ·obtain⟨d2,h2⟩:=KQ
   exact⟨d2,s3 _ _ h2⟩
  ·rintro j y σ H' hj ⟨v3,vW,Bi,pos',rfl,b',rn,hC,II,y8⟩
   obtain⟨kd,wD,rfl⟩:=get_map hj
   have Al:j<(mw ks uo).length:=(List.getElem?_eq_some_iff.mp wD).1
   obtain⟨dr,Oo⟩:=id II
   have mq:aE K H' src (ns.map V.int):=aE.but b' hR hS
   rcases y8 with ⟨hjk,rfl,rfl,rfl⟩|⟨hjk,hh,_,_⟩
   ·by_cases cj:j<ks.length
    ·have QY:ks[j]?=some kd:=by
      unfold mw at wD
      rw[List.getElem?_append_left cj] at wD
      exact wD
     obtain⟨x,hx⟩:∃x,xs[j]?=some x:=⟨_,getElem?_eq_getElem (by omega)⟩
     refine⟨_,rfl,rfl,_,rfl,aB (hnrow kd (mem_of_getElem? QY)) ?_⟩
     have ob:=hC.ob
     refine⟨_,rfl,c0,_,_,_,_,rfl,ob,T.az,T.js,rfl,.inl ⟨rfl,_,aE.of hC.kk⟩,_,rfl,lk,_,_,rfl,rfl,hC.kk,(by rw[length_map,length_take,sizeLine_eq];have:=I0;omega),?_⟩
     have nck:c0≠lk:=dh hC.ob hC.kk (by intro z;cases z)
     have ncn:c0≠ln:=dh hC.ob hC.nn (by intro z;cases z)
     have b3:bA r H (upd H' lk (.lst ((ks.take j).map V.str++[V.str kd]))):=Fv b' K9
     have Jm:upd H' lk (.lst ((ks.take j).map V.str++[V.str kd])) c0=some (.ins A.d6 dc (wG name lk ln vW)):=by rw[aw nck];exact ob
     have HW:upd H' lk (.lst ((ks.take j).map V.str++[V.str kd])) lk=some (.lst ((ks.take (j+1)).map V.str)):=by rw[ah,take_snoc QY,map_append];rfl
     have nQ:upd H' lk (.lst ((ks.take j).map V.str++[V.str kd])) ln=some (.lst ((xs.take j).map V.int)):=by rw[aw fun z=>Jg z.symm];exact hC.nn
     have hr3:upd H' lk (.lst ((ks.take j).map V.str++[V.str kd])) vW=some (.lst (([]:List Int).map V.int)):=by rw[aw fun z=>Ol z.symm];exact hC.rr
     have oJ:h8 A (upd H' lk (.lst ((ks.take j).map V.str++[V.str kd]))) r src (pos+1+j):=⟨dr,by rw[aw (dh Oo hC.kk (by intro z;cases z))];exact Oo⟩
     have ee:upd H' lk (.lst ((ks.take j).map V.str++[V.str kd])) q=some (.tup ((mw ks uo).map V.str)):=by rw[aw (dh rn hC.kk (by intro z;cases z))];exact rn
     generalize upd H' lk (.lst ((ks.take j).map V.str++[V.str kd]))=H3 at b3 Jm HW nQ hr3 oJ ee
     obtain⟨Oq,t5⟩:=id oJ
     have Ks:aE K H3 src (ns.map V.int):=aE.but b3 hR hS
     refine⟨_,rfl,c0,_,_,_,_,rfl,Jm,T.az,T.bo,rfl,.inl ⟨rfl,_,aE.of nQ⟩,_,rfl,r,Oq,_,rfl,t5,rfl,r,src,pos+1+j,ns,x,rfl,oJ,Ks,hxj j x hx,fun H4 uh b4=>?_⟩
     have U0:=b4 _ _ nQ (Gv _ K_)
     refine⟨ln,_,_,rfl,rfl,U0,(by rw[length_map,length_take,sizeLine_eq];have:=I0;omega),?_⟩
     obtain⟨U1,L6⟩:=uh
     refine⟨_,vW,[],pos+1+(j+1),rfl,Fv (b3.trans b4) K_,?_,⟨?_,?_,?_,?_,Jl,K9,K_,hC.fr⟩,⟨U1,?_⟩,.inl ⟨by omega,rfl,rfl,rfl⟩⟩
     ·have:=b4 _ _ ee (dh ee t5 (by intro z;cases z))
      rw[aw (dh this U0 (by intro z;cases z))];exact this
     ·rw[aw ncn];exact b4 _ _ Jm (Gv _ Jl)
     ·rw[aw Jg];exact b4 _ _ HW (Gv _ K9)
     ·rw[ah,take_snoc hx,map_append];rfl
     ·rw[aw fun z=>Oj z.symm];exact b4 _ _ hr3 (Gv _ hC.fr)
     ·rw[aw (dh L6 U0 (by intro z;cases z))];exact L6
    ·have Rt:j=ks.length:=by omega
     subst Rt
     have hh:uo=true:=by
      cases uo with
      | true=>rfl
      | false=>rw[hlen] at Al;simp at Al
     subst hh
     have hkr:kd="row":=by
      unfold mw at wD
      rw[List.getElem?_append_right (Nat.le_refl _),Nat.sub_self,if_pos rfl] at wD
      exact(Option.some.inj wD).symm
     subst hkr
     refine⟨_,rfl,rfl,_,rfl,bC ?_⟩
     rw[if_pos rfl] at EL
     have m6:ns[pos+1+ks.length]?=some (row.length:Int):=by
      have:=Ds (ns:=ns) (pos:=pos) (j:=xs.length+1) (x:=row.length) (by
       rw[EL,List.getElem?_cons_succ,List.getElem?_append_right (Nat.le_refl _),Nat.sub_self];rfl)
      rw[<- aX,show pos+1+xs.length=pos+(xs.length+1) by omega];exact this
     have hrw2:row=(ns.drop (pos+1+ks.length+1)).take row.length:=by
      have e:ns.drop (pos+1+ks.length+1)=(ns.drop pos).drop (1+ks.length+1):=by rw[List.drop_drop];congr 1;omega
      rw[e,EL,<- aX]
      have e2:1+xs.length+1=(xs.length+1)+1:=by omega
      rw[e2,List.drop_succ_cons,<- List.drop_drop,List.drop_left]
      show row=((row++t):List Int).take row.length
      rw[List.take_left]
     refine⟨_,rfl,r,dr,_,rfl,Oo,rfl,r,src,pos+1+ks.length,ns,row,rfl,II,mq,m6,hrw2,fun H3 p3 oJ f3 Jc b3=>?_⟩
     have Jm:=b3 _ _ hC.ob (Gv _ Jl)
     refine⟨_,rfl,c0,_,dc,_,rfl,Jm,T.az,T.kG,(by show 4<1000;decide),?_⟩
     have nc:∀y Ot,H3 y=some (.lst Ot)->y≠c0:=fun y Ot h=>dh h Jm (by intro z;cases z)
     have HW:=b3 _ _ hC.kk (Gv _ K9)
     have nQ:=b3 _ _ hC.nn (Gv _ K_)
     obtain⟨Oq,t5⟩:=oJ
     have f30:H p3=none:=by
      cases qq:H p3 with
      | none=>rfl
      | some o=>
       by_cases e:p3=r
       ·rw[e,Oo] at f3;cases f3
       ·rw[b' _ _ qq e] at f3;cases f3
     refine⟨_,p3,row,pos+1+xs.length+(1+row.length),rfl,Fv (b'.trans b3) Jl,?_,⟨?_,?_,?_,?_,Jl,K9,K_,f30⟩,⟨Oq,?_⟩,.inr ⟨rfl,rfl,rfl,rfl⟩⟩
     ·have:=b3 _ _ rn (dh rn Oo (by intro z;cases z))
      rw[aw (dh this Jm (by intro z;cases z))];exact this
     ·rw[ah];rfl
     ·rw[aw (nc _ _ HW),HW,List.take_of_length_le (Nat.le_refl _),List.take_of_length_le (Nat.le_succ _)]
     ·rw[aw (nc _ _ nQ),nQ,List.take_of_length_le (by omega),List.take_of_length_le (by omega)]
     ·rw[aw (nc _ _ Jc)];exact Jc
     ·rw[aw (fun z=>Gv _ Jl z.symm),t5]
      have:pos+1+ks.length+1+row.length=pos+1+xs.length+(1+row.length):=by omega
      rw[this]
   ·rw[hlen,hjk,hh] at Al
    simp at Al
  ·rintro σ H' ⟨v3,vW,Bi,pos',rfl,b',rn,hC,II,y8⟩
   rw[length_map,hlen] at hC y8
   refine⟨_,rfl,?_⟩
   cases uo with
   | true=>
    simp only[if_pos] at hC y8
    rcases y8 with ⟨h1,_⟩|⟨_,_,rfl,rfl⟩
    ·omega
    ·rw[List.take_of_length_le (by omega),List.take_of_length_le (by omega)] at hC
     exact k H' c0 dc lk ln vW hC II b'
   | false=>
    simp only[Bool.false_eq_true,if_false,Nat.add_zero] at hC y8
    rcases y8 with ⟨_,rfl,rfl,rfl⟩|⟨h1,_⟩
    ·rw[List.take_of_length_le (by omega),List.take_of_length_le (by omega)] at hC
     have e:=hrow0 rfl
     subst e
     refine k H' c0 dc lk ln vW hC ?_ b'
     rw[show pos+1+xs.length+(if false=true then 1+([]:List Int).length else 0)=pos+1+ks.length by simp;omega]
     exact II
    ·omega
def Ou (A:aW) (H0 H:Hp) (b:Addr) (c:List (List Int)):Prop:=∃(p:Int) (name:Str) (ks:List Str) (hr:Bool) (xs row:List Int) (dc lk ln lr:Addr),yg p name ks hr/\xs.length=ks.length/\(hr=false->row=[])/\
 c=(if hr=true then [p::xs,row] else [p::xs])/\row.length<=17000/\qb A H0 H b name ks xs row dc lk ln lr
def G1 (K:W.Frag) (A:aW):Sp:=fun vs H Q _=>∃(a:Addr) (ns:List Int) (cs:List (List (List Int))),vs=[.ref a]/\aE K H a (ns.map V.int)/\PyFlat.calls PyVbedac.shape ns.length ns=some cs/\ns.length<=17000/\
 ∀(H':Hp) (p:Addr) (as:List Addr),aq H H'->H' p=some (.lst (as.map V.ref))->H p=none->bc (Ou A H H') as cs->Q (.ref p) H'
theorem qb.to {A:aW} {H0 H H':Hp} {c:Addr} {name:Str} {kinds:List Str} {ns row:List Int} {dc lk ln lr:Addr} (h:qb A H0 H c name kinds ns row dc lk ln lr) (k:∀b o,(b=c\/b=lk\/b=ln\/b=lr)->H b=some o->H' b=some o):qb A H0 H' c name kinds ns row dc lk ln lr:=
 ⟨k _ _ (.inl rfl) h.ob,k _ _ (.inr (.inl rfl)) h.kk,k _ _ (.inr (.inr (.inl rfl))) h.nn,k _ _ (.inr (.inr (.inr rfl))) h.rr,h.fc,h.fk,h.fn,h.fr⟩
theorem t6:aJ ["numbers","reader","calls"] ["numbers"] (ay vB):=by refine⟨rfl,rfl,rfl,?_,rfl,?_,?_⟩ <;> decide +kernel
theorem G2 (T:Txt K mg A):aY P w K mg base bF 4 A.lA A.jY ["numbers"] (G1 K A):=by
 refine T.gy.ok t6 (fun vs H Q E h=>?_) (fun bg Ar outer s H vs Q E hr h=>?_)
 ·obtain⟨a,ns,cs,rfl,_⟩:=h
  rfl
 ·obtain⟨a,ns,cs,rfl,hS,Hs,Ge,k⟩:=h
  refine⟨_,(ae (aG (i:=1) t6.nd rfl (Or.inl rfl) (rJ T.sU (Fu T) (hr.mono (by decide:2<=3)) rfl T.Il T.zt .nil aF (aa (pv 0) ag)))
   (ae (aG (i:=2) t6.nd rfl (Or.inl rfl) (aR ag))
   (ae (CH PassesOwn.never (fz (gi (pv 1) T.cu T.iC (Bf T) (hr.mono (by decide:1<=3)) T.ud .nil aF)) (ao (cv (fG PySem.F.plainAttrs_list PySem.F.slot_list_append PySem.F.type_list_append dn (pv 2) (aa (aA (Jk T) (hr.mono (by decide:3<=3)) rfl T.Cs T.ik.kp T.Cr .nil aF (aa (pv 1) ag)) ag)))))
   (ao (ax (pv 2)))))),?_⟩
  refine⟨_,rfl,?_⟩
  intro r dr n1 m1 e1
  refine⟨r,dr,a,rfl,ah,fun H1 AW b1=>⟨rfl,?_⟩⟩
  have s1:aq H H1:=aq.made n1 m1 b1
  refine⟨zl0,fun q hq=>?_⟩
  have s2:aq H1 (upd H1 q (.lst [])):=aq.new hq
  have yc:=s1.trans s2
  have xX:H q=none:=s1.free hq
  have IM:r≠q:=by
   obtain⟨d,h⟩:=AW
   exact aK h hq
  have KQ:h8 A (upd H1 q (.lst [])) r a 0:=by
   obtain⟨d,h⟩:=AW
   exact⟨d,s2 _ _ h⟩
  refine⟨fun d σ H'=>∃(pos:Nat) (as:List Addr) (done rest:List (List (List Int))) (f:Nat),σ=[some (.ref a),some (.ref r),some (.ref q)]/\aq H H'/\h8 A H' r a pos/\pos<=ns.length/\H' q=some (.lst (as.map V.ref))/\bc (Ou A H H') as done/\(∀b,b∈as->∀name lk ln lr dc,H' b=some (.ins A.d6 dc (wG name lk ln lr))->lk≠q/\ln≠q/\lr≠q)/\done.length<=pos/\cs=done++rest/\PyFlat.calls PyVbedac.shape f (ns.drop pos)=some rest/\d=ns.length-pos,
   ⟨_,0,[],[],cs,ns.length,rfl,yc,KQ,Nat.zero_le _,ah,bc.nil,(by intro b hb;cases hb),Nat.le_refl _,rfl,by rw[List.drop_zero];exact Hs,rfl⟩,?_⟩
  rintro d σ H3 ⟨pos,as,done,rest,f,rfl,s3,oJ,gS,ee,hA,h9,Kq,wc,hrest,rfl⟩
  obtain⟨Oq,t5⟩:=id oJ
  have Ks:aE K H3 a (ns.map V.int):=s3.seq hS
  refine⟨_,rfl,r,Oq,_,rfl,t5,rfl,r,a,pos,ns,rfl,oJ,Ks,_,rfl,?_⟩
  rcases WS.M6 hrest with ⟨h1,h2⟩|⟨f',c,t,Kh,h1,h2,h3⟩
  ·have Ph:¬pos<ns.length:=by
    have:=congrArg List.length h1
    rw[List.length_drop] at this
    simp at this;omega
   refine sg Ph ?_
   rw[h2,append_nil] at wc
   rw[wc] at k
   exact⟨_,rfl,k H3 q as s3 ee xX hA⟩
  ·have hmore:pos<ns.length:=by
    rcases Nat.lt_or_ge pos ns.length with h | h
    ·exact h
    ·rw[List.drop_of_length_le h] at h2
     cases h2
   refine sf hmore ⟨_,fun _ _ z=>z,?_⟩
   have form:∃(p:Int) (name:Str) (ks:List Str) (hw:Bool) (xs row:List Int),yg p name ks hw/\xs.length=ks.length/\(hw=false->row=[])/\c=(if hw=true then [p::xs,row] else [p::xs])/\ns.drop pos=p::(xs++((if hw=true then (row.length:Int)::row else [])++t)):=by
    obtain⟨p,xs,⟨i1,i2,i3⟩|⟨row,i1,i2,i3⟩⟩:=WS.O3 h2
    ·obtain⟨name,ks,hw,g1,g2,g3⟩:=K8 i1
     have:hw=false:=by rw[g3];rfl
     subst this
     exact⟨p,name,ks,false,xs,[],g1,g2.symm,fun _=>rfl,i2,i3⟩
    ·obtain⟨name,ks,hw,g1,g2,g3⟩:=K8 i1
     have:hw=true:=by rw[g3];rfl
     subst this
     exact⟨p,name,ks,true,xs,row,g1,g2.symm,(by intro z;cases z),i2,i3⟩
   obtain⟨p,name,ks,hw,xs,row,g1,g2,g3,g4,g5⟩:=form
   refine⟨_,rfl,.inl ⟨rfl,_,aE.of ee⟩,_,rfl,r,a,pos,ns,p,name,ks,hw,xs,row,t,rfl,oJ,Ks,g1,g2,g3,g5,fun H4 c4 dc lk ln lr uq uh b4=>?_⟩
   have hrH:H r=none:=n1
   have s4:aq H H4:=fun b o h=>b4 _ _ (s3 _ _ h) (aK h hrH)
   have eC:=b4 _ _ ee IM.symm
   refine⟨q,_,_,rfl,rfl,eC,(by rw[length_map,hA.1,sizeLine_eq];omega),?_⟩
   have fq:∀x,H3 x=none->x≠q:=fun x hx z=>by rw[z,ee] at hx;cases hx
   have Rw:pos+1+xs.length+(if hw=true then 1+row.length else 0)<=ns.length:=by
    have:=congrArg List.length g5
    rw[List.length_drop] at this
    cases hw with
    | true=>simp at this ⊢;omega
    | false=>simp at this ⊢;omega
   have hrwl:row.length<=17000:=by
    cases hw with
    | true=>simp at Rw;omega
    | false=>rw[g3 rfl];simp
   have hC5:qb A H (upd H4 q (.lst (as.map V.ref++[.ref c4]))) c4 name ks xs row dc lk ln lr:=by
    have h0:qb A H H4 c4 name ks xs row dc lk ln lr:=⟨uq.ob,uq.kk,uq.nn,uq.rr,s3.free uq.fc,s3.free uq.fk,s3.free uq.fn,s3.free uq.fr⟩
    refine h0.to fun b o hb h=>?_
    rw[aw]
    ·exact h
    ·rcases hb with rfl | rfl | rfl | rfl
     ·exact fq _ uq.fc
     ·exact fq _ uq.fk
     ·exact fq _ uq.fn
     ·exact fq _ uq.fr
   have s5:aq H (upd H4 q (.lst (as.map V.ref++[.ref c4]))):=aq.but s4 xX bA.upd
   obtain⟨U1,L6⟩:=uh
   refine⟨ns.length-(pos+1+xs.length+(if hw=true then 1+row.length else 0)),by omega,pos+1+xs.length+(if hw=true then 1+row.length else 0),as++[c4],done++[c],Kh,f',rfl,s5,⟨U1,by rw[aw IM];exact L6⟩,Rw,(by rw[ah,map_append];rfl),?_,?_,(by rw[length_append];simp;omega),?_,?_,rfl⟩
   ·refine bc.snoc ⟨hA.1,fun i b c' h1 h2=>?_⟩ ⟨p,name,ks,hw,xs,row,dc,lk,ln,lr,g1,g2,g3,g4,hrwl,hC5⟩
    obtain⟨p',L7,ff,hw',Ot,Bi,U2,Ov,Ow,vW,j1,j2,j3,j4,j4b,j5⟩:=hA.2 i b c' h1 h2
    obtain⟨n1',n2',n3'⟩:=h9 b (mem_of_getElem? h1) L7 Ov Ow vW U2 j5.ob
    refine⟨p',L7,ff,hw',Ot,Bi,U2,Ov,Ow,vW,j1,j2,j3,j4,j4b,j5.to fun x o hx h=>?_⟩
    have Ro:x≠r:=by
     intro z
     rw[z,t5] at h
     cases h
     rcases hx with hx | hx | hx | hx
     ·rw[<- hx,z] at j5
      have:=j5.ob
      rw[t5] at this
      injection this with this
      injection this with _ _ this
      have:=congrArg List.length this
      cases this
     ·rw[<- hx,z] at j5;have:=j5.kk;rw[t5] at this;cases this
     ·rw[<- hx,z] at j5;have:=j5.nn;rw[t5] at this;cases this
     ·rw[<- hx,z] at j5;have:=j5.rr;rw[t5] at this;cases this
    rw[aw]
    ·exact b4 _ _ h Ro
    ·rcases hx with hx | hx | hx | hx
     ·rw[hx];exact dh j5.ob ee (by intro z;cases z)
     ·rw[hx];exact n1'
     ·rw[hx];exact n2'
     ·rw[hx];exact n3'
   ·intro b hb L7 Ov Ow vW U2 br
    have Rx:b≠q:=by
     intro z
     rw[z,ah] at br
     cases br
    rw[aw Rx] at br
    rcases mem_append.mp hb with hb | hb
    ·obtain⟨i,hi,hib⟩:=List.mem_iff_getElem.mp hb
     obtain⟨c',zR⟩:=hA.get (List.getElem?_eq_some_iff.mpr ⟨hi,hib⟩)
     obtain⟨_,p',name2,ff,hw',Ot,Bi,dc2,lk2,ln2,lr2,j1,j2,j3,j4,j4b,j5⟩:=zR
     have hbr:b≠r:=by
      intro z
      have:=j5.ob
      rw[z,t5] at this
      injection this with this
      injection this with _ _ this
      have:=congrArg List.length this
      cases this
     have xk:=b4 _ _ j5.ob hbr
     rw[xk] at br
     injection br with br
     injection br with _ _ br
     unfold wG at br
     injection br with _ br
     injection br with sM br
     injection br with zb br
     injection br with zk _
     have ek:lk2=Ov:=by injection sM with _ sM;injection sM
     have en:ln2=Ow:=by injection zb with _ zb;injection zb
     have er:lr2=vW:=by injection zk with _ zk;injection zk
     obtain⟨a1,a2,a3⟩:=h9 b hb name2 lk2 ln2 lr2 dc2 j5.ob
     rw[<- ek,<- en,<- er]
     exact⟨a1,a2,a3⟩
    ·rw[mem_singleton.mp hb,uq.ob] at br
     injection br with br
     injection br with _ _ br
     unfold wG at br
     injection br with _ br
     injection br with sM br
     injection br with zb br
     injection br with zk _
     have ek:lk=Ov:=by injection sM with _ sM;injection sM
     have en:ln=Ow:=by injection zb with _ zb;injection zb
     have er:lr=vW:=by injection zk with _ zk;injection zk
     rw[<- ek,<- en,<- er]
     exact⟨fq _ uq.fk,fq _ uq.fn,fq _ uq.fr⟩
   ·rw[wc,h1,append_assoc]
    rfl
   ·have e:ns.drop (pos+1+xs.length+(if hw=true then 1+row.length else 0))=t:=by
     have e0:pos+1+xs.length+(if hw=true then 1+row.length else 0)=pos+(xs.length+(if hw=true then 1+row.length else 0)+1):=by omega
     rw[e0,<- List.drop_drop,g5,List.drop_succ_cons,<- List.drop_drop,List.drop_left]
     cases hw with
     | true=>
      simp only[if_true]
      have:1+row.length=row.length+1:=by omega
      rw[this,List.cons_append,List.drop_succ_cons,List.drop_left]
     | false=>rfl
    rw[e]
    exact h3
def Ox:List (Str×Int):=[("events",2),("key",1),("witness",1),("event",0),("span",-1000000000),("doubted",0)]
def U3:List (Str×Int):=[("events",24),("key",1000000000),("witness",1000000000),("span",1000000000),("doubted",3)]
def BQ (n:Nat) (k:Str):Option Int:=if k="event" then some ((n:Int)-1) else U3.lookup k
def Fw (A:aW):Sp:=fun vs H Q _=>∃(k:Str) (n:Nat) (g:Int),vs=[.str k,.int n]/\BQ n k=some g/\Q (.int g) H
theorem Fx:aJ ["kind","n"] ["kind","n"] (ay tN):=by refine⟨rfl,rfl,rfl,?_,rfl,?_,?_⟩ <;> decide +kernel
theorem Fy (T:Txt K mg A):aY P w K mg base bF 1 A.jZ A.ji ["kind","n"] (Fw A):=by
 refine T.fJ.ok Fx (fun vs H Q E h=>?_) (fun bg Ar outer s H vs Q E hr h=>?_)
 ·obtain⟨k,n,g,rfl,_⟩:=h
  rfl
 ·obtain⟨k,n,g,rfl,hg,kk⟩:=h
  refine⟨_,(ae (aP (aO bZ (pv 0) cF (aU _)) (ao (ax (dM zV (pv 1) aH))) aI)
   (ao (ax (H_ T.qX (bU (v:=.ref A.l_) rfl T.oA rfl) (pv 0) (fun _ _=>rfl))))),?_⟩
  unfold BQ at hg
  by_cases c:k="event"
  ·subst c
   rw[if_pos rfl] at hg
   cases hg
   refine⟨_,rfl,rfl,_,rfl,bC ?_⟩
   exact⟨_,rfl,_,_,rfl,rfl,kk⟩
  ·rw[if_neg c] at hg
   refine⟨_,rfl,rfl,_,rfl,aB c ?_⟩
   exact⟨_,rfl,_,_,rfl,rfl,hg,kk⟩
def aV (n:Nat) (k:Str) (x:Int):Bool:=match Ox.lookup k,BQ n k with
 | some l,some g=>decide (l<=x)&&decide (x<=g)
 | _,_=>false
def Bj (k:Str):Prop:=k="events"\/k="key"\/k="witness"\/k="event"\/k="span"\/k="doubted"
theorem Qh {k:Str} (h:Bj k) (n:Nat):∃l g,Ox.lookup k=some l/\BQ n k=some g:=by
 rcases h with rfl | rfl | rfl | rfl | rfl | rfl
 ·exact⟨_,_,rfl,rfl⟩
 ·exact⟨_,_,rfl,rfl⟩
 ·exact⟨_,_,rfl,rfl⟩
 ·exact⟨_,_,rfl,rfl⟩
 ·exact⟨_,_,rfl,rfl⟩
 ·exact⟨_,_,rfl,rfl⟩
def Fz (A:aW):Sp:=fun vs H Q _=>∃(k:Str) (x:Int) (n:Nat),vs=[.str k,.int x,.int n]/\Bj k/\Q (.bl (aV n k x)) H
theorem FA:aJ ["kind","number","n"] ["kind","number","n"] (ay tO):=by refine⟨rfl,rfl,rfl,?_,rfl,?_,?_⟩ <;> decide +kernel
theorem FC (T:Txt K mg A):aY P w K mg base bF 2 A.j0 A.jj ["kind","number","n"] (Fz A):=by
 refine T.fK.ok FA (fun vs H Q E h=>?_) (fun bg Ar outer s H vs Q E hr h=>?_)
 ·obtain⟨k,x,n,rfl,_⟩:=h
  rfl
 ·obtain⟨k,x,n,rfl,hk,kk⟩:=h
  obtain⟨l,g,hl,hg⟩:=Qh hk n
  refine⟨_,(ao (ax (OJ G4 G4 (H_ T.xV (bU (v:=.ref A.sd) rfl T.u5 rfl) (pv 0) (fun _ _=>rfl)) (pv 1) (aA (Fy T) (hr.mono (by decide:1<=1)) rfl T.zv T.fJ.kp T.zu .nil aF (aa (pv 0) (aa (pv 2) ag)))))),?_⟩
  unfold aV at kk
  rw[hl,hg] at kk
  dsimp only at kk
  refine⟨_,rfl,_,_,rfl,rfl,hl,_,rfl,_,_,rfl,rfl,_,rfl,?_⟩
  by_cases c:l<=x
  ·rw[decide_eq_true c,Bool.true_and] at kk
   refine sf c ?_
   exact⟨_,rfl,_,rfl,k,n,g,rfl,hg,_,_,rfl,rfl,kk⟩
  ·rw[decide_eq_false c,Bool.false_and] at kk
   exact sg c kk
def y9 (n:Nat) (ks:List Str) (xs:List Int):Bool:=(ks.zip xs).all fun p=>aV n p.1 p.2
def wa (A:aW):Sp:=fun vs H Q _=>∃(c:Addr) (n:Nat) (name:Str) (ks:List Str) (xs row:List Int),vs=[.ref c,.int n]/\CallAt A H c name ks xs row/\xs.length=ks.length/\ks.length<=6/\(∀k,k∈ks->Bj k)/\Q (.bl (y9 n ks xs)) H
theorem oK:aJ ["call","n","i"] ["call","n"] (ay kO):=by refine⟨rfl,rfl,rfl,?_,rfl,?_,?_⟩ <;> decide +kernel
theorem wb (T:Txt K mg A):aY P w K mg base bF 3 A.dU A.dv ["call","n"] (wa A):=by
 refine T.bV.ok oK (fun vs H Q E h=>?_) (fun bg Ar outer s H vs Q E hr h=>?_)
 ·obtain⟨c,n,name,ks,xs,row,rfl,_⟩:=h
  rfl
 ·obtain⟨c,n,name,ks,xs,row,rfl,⟨dc,lk,ln,lr,hc,hk,hn,_⟩,aX,DS,a9,kk⟩:=h
  refine⟨_,(ae (cq PassesOwn.never rfl (lK rfl T.hX (aa (bX bx (by rfl) T.d9 PySem.boot_len (aa (aD (pv 0) rfl) ag)) ag)) (a6 (i:=2) oK.nd rfl (Or.inl rfl))
    (ao (aP (kZ (fz (aA (FC T) (hr.mono (by decide:2<=2)) rfl T.zx T.fK.kp T.zw .nil aF (aa (bf aN (aD (pv 0) rfl) (pv 2) (fun _ _=>rfl)) (aa (bf aN (aD (pv 0) rfl) (pv 2) (fun _ _=>rfl)) (aa (pv 1) ag)))))) (ao (ax iG)) aI)))
   (ao (ax iG))),?_⟩
  refine⟨_,rfl,c,_,_,_,_,rfl,hc,T.az,T.bo,rfl,ln,_,rfl,.inl (aE.of hn),?_⟩
  rw[length_map]
  unfold y9 at kk
  refine⟨_,rfl,by omega,by omega,pL (lo:=0) (n:=xs.length) (fun i σ H'=>∃v2,H'=H/\σ=[some (.ref c),some (.int n),v2]/\((ks.zip xs).take i).all (fun p=>aV n p.1 p.2)=true)
   ⟨none,rfl,rfl,rfl⟩ ?_ ?_⟩
  ·rintro i σ H' hi ⟨v2,rfl,rfl,ha⟩
   rw[Int.zero_add]
   obtain⟨x,hx⟩:∃x,xs[i]?=some x:=⟨_,getElem?_eq_getElem hi⟩
   obtain⟨kd,wD⟩:∃kd,ks[i]?=some kd:=⟨_,getElem?_eq_getElem (by omega)⟩
   have hz:(ks.zip xs)[i]?=some (kd,x):=by
    rw[List.getElem?_zip_eq_some]
    exact⟨wD,hx⟩
   refine⟨_,rfl,c,_,_,_,_,rfl,hc,T.az,T.js,rfl,_,rfl,lk,_,_,_,rfl,rfl,aE.of hk,a_ (j:=i) (v:=.str kd) (by rw[getElem?_map,wD];rfl),_,rfl,c,_,_,_,_,rfl,hc,T.az,T.bo,rfl,_,rfl,ln,_,_,_,rfl,rfl,aE.of hn,a_ (j:=i) (v:=.int x) (by rw[getElem?_map,hx];rfl),_,rfl,kd,x,n,rfl,a9 kd (mem_of_getElem? wD),_,rfl,?_⟩
   cases q:aV n kd x with
   | false=>
    refine aS ?_
    have:(ks.zip xs).all (fun p=>aV n p.1 p.2)=false:=by
     rw[Bool.eq_false_iff]
     intro z
     have:=all_eq_true.mp z (kd,x) (mem_of_getElem? hz)
     rw[q] at this;cases this
    rw[this] at kk
    exact kk
   | true=>
    refine aZ ?_
    refine⟨_,rfl,rfl,?_⟩
    rw[take_snoc hz,List.all_append,ha]
    simp[q]
  ·rintro σ H' ⟨v2,rfl,rfl,ha⟩
   rw[List.take_of_length_le (by rw[List.length_zip];omega)] at ha
   rw[ha] at kk
   exact kk
theorem cC {s:State} {name:Str} {ns:List Int} (h:((["begin","say","take","give","drop","trust"]:List Str).all fun x=>name != x)=true):mi s name ns none:=by
 have g:∀x,x∈(["begin","say","take","give","drop","trust"]:List Str)->name≠x:=fun x hx=>by
  have:=all_eq_true.mp h x hx
  simpa using this
 exact .inr (.inr (.inr (.inr (.inr (.inr (⟨⟨g _ (by simp),g _ (by simp),g _ (by simp),g _ (by simp),g _ (by simp),g _ (by simp)⟩,rfl⟩))))))
theorem bW {s:State} {name:Str} {ns row:List Int} (h:((["fit","ring","bounds","early","late","tried","shown"]:List Str).all fun x=>name != x)=true):i4 s name ns row none:=by
 have g:∀x,x∈(["fit","ring","bounds","early","late","tried","shown"]:List Str)->name≠x:=fun x hx=>by
  have:=all_eq_true.mp h x hx
  simpa using this
 exact .inr (.inr (.inr (.inr (.inr (.inr (.inr (⟨⟨g _ (by simp),g _ (by simp),g _ (by simp),g _ (by simp),g _ (by simp),g _ (by simp),g _ (by simp)⟩,rfl⟩)))))))
theorem cQ {s:State} {name:Str} {ns:List Int} (h:((["why","needless","if_of","slack","pinned","order","web"]:List Str).all fun x=>name != x)=true):mj s name ns none:=by
 have g:∀x,x∈(["why","needless","if_of","slack","pinned","order","web"]:List Str)->name≠x:=fun x hx=>by
  have:=all_eq_true.mp h x hx
  simpa using this
 exact .inr (.inr (.inr (.inr (.inr (.inr (.inr (⟨⟨g _ (by simp),g _ (by simp),g _ (by simp),g _ (by simp),g _ (by simp),g _ (by simp),g _ (by simp)⟩,rfl⟩)))))))
theorem cJ {s:State} {name:Str} {ns:List Int} (h:((["doubt","who","peel","alone"]:List Str).all fun x=>name != x)=true):oF s name ns none:=by
 have g:∀x,x∈(["doubt","who","peel","alone"]:List Str)->name≠x:=fun x hx=>by
  have:=all_eq_true.mp h x hx
  simpa using this
 exact .inr (.inr (.inr (.inr (⟨⟨g _ (by simp),g _ (by simp),g _ (by simp),g _ (by simp)⟩,rfl⟩))))
theorem bT {s:State} {name:Str} {ns row:List Int} (h:((["walk","told"]:List Str).all fun x=>name != x)=true):ml s name ns row none:=by
 have g:∀x,x∈(["walk","told"]:List Str)->name≠x:=fun x hx=>by
  have:=all_eq_true.mp h x hx
  simpa using this
 exact .inr (.inr (⟨⟨g _ (by simp),g _ (by simp)⟩,rfl⟩))
theorem y_ (n:Nat) (x:Int):aV n "events" x=Vbedac.inR x 2 24:=rfl
theorem lJ (n:Nat) (x:Int):aV n "key" x=Vbedac.okK x:=rfl
theorem ip (n:Nat) (x:Int):aV n "witness" x=Vbedac.okK x:=rfl
theorem cR (s:State) (x:Int):aV s.n "event" x=Vbedac.okE s x:=rfl
theorem vX (n:Nat) (x:Int):aV n "span" x=Vbedac.okT x:=rfl
theorem sE (n:Nat) (x:Int):aV n "doubted" x=Vbedac.inR x 0 3:=rfl
theorem e9 {x lo hi:Int}:Vbedac.inR x lo hi=true↔lo<=x/\x<=hi:=by
 unfold Vbedac.inR
 rw[Bool.and_eq_true,decide_eq_true_eq,decide_eq_true_eq]
def bN (s:State) (name:Str) (xs row:List Int) (c:List (List Int)):Prop:=∃r1 r2 r3 r4 r5,mi s name xs r1/\i4 s name xs row r2/\mj s name xs r3/\oF s name xs r4/\ml s name xs row r5/\
 (r1=some (Vbedac.step s c)\/(r1=none/\∃l,Vbedac.step s c=(s,l)/\(r2=some l\/(r2=none/\(r3=some l\/(r3=none/\(r4=some l\/(r4=none/\r5=some l))))))))
theorem bN.change {s:State} {name:Str} {xs row:List Int} {c:List (List Int)} {r:State×List Int} (h:mi s name xs (some r)) (e:Vbedac.step s c=r)
  (h2:i4 s name xs row none) (h3:mj s name xs none) (h4:oF s name xs none) (h5:ml s name xs row none):bN s name xs row c:=⟨_,_,_,_,_,h,h2,h3,h4,h5,.inl (by rw[e])⟩
theorem bN.question {s:State} {name:Str} {xs row:List Int} {c:List (List Int)} {l:List Int} (h:i4 s name xs row (some l)) (e:Vbedac.step s c=(s,l))
  (h1:mi s name xs none) (h3:mj s name xs none) (h4:oF s name xs none) (h5:ml s name xs row none):bN s name xs row c:=⟨_,_,_,_,_,h1,h,h3,h4,h5,.inr ⟨rfl,l,e,.inl rfl⟩⟩
theorem bN.vY {s:State} {name:Str} {xs row:List Int} {c:List (List Int)} {l:List Int} (h:mj s name xs (some l)) (e:Vbedac.step s c=(s,l))
  (h1:mi s name xs none) (h2:i4 s name xs row none) (h4:oF s name xs none) (h5:ml s name xs row none):bN s name xs row c:=⟨_,_,_,_,_,h1,h2,h,h4,h5,.inr ⟨rfl,l,e,.inr ⟨rfl,.inl rfl⟩⟩⟩
theorem bN.doubt {s:State} {name:Str} {xs row:List Int} {c:List (List Int)} {l:List Int} (h:oF s name xs (some l)) (e:Vbedac.step s c=(s,l))
  (h1:mi s name xs none) (h2:i4 s name xs row none) (h3:mj s name xs none) (h5:ml s name xs row none):bN s name xs row c:=⟨_,_,_,_,_,h1,h2,h3,h,h5,.inr ⟨rfl,l,e,.inr ⟨rfl,.inr ⟨rfl,.inl rfl⟩⟩⟩⟩
theorem bN.report {s:State} {name:Str} {xs row:List Int} {c:List (List Int)} {l:List Int} (h:ml s name xs row (some l)) (e:Vbedac.step s c=(s,l))
  (h1:mi s name xs none) (h2:i4 s name xs row none) (h3:mj s name xs none) (h4:oF s name xs none):bN s name xs row c:=⟨_,_,_,_,_,h1,h2,h3,h4,h,.inr ⟨rfl,l,e,.inr ⟨rfl,.inr ⟨rfl,.inr ⟨rfl,rfl⟩⟩⟩⟩⟩
theorem U4 {s:State} {k w a b lo hi:Int} (hk:Vbedac.okK k=true) (hw:Vbedac.okK w=true) (ha:Vbedac.okE s a=true) (hb:Vbedac.okE s b=true) (hl:Vbedac.okT lo=true) (hh:Vbedac.okT hi=true) :
  Vbedac.say s k w a b lo hi=ph s ⟨k.toNat,w.toNat,a.toNat,b.toNat,lo,hi,true⟩:=by
 have h1:=e9.mp ha
 have h2:=e9.mp hb
 unfold Vbedac.say ph gA
 rw[hk,hw,ha,hb,hl,hh]
 dsimp only
 rw[if_neg (by simp)]
 by_cases c1:(Vbedac.saidBy s k.toNat).isSome=true
 ·rw[if_pos c1,if_pos c1];rfl
 rw[if_neg c1,if_neg c1]
 by_cases c2:a=b
 ·rw[if_pos c2,if_pos (by rw[c2])];rfl
 rw[if_neg c2,if_neg (show ¬a.toNat=b.toNat by omega)]
 by_cases c3:hi<lo
 ·rw[if_pos c3,if_pos c3];rfl
 rw[if_neg c3,if_neg c3]
 by_cases c4:100<=s.said.length
 ·unfold Vbedac.MOST
  rw[if_pos c4,if_pos c4];rfl
 unfold Vbedac.MOST
 rw[if_neg c4,if_neg c4]
theorem La {s:State} {k:Int} {v:Bool} (hk:Vbedac.okK k=true):Vbedac.turn s k v=oneAt s k.toNat v:=by
 unfold Vbedac.turn oneAt
 rw[hk,if_neg (by simp)]
 cases Vbedac.saidBy s k.toNat with
 | none=>rfl
 | some x=>
  dsimp only
  split <;> rfl
theorem BR {l:List Said} {n:Nat}:(l.any fun x=>x.who==n)=false↔(e6 n l).length=0:=by
 unfold e6
 rw[length_eq_zero_iff,List.filter_eq_nil_iff,Bool.eq_false_iff]
 constructor
 ·intro h x hx e
  exact h (any_eq_true.mpr ⟨x,hx,e⟩)
 ·intro h e
  obtain⟨x,hx,e⟩:=any_eq_true.mp e
  exact h x hx e
theorem drop_eq {s:State} {k:Int} {v:Bool} (hk:Vbedac.okK k=true):Vbedac.drop s k v=allAt s k.toNat v:=by
 unfold Vbedac.drop allAt
 rw[hk,if_neg (by simp)]
 by_cases c:(s.said.any fun x=>x.who==k.toNat)=false
 ·rw[if_pos c,if_pos (BR.mp c)];rfl
 ·rw[if_neg c,if_neg fun q=>c (BR.mpr q)]
  dsimp only
  rw[WS.Lz]
  rfl
theorem Qi {s:State} (h:WS.Well s) {x:Said} (hr:gA s x=none) (hk:1<=x.key) (ha:x.a<s.n) (hb:x.b<s.n) (hs:-Vbedac.BIG<=x.lo/\x.lo<=Vbedac.BIG/\-Vbedac.BIG<=x.hi/\x.hi<=Vbedac.BIG):WS.Well ⟨s.n,Vbedac.put x s.said⟩:=by
 obtain⟨c1,c2,c3,c4⟩:=A0 hr
 refine⟨h.n2,h.D1,?_,WS.D5 h.sorted (WS.mz c1),fun y hy=>?_,fun y hy=>?_,fun y hy=>?_⟩
 ·show (Vbedac.put x s.said).length<=100
  rw[WS.D4];omega
 ·rcases WS.pO.mp hy with rfl | hy
  ·exact hk
  ·exact h.key y hy
 ·rcases WS.pO.mp hy with rfl | hy
  ·exact⟨ha,hb⟩
  ·exact h.ab y hy
 ·rcases WS.pO.mp hy with rfl | hy
  ·exact hs
  ·exact h.small y hy
theorem Qj {s:State} (h:WS.Well s) {x:Said} (hk:1<=x.key) (ha:x.a<s.n) (hb:x.b<s.n) (hs:-Vbedac.BIG<=x.lo/\x.lo<=Vbedac.BIG/\-Vbedac.BIG<=x.hi/\x.hi<=Vbedac.BIG):WS.Well (ph s x).1:=by
 cases c:gA s x with
 | some r=>rw[Er c];exact h
 | none=>rw[Es c];exact Qi h c hk ha hb hs
theorem Jn {s:State} (h:WS.Well s) (n:Nat) (v:Bool):WS.Well (oneAt s n v).1:=by
 unfold oneAt
 split
 ·exact h
 ·split
  ·exact h
  ·exact LV h v _
theorem Jo {s:State} (h:WS.Well s) (n:Nat) (v:Bool):WS.Well (allAt s n v).1:=by
 unfold allAt
 split
 ·exact h
 ·exact WS.yz h v _
theorem yh {s:State} {a b:Int} {f:State×List Int} (ha:Vbedac.okE s a=true) (hb:Vbedac.okE s b=true):Vbedac.two s a b f=f:=by
 unfold Vbedac.two
 rw[ha,hb]
 rfl
theorem Qk {s:State} {t:List Int}:Vbedac.step s [[11],t]=(s,nO s.n (Vbedac.standing s) t):=by
 rw[WS.st11]
 unfold nO si
 by_cases c:t.length=s.n
 ·cases d:t.all fun x=>Vbedac.inR x (-Vbedac.FAR) Vbedac.FAR with
  | false=>
   rw[if_pos (.inr rfl),if_pos (by rw[decide_eq_true c];rfl)];rfl
  | true=>
   rw[if_neg (by simp[c]),if_neg (by rw[decide_eq_true c];simp)];rfl
 ·rw[if_pos (.inl c),if_pos (by rw[decide_eq_false c];rfl)];rfl
theorem Jp {s:State} {n:Nat} {f:Said->List Int}:(match Vbedac.saidBy s n with
  | none=>Vbedac.ans s [-10]
  | some x=>if x.on=false then Vbedac.ans s [-7] else Vbedac.ifFit s (f x))=(s,byKey s n f):=by
 unfold byKey
 cases Vbedac.saidBy s n with
 | none=>rfl
 | some x=>
  dsimp only
  split <;> rfl
theorem if_eq {s:State} {a b lo hi:Int} (h0:0<=a) (h1:0<=b):(if a=b then Vbedac.ans s [-4] else if hi<lo then Vbedac.ans s [-5] else
   Vbedac.ifFit s [if Vbedac.follows s.n (Vbedac.edges s) a.toNat b.toNat lo hi=true then 1 else if Vbedac.fit s.n (Vbedac.edges s++Vbedac.edgesOf ⟨0,0,a.toNat,b.toNat,lo,hi,true⟩)=true then 0 else 2])=(s,rh s a.toNat b.toNat lo hi):=by
 unfold rh
 by_cases c:a=b
 ·rw[if_pos c,if_pos (by rw[c])];rfl
 ·rw[if_neg c,if_neg (show ¬a.toNat=b.toNat by omega)]
  by_cases c2:hi<lo
  ·rw[if_pos c2,if_pos c2];rfl
  ·rw[if_neg c2,if_neg c2];rfl
theorem Ql {s:State} (hW:WS.Well s) {m:Int} (hm:Vbedac.inR m 0 3=true):Vbedac.asked3 s m (Vbedac.foundPart (Vbedac.doubt s.n (Vbedac.standing s) m.toNat))=(s,j8 s.n (fun x=>x.key) (Vbedac.standing s) m.toNat):=by
 unfold Vbedac.asked3 j8 pH
 rw[hm,if_neg (by simp),WS.D_ (WS.m5 hW)]
 split <;> rfl
theorem U5 {s:State} {m:Int} (hm:Vbedac.inR m 0 3=true):Vbedac.asked3 s m (Vbedac.foundPart (Vbedac.doubtWho s.n (Vbedac.standing s) m.toNat))=(s,j8 s.n (fun x=>x.who) (Vbedac.standing s) m.toNat):=by
 unfold Vbedac.asked3 j8 pH
 rw[hm,if_neg (by simp)]
 split <;> rfl
theorem Qm {s:State} {n:Nat}:(if (s.said.any fun x=>x.who==n)=false then Vbedac.ans s [-10] else Vbedac.ans s [Vbedac.bit (Vbedac.fit s.n (Vbedac.edgesIn ((Vbedac.standing s).filter fun x=>x.who==n)))])=(s,p_ s.n (e6 n s.said)):=by
 unfold p_
 by_cases c:(s.said.any fun x=>x.who==n)=false
 ·rw[if_pos c,if_pos (BR.mp c)];rfl
 ·rw[if_neg c,if_neg fun q=>c (BR.mpr q)]
  have e:(Vbedac.standing s).filter (fun x=>x.who==n)=(e6 n s.said).filter fun x=>x.on:=by
   unfold Vbedac.standing e6
   rw[List.filter_filter,List.filter_filter]
   exact List.filter_congr fun x _=>Bool.and_comm _ _
  rw[e];rfl
theorem R6 {s:State} (hW:WS.Well s) {a:Nat} {l:List Int}:(match Vbedac.gone s a 0 l with
  | none=>Vbedac.ans s [-2]
  | some (i,x)=>Vbedac.ans s [0,Vbedac.nat i,x])=(s,sk (Vbedac.edges s) a l):=by
 unfold sk
 rw[WS.Km hW]
 cases WS.eF (Vbedac.edges s) l with
 | none=>rfl
 | some fs=>
  dsimp only
  cases WS.wo a 0 fs with
  | none=>rfl
  | some p=>rfl
theorem toN {x lo hi:Int} (h:Vbedac.inR x lo hi=true) (h0:0<=lo):((x.toNat:Nat):Int)=x:=by
 have:=e9.mp h
 omega
theorem ltN {s:State} {x:Int} (h:Vbedac.okE s x=true):x.toNat<s.n:=by
 have:=e9.mp h
 omega
def tE (p:Int) (hr:Bool) (xs row:List Int):List (List Int):=if hr=true then [p::xs,row] else [p::xs]
theorem FD {s:State} (hW:WS.Well s) {name:Str} {ks:List Str} {hr:Bool} {xs row:List Int}:∀(i:Nat),kY[i]?=some (name,ks,hr)->xs.length=ks.length->(hr=false->row=[])->y9 s.n ks xs=true->bN s name xs row (tE (i:Int) hr xs row)
 | 0,h,aX,aT,bq=>by
  cases h
  have e:=aT rfl
  subst e
  obtain⟨x0,rfl⟩:∃x0,xs=[x0]:=by
   match xs,aX with
   | [x0],_=>exact⟨x0,rfl⟩
  have aM:(aV s.n "events" x0&&true)=true:=bq
  simp only[y_,Bool.and_eq_true,and_true] at aM
  have h0:=aM
  have hx:=e9.mp h0
  refine bN.change (r:=(⟨x0.toNat,[]⟩,[0])) (.inl ⟨rfl,x0.toNat,by rw[toN h0 (by decide)],rfl⟩) (by show Vbedac.step s [[0,x0]]=_;rw[WS.st0,h0,if_neg (by simp)]) (bW (by decide +kernel)) (cQ (by decide +kernel)) (cJ (by decide +kernel)) (bT (by decide +kernel))
 | 1,h,aX,aT,bq=>by
  cases h
  have e:=aT rfl
  subst e
  obtain⟨x0,x1,x2,x3,x4,x5,rfl⟩:∃x0 x1 x2 x3 x4 x5,xs=[x0,x1,x2,x3,x4,x5]:=by
   match xs,aX with
   | [x0,x1,x2,x3,x4,x5],_=>exact⟨x0,x1,x2,x3,x4,x5,rfl⟩
  have aM:(aV s.n "key" x0&&(aV s.n "witness" x1&&(aV s.n "event" x2&&(aV s.n "event" x3&&(aV s.n "span" x4&&(aV s.n "span" x5&&true))))))=true:=bq
  simp only[lJ,ip,cR,vX,Bool.and_eq_true,and_true] at aM
  obtain⟨h0,h1,h2,h3,h4,h5⟩:=aM
  have g0:=e9.mp h0
  have g1:=e9.mp h1
  have g2:=e9.mp h2
  have g3:=e9.mp h3
  refine bN.change (r:=ph s ⟨x0.toNat,x1.toNat,x2.toNat,x3.toNat,x4,x5,true⟩) (.inr (.inl ⟨rfl,⟨x0.toNat,x1.toNat,x2.toNat,x3.toNat,x4,x5,true⟩,rfl,?_,rfl⟩)) (by show Vbedac.step s [[1,x0,x1,x2,x3,x4,x5]]=_;rw[WS.QR,U4 h0 h1 h2 h3 h4 h5]) (bW (by decide +kernel)) (cQ (by decide +kernel)) (cJ (by decide +kernel)) (bT (by decide +kernel))
  show _=[((x0.toNat:Nat):Int),((x1.toNat:Nat):Int),((x2.toNat:Nat):Int),((x3.toNat:Nat):Int),x4,x5]
  rw[toN h0 (by decide),toN h1 (by decide),toN h2 (by decide),toN h3 (by decide)]
 | 2,h,aX,aT,bq=>by
  cases h
  have e:=aT rfl
  subst e
  obtain⟨x0,rfl⟩:∃x0,xs=[x0]:=by
   match xs,aX with
   | [x0],_=>exact⟨x0,rfl⟩
  have aM:(aV s.n "key" x0&&true)=true:=bq
  simp only[lJ,Bool.and_eq_true,and_true] at aM
  have h0:=aM
  exact bN.change (r:=oneAt s x0.toNat false) (.inr (.inr (.inl ⟨rfl,x0.toNat,by rw[toN h0 (by decide)],rfl⟩))) (by show Vbedac.step s [[2,x0]]=_;rw[WS.Hm,La h0]) (bW (by decide +kernel)) (cQ (by decide +kernel)) (cJ (by decide +kernel)) (bT (by decide +kernel))
 | 3,h,aX,aT,bq=>by
  cases h
  have e:=aT rfl
  subst e
  obtain⟨x0,rfl⟩:∃x0,xs=[x0]:=by
   match xs,aX with
   | [x0],_=>exact⟨x0,rfl⟩
  have aM:(aV s.n "key" x0&&true)=true:=bq
  simp only[lJ,Bool.and_eq_true,and_true] at aM
  have h0:=aM
  exact bN.change (r:=oneAt s x0.toNat true) (.inr (.inr (.inr (.inl ⟨rfl,x0.toNat,by rw[toN h0 (by decide)],rfl⟩)))) (by show Vbedac.step s [[3,x0]]=_;rw[WS.Hn,La h0]) (bW (by decide +kernel)) (cQ (by decide +kernel)) (cJ (by decide +kernel)) (bT (by decide +kernel))
 | 4,h,aX,aT,bq=>by
  cases h
  have e:=aT rfl
  subst e
  obtain⟨x0,rfl⟩:∃x0,xs=[x0]:=by
   match xs,aX with
   | [x0],_=>exact⟨x0,rfl⟩
  have aM:(aV s.n "witness" x0&&true)=true:=bq
  simp only[ip,Bool.and_eq_true,and_true] at aM
  have h0:=aM
  exact bN.change (r:=allAt s x0.toNat false) (.inr (.inr (.inr (.inr (.inl ⟨rfl,x0.toNat,by rw[toN h0 (by decide)],rfl⟩))))) (by show Vbedac.step s [[4,x0]]=_;rw[WS.MK,drop_eq h0]) (bW (by decide +kernel)) (cQ (by decide +kernel)) (cJ (by decide +kernel)) (bT (by decide +kernel))
 | 5,h,aX,aT,bq=>by
  cases h
  have e:=aT rfl
  subst e
  obtain⟨x0,rfl⟩:∃x0,xs=[x0]:=by
   match xs,aX with
   | [x0],_=>exact⟨x0,rfl⟩
  have aM:(aV s.n "witness" x0&&true)=true:=bq
  simp only[ip,Bool.and_eq_true,and_true] at aM
  have h0:=aM
  exact bN.change (r:=allAt s x0.toNat true) (.inr (.inr (.inr (.inr (.inr (.inl ⟨rfl,x0.toNat,by rw[toN h0 (by decide)],rfl⟩)))))) (by show Vbedac.step s [[5,x0]]=_;rw[WS.Dz,drop_eq h0]) (bW (by decide +kernel)) (cQ (by decide +kernel)) (cJ (by decide +kernel)) (bT (by decide +kernel))
 | 6,h,aX,aT,bq=>by
  cases h
  have e:=aT rfl
  subst e
  have e:xs=[]:=length_eq_zero_iff.mp aX
  subst e
  exact bN.question (.inl ⟨rfl,rfl⟩) (by show Vbedac.step s [[6]]=_;rw[WS.st6];rfl) (cC (by decide +kernel)) (cQ (by decide +kernel)) (cJ (by decide +kernel)) (bT (by decide +kernel))
 | 7,h,aX,aT,bq=>by
  cases h
  have e:=aT rfl
  subst e
  have e:xs=[]:=length_eq_zero_iff.mp aX
  subst e
  exact bN.question (.inr (.inl ⟨rfl,rfl⟩)) (by show Vbedac.step s [[7]]=_;rw[WS.ML];rfl) (cC (by decide +kernel)) (cQ (by decide +kernel)) (cJ (by decide +kernel)) (bT (by decide +kernel))
 | 8,h,aX,aT,bq=>by
  cases h
  have e:=aT rfl
  subst e
  obtain⟨x0,x1,rfl⟩:∃x0 x1,xs=[x0,x1]:=by
   match xs,aX with
   | [x0,x1],_=>exact⟨x0,x1,rfl⟩
  have aM:(aV s.n "event" x0&&(aV s.n "event" x1&&true))=true:=bq
  simp only[cR,Bool.and_eq_true,and_true] at aM
  obtain⟨h0,h1⟩:=aM
  exact bN.question (.inr (.inr (.inl ⟨rfl,x0.toNat,x1.toNat,by rw[toN h0 (by decide),toN h1 (by decide)],ltN h0,ltN h1,rfl⟩))) (by show Vbedac.step s [[8,x0,x1]]=_;rw[WS.st8,yh h0 h1];rfl) (cC (by decide +kernel)) (cQ (by decide +kernel)) (cJ (by decide +kernel)) (bT (by decide +kernel))
 | 9,h,aX,aT,bq=>by
  cases h
  have e:=aT rfl
  subst e
  obtain⟨x0,rfl⟩:∃x0,xs=[x0]:=by
   match xs,aX with
   | [x0],_=>exact⟨x0,rfl⟩
  have aM:(aV s.n "event" x0&&true)=true:=bq
  simp only[cR,Bool.and_eq_true,and_true] at aM
  have h0:=aM
  exact bN.question (.inr (.inr (.inr (.inl ⟨rfl,x0.toNat,by rw[toN h0 (by decide)],ltN h0,rfl⟩)))) (by show Vbedac.step s [[9,x0]]=_;rw[WS.st9,yh h0 h0];rfl) (cC (by decide +kernel)) (cQ (by decide +kernel)) (cJ (by decide +kernel)) (bT (by decide +kernel))
 | 10,h,aX,aT,bq=>by
  cases h
  have e:=aT rfl
  subst e
  obtain⟨x0,rfl⟩:∃x0,xs=[x0]:=by
   match xs,aX with
   | [x0],_=>exact⟨x0,rfl⟩
  have aM:(aV s.n "event" x0&&true)=true:=bq
  simp only[cR,Bool.and_eq_true,and_true] at aM
  have h0:=aM
  exact bN.question (.inr (.inr (.inr (.inr (.inl ⟨rfl,x0.toNat,by rw[toN h0 (by decide)],ltN h0,rfl⟩))))) (by show Vbedac.step s [[10,x0]]=_;rw[WS.Tf,yh h0 h0];rfl) (cC (by decide +kernel)) (cQ (by decide +kernel)) (cJ (by decide +kernel)) (bT (by decide +kernel))
 | 11,h,aX,aT,bq=>by
  cases h
  have e:xs=[]:=length_eq_zero_iff.mp aX
  subst e
  exact bN.question (.inr (.inr (.inr (.inr (.inr (.inl ⟨rfl,rfl⟩)))))) (by show Vbedac.step s [[11],row]=_;exact Qk) (cC (by decide +kernel)) (cQ (by decide +kernel)) (cJ (by decide +kernel)) (bT (by decide +kernel))
 | 12,h,aX,aT,bq=>by
  cases h
  have e:=aT rfl
  subst e
  obtain⟨x0,rfl⟩:∃x0,xs=[x0]:=by
   match xs,aX with
   | [x0],_=>exact⟨x0,rfl⟩
  have aM:(aV s.n "event" x0&&true)=true:=bq
  simp only[cR,Bool.and_eq_true,and_true] at aM
  have h0:=aM
  exact bN.question (.inr (.inr (.inr (.inr (.inr (.inr (.inl ⟨rfl,x0.toNat,by rw[toN h0 (by decide)],ltN h0,rfl⟩))))))) (by show Vbedac.step s [[12,x0]]=_;rw[WS.Tg,yh h0 h0];rfl) (cC (by decide +kernel)) (cQ (by decide +kernel)) (cJ (by decide +kernel)) (bT (by decide +kernel))
 | 13,h,aX,aT,bq=>by
  cases h
  have e:=aT rfl
  subst e
  obtain⟨x0,x1,rfl⟩:∃x0 x1,xs=[x0,x1]:=by
   match xs,aX with
   | [x0,x1],_=>exact⟨x0,x1,rfl⟩
  have aM:(aV s.n "event" x0&&(aV s.n "event" x1&&true))=true:=bq
  simp only[cR,Bool.and_eq_true,and_true] at aM
  obtain⟨h0,h1⟩:=aM
  exact bN.vY (.inl ⟨rfl,x0.toNat,x1.toNat,by rw[toN h0 (by decide),toN h1 (by decide)],ltN h0,ltN h1,rfl⟩) (by show Vbedac.step s [[13,x0,x1]]=_;rw[WS.Th,yh h0 h1];rfl) (cC (by decide +kernel)) (bW (by decide +kernel)) (cJ (by decide +kernel)) (bT (by decide +kernel))
 | 14,h,aX,aT,bq=>by
  cases h
  have e:=aT rfl
  subst e
  obtain⟨x0,rfl⟩:∃x0,xs=[x0]:=by
   match xs,aX with
   | [x0],_=>exact⟨x0,rfl⟩
  have aM:(aV s.n "key" x0&&true)=true:=bq
  simp only[lJ,Bool.and_eq_true,and_true] at aM
  have h0:=aM
  exact bN.vY (.inr (.inl ⟨rfl,x0.toNat,by rw[toN h0 (by decide)],rfl⟩)) (by show Vbedac.step s [[14,x0]]=_;rw[WS.Ti,h0,if_neg (by simp)];exact Jp (f:=y0 s)) (cC (by decide +kernel)) (bW (by decide +kernel)) (cJ (by decide +kernel)) (bT (by decide +kernel))
 | 15,h,aX,aT,bq=>by
  cases h
  have e:=aT rfl
  subst e
  obtain⟨x0,x1,x2,x3,rfl⟩:∃x0 x1 x2 x3,xs=[x0,x1,x2,x3]:=by
   match xs,aX with
   | [x0,x1,x2,x3],_=>exact⟨x0,x1,x2,x3,rfl⟩
  have aM:(aV s.n "event" x0&&(aV s.n "event" x1&&(aV s.n "span" x2&&(aV s.n "span" x3&&true))))=true:=bq
  simp only[cR,vX,Bool.and_eq_true,and_true] at aM
  obtain⟨h0,h1,h2,h3⟩:=aM
  have g0:=e9.mp h0
  have g1:=e9.mp h1
  exact bN.vY (.inr (.inr (.inl ⟨rfl,x0.toNat,x1.toNat,x2,x3,by rw[toN h0 (by decide),toN h1 (by decide)],ltN h0,ltN h1,rfl⟩))) (by show Vbedac.step s [[15,x0,x1,x2,x3]]=_;rw[WS.Tj,h0,h1,h2,h3,if_neg (by simp)];exact if_eq g0.1 g1.1) (cC (by decide +kernel)) (bW (by decide +kernel)) (cJ (by decide +kernel)) (bT (by decide +kernel))
 | 16,h,aX,aT,bq=>by
  cases h
  have e:=aT rfl
  subst e
  obtain⟨x0,rfl⟩:∃x0,xs=[x0]:=by
   match xs,aX with
   | [x0],_=>exact⟨x0,rfl⟩
  have aM:(aV s.n "key" x0&&true)=true:=bq
  simp only[lJ,Bool.and_eq_true,and_true] at aM
  have h0:=aM
  exact bN.vY (.inr (.inr (.inr (.inl ⟨rfl,x0.toNat,by rw[toN h0 (by decide)],rfl⟩)))) (by show Vbedac.step s [[16,x0]]=_;rw[WS.Tn,h0,if_neg (by simp)];exact Jp (f:=p8 s)) (cC (by decide +kernel)) (bW (by decide +kernel)) (cJ (by decide +kernel)) (bT (by decide +kernel))
 | 17,h,aX,aT,bq=>by
  cases h
  have e:=aT rfl
  subst e
  have e:xs=[]:=length_eq_zero_iff.mp aX
  subst e
  exact bN.vY (.inr (.inr (.inr (.inr (.inl ⟨rfl,rfl⟩))))) (by show Vbedac.step s [[17]]=_;rw[WS.st17];rfl) (cC (by decide +kernel)) (bW (by decide +kernel)) (cJ (by decide +kernel)) (bT (by decide +kernel))
 | 18,h,aX,aT,bq=>by
  cases h
  have e:=aT rfl
  subst e
  obtain⟨x0,x1,rfl⟩:∃x0 x1,xs=[x0,x1]:=by
   match xs,aX with
   | [x0,x1],_=>exact⟨x0,x1,rfl⟩
  have aM:(aV s.n "event" x0&&(aV s.n "event" x1&&true))=true:=bq
  simp only[cR,Bool.and_eq_true,and_true] at aM
  obtain⟨h0,h1⟩:=aM
  exact bN.vY (.inr (.inr (.inr (.inr (.inr (.inl ⟨rfl,x0.toNat,x1.toNat,by rw[toN h0 (by decide),toN h1 (by decide)],ltN h0,ltN h1,rfl⟩)))))) (by show Vbedac.step s [[18,x0,x1]]=_;rw[WS.To,yh h0 h1];rfl) (cC (by decide +kernel)) (bW (by decide +kernel)) (cJ (by decide +kernel)) (bT (by decide +kernel))
 | 19,h,aX,aT,bq=>by
  cases h
  have e:=aT rfl
  subst e
  obtain⟨x0,rfl⟩:∃x0,xs=[x0]:=by
   match xs,aX with
   | [x0],_=>exact⟨x0,rfl⟩
  have aM:(aV s.n "doubted" x0&&true)=true:=bq
  simp only[sE,Bool.and_eq_true,and_true] at aM
  have h0:=aM
  have g0:=e9.mp h0
  exact bN.doubt (.inl ⟨rfl,x0.toNat,by rw[toN h0 (by decide)],by omega,rfl⟩) (by show Vbedac.step s [[19,x0]]=_;rw[WS.Tp];exact Ql hW h0) (cC (by decide +kernel)) (bW (by decide +kernel)) (cQ (by decide +kernel)) (bT (by decide +kernel))
 | 20,h,aX,aT,bq=>by
  cases h
  have e:=aT rfl
  subst e
  obtain⟨x0,rfl⟩:∃x0,xs=[x0]:=by
   match xs,aX with
   | [x0],_=>exact⟨x0,rfl⟩
  have aM:(aV s.n "doubted" x0&&true)=true:=bq
  simp only[sE,Bool.and_eq_true,and_true] at aM
  have h0:=aM
  have g0:=e9.mp h0
  exact bN.doubt (.inr (.inl ⟨rfl,x0.toNat,by rw[toN h0 (by decide)],by omega,rfl⟩)) (by show Vbedac.step s [[20,x0]]=_;rw[WS.Tq];exact U5 h0) (cC (by decide +kernel)) (bW (by decide +kernel)) (cQ (by decide +kernel)) (bT (by decide +kernel))
 | 21,h,aX,aT,bq=>by
  cases h
  have e:=aT rfl
  subst e
  have e:xs=[]:=length_eq_zero_iff.mp aX
  subst e
  exact bN.doubt (.inr (.inr (.inl ⟨rfl,rfl⟩))) (by show Vbedac.step s [[21]]=_;rw[WS.st21];rfl) (cC (by decide +kernel)) (bW (by decide +kernel)) (cQ (by decide +kernel)) (bT (by decide +kernel))
 | 22,h,aX,aT,bq=>by
  cases h
  have e:=aT rfl
  subst e
  have e:xs=[]:=length_eq_zero_iff.mp aX
  subst e
  exact bN.vY (.inr (.inr (.inr (.inr (.inr (.inr (.inl ⟨rfl,rfl⟩))))))) (by show Vbedac.step s [[22]]=_;rw[WS.st22];rfl) (cC (by decide +kernel)) (bW (by decide +kernel)) (cJ (by decide +kernel)) (bT (by decide +kernel))
 | 23,h,aX,aT,bq=>by
  cases h
  obtain⟨x0,rfl⟩:∃x0,xs=[x0]:=by
   match xs,aX with
   | [x0],_=>exact⟨x0,rfl⟩
  have aM:(aV s.n "event" x0&&true)=true:=bq
  simp only[cR,Bool.and_eq_true,and_true] at aM
  have h0:=aM
  exact bN.report (.inl ⟨rfl,x0.toNat,by rw[toN h0 (by decide)],rfl⟩) (by show Vbedac.step s [[23,x0],row]=_;rw[WS.Tr,h0,if_neg (by simp)];exact R6 hW) (cC (by decide +kernel)) (bW (by decide +kernel)) (cQ (by decide +kernel)) (cJ (by decide +kernel))
 | 24,h,aX,aT,bq=>by
  cases h
  have e:=aT rfl
  subst e
  have e:xs=[]:=length_eq_zero_iff.mp aX
  subst e
  exact bN.report (.inr (.inl ⟨rfl,rfl⟩)) (by show Vbedac.step s [[24]]=_;rw[WS.st24];rfl) (cC (by decide +kernel)) (bW (by decide +kernel)) (cQ (by decide +kernel)) (cJ (by decide +kernel))
 | 25,h,aX,aT,bq=>by
  cases h
  have e:=aT rfl
  subst e
  obtain⟨x0,rfl⟩:∃x0,xs=[x0]:=by
   match xs,aX with
   | [x0],_=>exact⟨x0,rfl⟩
  have aM:(aV s.n "witness" x0&&true)=true:=bq
  simp only[ip,Bool.and_eq_true,and_true] at aM
  have h0:=aM
  exact bN.doubt (.inr (.inr (.inr (.inl ⟨rfl,x0.toNat,by rw[toN h0 (by decide)],rfl⟩)))) (by show Vbedac.step s [[25,x0]]=_;rw[WS.Ts,h0,if_neg (by simp)];exact Qm) (cC (by decide +kernel)) (bW (by decide +kernel)) (cQ (by decide +kernel)) (bT (by decide +kernel))
 | i+26,h,_,_,_=>by
  have:kY.length=26:=rfl
  have:=(List.getElem?_eq_some_iff.mp h).1
  omega
theorem Dt {s:State} {name:Str} {ks:List Str} {hr:Bool} {xs row:List Int}:∀(i:Nat),kY[i]?=some (name,ks,hr)->xs.length=ks.length->(hr=false->row=[])->y9 s.n ks xs=false->Vbedac.step s (tE (i:Int) hr xs row)=(s,[-1])
 | 0,h,aX,aT,bq=>by
  cases h
  obtain⟨x0,rfl⟩:∃x0,xs=[x0]:=by
   match xs,aX with
   | [x0],_=>exact⟨x0,rfl⟩
  have aM:(aV s.n "events" x0&&true)=false:=bq
  simp only[y_,Bool.and_true] at aM
  show Vbedac.step s [[0,x0]]=_
  rw[WS.st0]
  rw[aM,if_pos rfl];rfl
 | 1,h,aX,aT,bq=>by
  cases h
  obtain⟨x0,x1,x2,x3,x4,x5,rfl⟩:∃x0 x1 x2 x3 x4 x5,xs=[x0,x1,x2,x3,x4,x5]:=by
   match xs,aX with
   | [x0,x1,x2,x3,x4,x5],_=>exact⟨x0,x1,x2,x3,x4,x5,rfl⟩
  have aM:(aV s.n "key" x0&&(aV s.n "witness" x1&&(aV s.n "event" x2&&(aV s.n "event" x3&&(aV s.n "span" x4&&(aV s.n "span" x5&&true))))))=false:=bq
  simp only[lJ,ip,cR,vX,Bool.and_true] at aM
  show Vbedac.step s [[1,x0,x1,x2,x3,x4,x5]]=_
  rw[WS.QR]
  unfold Vbedac.say
  rw[aM,if_pos rfl];rfl
 | 2,h,aX,aT,bq=>by
  cases h
  obtain⟨x0,rfl⟩:∃x0,xs=[x0]:=by
   match xs,aX with
   | [x0],_=>exact⟨x0,rfl⟩
  have aM:(aV s.n "key" x0&&true)=false:=bq
  simp only[lJ,Bool.and_true] at aM
  show Vbedac.step s [[2,x0]]=_
  rw[WS.Hm]
  unfold Vbedac.turn
  rw[aM,if_pos rfl];rfl
 | 3,h,aX,aT,bq=>by
  cases h
  obtain⟨x0,rfl⟩:∃x0,xs=[x0]:=by
   match xs,aX with
   | [x0],_=>exact⟨x0,rfl⟩
  have aM:(aV s.n "key" x0&&true)=false:=bq
  simp only[lJ,Bool.and_true] at aM
  show Vbedac.step s [[3,x0]]=_
  rw[WS.Hn]
  unfold Vbedac.turn
  rw[aM,if_pos rfl];rfl
 | 4,h,aX,aT,bq=>by
  cases h
  obtain⟨x0,rfl⟩:∃x0,xs=[x0]:=by
   match xs,aX with
   | [x0],_=>exact⟨x0,rfl⟩
  have aM:(aV s.n "witness" x0&&true)=false:=bq
  simp only[ip,Bool.and_true] at aM
  show Vbedac.step s [[4,x0]]=_
  rw[WS.MK]
  unfold Vbedac.drop
  rw[aM,if_pos rfl];rfl
 | 5,h,aX,aT,bq=>by
  cases h
  obtain⟨x0,rfl⟩:∃x0,xs=[x0]:=by
   match xs,aX with
   | [x0],_=>exact⟨x0,rfl⟩
  have aM:(aV s.n "witness" x0&&true)=false:=bq
  simp only[ip,Bool.and_true] at aM
  show Vbedac.step s [[5,x0]]=_
  rw[WS.Dz]
  unfold Vbedac.drop
  rw[aM,if_pos rfl];rfl
 | 6,h,aX,aT,bq=>by
  cases h
  have e:xs=[]:=length_eq_zero_iff.mp aX
  subst e
  cases bq
 | 7,h,aX,aT,bq=>by
  cases h
  have e:xs=[]:=length_eq_zero_iff.mp aX
  subst e
  cases bq
 | 8,h,aX,aT,bq=>by
  cases h
  obtain⟨x0,x1,rfl⟩:∃x0 x1,xs=[x0,x1]:=by
   match xs,aX with
   | [x0,x1],_=>exact⟨x0,x1,rfl⟩
  have aM:(aV s.n "event" x0&&(aV s.n "event" x1&&true))=false:=bq
  simp only[cR,Bool.and_true] at aM
  show Vbedac.step s [[8,x0,x1]]=_
  rw[WS.st8]
  unfold Vbedac.two
  rw[aM,if_pos rfl];rfl
 | 9,h,aX,aT,bq=>by
  cases h
  obtain⟨x0,rfl⟩:∃x0,xs=[x0]:=by
   match xs,aX with
   | [x0],_=>exact⟨x0,rfl⟩
  have aM:(aV s.n "event" x0&&true)=false:=bq
  simp only[cR,Bool.and_true] at aM
  show Vbedac.step s [[9,x0]]=_
  rw[WS.st9]
  unfold Vbedac.two
  rw[aM,Bool.false_and,if_pos rfl];rfl
 | 10,h,aX,aT,bq=>by
  cases h
  obtain⟨x0,rfl⟩:∃x0,xs=[x0]:=by
   match xs,aX with
   | [x0],_=>exact⟨x0,rfl⟩
  have aM:(aV s.n "event" x0&&true)=false:=bq
  simp only[cR,Bool.and_true] at aM
  show Vbedac.step s [[10,x0]]=_
  rw[WS.Tf]
  unfold Vbedac.two
  rw[aM,Bool.false_and,if_pos rfl];rfl
 | 11,h,aX,aT,bq=>by
  cases h
  have e:xs=[]:=length_eq_zero_iff.mp aX
  subst e
  cases bq
 | 12,h,aX,aT,bq=>by
  cases h
  obtain⟨x0,rfl⟩:∃x0,xs=[x0]:=by
   match xs,aX with
   | [x0],_=>exact⟨x0,rfl⟩
  have aM:(aV s.n "event" x0&&true)=false:=bq
  simp only[cR,Bool.and_true] at aM
  show Vbedac.step s [[12,x0]]=_
  rw[WS.Tg]
  unfold Vbedac.two
  rw[aM,Bool.false_and,if_pos rfl];rfl
 | 13,h,aX,aT,bq=>by
  cases h
  obtain⟨x0,x1,rfl⟩:∃x0 x1,xs=[x0,x1]:=by
   match xs,aX with
   | [x0,x1],_=>exact⟨x0,x1,rfl⟩
  have aM:(aV s.n "event" x0&&(aV s.n "event" x1&&true))=false:=bq
  simp only[cR,Bool.and_true] at aM
  show Vbedac.step s [[13,x0,x1]]=_
  rw[WS.Th]
  unfold Vbedac.two
  rw[aM,if_pos rfl];rfl
 | 14,h,aX,aT,bq=>by
  cases h
  obtain⟨x0,rfl⟩:∃x0,xs=[x0]:=by
   match xs,aX with
   | [x0],_=>exact⟨x0,rfl⟩
  have aM:(aV s.n "key" x0&&true)=false:=bq
  simp only[lJ,Bool.and_true] at aM
  show Vbedac.step s [[14,x0]]=_
  rw[WS.Ti]
  rw[aM,if_pos rfl];rfl
 | 15,h,aX,aT,bq=>by
  cases h
  obtain⟨x0,x1,x2,x3,rfl⟩:∃x0 x1 x2 x3,xs=[x0,x1,x2,x3]:=by
   match xs,aX with
   | [x0,x1,x2,x3],_=>exact⟨x0,x1,x2,x3,rfl⟩
  have aM:(aV s.n "event" x0&&(aV s.n "event" x1&&(aV s.n "span" x2&&(aV s.n "span" x3&&true))))=false:=bq
  simp only[cR,vX,Bool.and_true] at aM
  show Vbedac.step s [[15,x0,x1,x2,x3]]=_
  rw[WS.Tj]
  rw[aM,if_pos rfl];rfl
 | 16,h,aX,aT,bq=>by
  cases h
  obtain⟨x0,rfl⟩:∃x0,xs=[x0]:=by
   match xs,aX with
   | [x0],_=>exact⟨x0,rfl⟩
  have aM:(aV s.n "key" x0&&true)=false:=bq
  simp only[lJ,Bool.and_true] at aM
  show Vbedac.step s [[16,x0]]=_
  rw[WS.Tn]
  rw[aM,if_pos rfl];rfl
 | 17,h,aX,aT,bq=>by
  cases h
  have e:xs=[]:=length_eq_zero_iff.mp aX
  subst e
  cases bq
 | 18,h,aX,aT,bq=>by
  cases h
  obtain⟨x0,x1,rfl⟩:∃x0 x1,xs=[x0,x1]:=by
   match xs,aX with
   | [x0,x1],_=>exact⟨x0,x1,rfl⟩
  have aM:(aV s.n "event" x0&&(aV s.n "event" x1&&true))=false:=bq
  simp only[cR,Bool.and_true] at aM
  show Vbedac.step s [[18,x0,x1]]=_
  rw[WS.To]
  unfold Vbedac.two
  rw[aM,if_pos rfl];rfl
 | 19,h,aX,aT,bq=>by
  cases h
  obtain⟨x0,rfl⟩:∃x0,xs=[x0]:=by
   match xs,aX with
   | [x0],_=>exact⟨x0,rfl⟩
  have aM:(aV s.n "doubted" x0&&true)=false:=bq
  simp only[sE,Bool.and_true] at aM
  show Vbedac.step s [[19,x0]]=_
  rw[WS.Tp]
  unfold Vbedac.asked3
  rw[aM,if_pos rfl];rfl
 | 20,h,aX,aT,bq=>by
  cases h
  obtain⟨x0,rfl⟩:∃x0,xs=[x0]:=by
   match xs,aX with
   | [x0],_=>exact⟨x0,rfl⟩
  have aM:(aV s.n "doubted" x0&&true)=false:=bq
  simp only[sE,Bool.and_true] at aM
  show Vbedac.step s [[20,x0]]=_
  rw[WS.Tq]
  unfold Vbedac.asked3
  rw[aM,if_pos rfl];rfl
 | 21,h,aX,aT,bq=>by
  cases h
  have e:xs=[]:=length_eq_zero_iff.mp aX
  subst e
  cases bq
 | 22,h,aX,aT,bq=>by
  cases h
  have e:xs=[]:=length_eq_zero_iff.mp aX
  subst e
  cases bq
 | 23,h,aX,aT,bq=>by
  cases h
  obtain⟨x0,rfl⟩:∃x0,xs=[x0]:=by
   match xs,aX with
   | [x0],_=>exact⟨x0,rfl⟩
  have aM:(aV s.n "event" x0&&true)=false:=bq
  simp only[cR,Bool.and_true] at aM
  show Vbedac.step s [[23,x0],row]=_
  rw[WS.Tr]
  rw[aM,if_pos rfl];rfl
 | 24,h,aX,aT,bq=>by
  cases h
  have e:xs=[]:=length_eq_zero_iff.mp aX
  subst e
  cases bq
 | 25,h,aX,aT,bq=>by
  cases h
  obtain⟨x0,rfl⟩:∃x0,xs=[x0]:=by
   match xs,aX with
   | [x0],_=>exact⟨x0,rfl⟩
  have aM:(aV s.n "witness" x0&&true)=false:=bq
  simp only[ip,Bool.and_true] at aM
  show Vbedac.step s [[25,x0]]=_
  rw[WS.Ts]
  rw[aM,if_pos rfl];rfl
 | i+26,h,_,_,_=>by
  have:kY.length=26:=rfl
  have:=(List.getElem?_eq_some_iff.mp h).1
  omega
theorem iq {n:Nat} {es:List Edge} {l:List Int} {B:Nat} (h:l.length<=B) (h1:1<=B):(ef n es l).length<=B:=by
 unfold ef
 split
 ·exact h
 ·exact h1
theorem pairs_len (l:List Edge):(Vbedac.pairs l).length=1+2*l.length:=by
 unfold Vbedac.pairs
 rw[length_cons,q_];omega
theorem Jq {n:Nat} {es:List Edge} {i:Nat} {x:Int} {l:List Edge} (h:Vbedac.ring n es=some (i,x,l)):l.length<=n:=by
 have:WS.aQ n es=l:=by unfold WS.aQ;rw[h]
 rw[<- this];exact lF
theorem Jr {n:Nat} {es:List Edge} (hn:n<=24):(nN n es).length<=1000:=by
 unfold nN
 cases c:Vbedac.ring n es with
 | none=>simp
 | some r=>
  obtain⟨i,x,l⟩:=r
  have:=Jq c
  show (1::Vbedac.nat i::x::Vbedac.pairs l).length<=1000
  rw[length_cons,length_cons,length_cons,pairs_len];omega
theorem Bk {n:Nat} {es:List Edge} {a b:Nat} {x:Int}:∀(f k:Nat) {r:Nat},Vbedac.fewest n es a b x f k=some r->r<=k+f
 | 0,k,r,h=>by cases h
 | f+1,k,r,h=>by
  unfold Vbedac.fewest at h
  split at h
  ·split at h
   ·cases h;omega
   ·have:=Bk f (k+1) h;omega
  ·have:=Bk f (k+1) h;omega
theorem JS {n:Nat} {es:List Edge} {a b:Nat} (hn:n<=24):(u7 n es a b).length<=1000:=by
 unfold u7 Vbedac.why
 cases Vbedac.reach n es a b with
 | none=>simp
 | some x=>
  dsimp only
  cases c:Vbedac.fewest n es a b x (n+1) 0 with
  | none=>simp
  | some k=>
   have h1:=Bk _ _ c
   have h2:=yY (n:=n) (es:=es) (to:=b) k a x
   show (1::x::Vbedac.pairs (Vbedac.wayOf n es b k a x)).length<=1000
   rw[length_cons,length_cons,pairs_len];omega
theorem L8 (n:Nat):(Vbedac.events n).length=n:=by simp[Vbedac.events]
theorem Oy {n:Nat} {f:Nat->Option Int} (hn:n<=24):((Vbedac.events n).flatMap fun i=>Vbedac.open_ (f i)).length<=1000:=by
 rw[pG fun x=>di _,L8];omega
theorem R7 {n:Nat} {es:List Edge} (hn:n<=24):(x8 n es).length<=10000:=by
 unfold x8
 have:=mR (f:=yZ) (B:=48) (l:=Vbedac.web n es) fun r hr=>by
  unfold yZ
  rw[pG di,BN hr];omega
 rw[rb] at this
 omega
theorem U6 {n:Nat} {es:List Edge} {m:List Nat} (h:m∈Vbedac.classesOf n (Vbedac.web n es)):m.length<=n:=by
 rw[WS.vn] at h
 obtain⟨f,_,rfl⟩:=mem_map.mp h
 unfold WS.cls Vbedac.events
 have:=length_filter_le (fun j=>j==f||Vbedac.rigid (Vbedac.web n es) f j) (List.range n)
 rw[List.length_range] at this;exact this
theorem L9 {n:Nat} {es:List Edge} (hn:n<=24):(rf n es).length<=10000:=by
 unfold rf
 have:=mR (f:=i9 n es) (B:=49) (l:=Vbedac.classesOf n (Vbedac.web n es)) fun m hm=>by
  have:=U6 hm
  unfold i9 Vbedac.listed
  rw[length_append,length_cons,length_map,length_map];omega
 have h2:=EA (n:=n) (es:=es)
 rw[length_cons];omega
theorem Gw {s:State} {k:Nat} {f:Said->List Int} (h:∀x,(f x).length<=10000):(byKey s k f).length<=10000:=by
 unfold byKey
 split
 ·simp
 ·split
  ·simp
  ·exact iq (h _) (by omega)
theorem L_ {s:State} {a b:Nat} {lo hi:Int}:(rh s a b lo hi).length<=10000:=by
 unfold rh
 split
 ·simp
 ·split
  ·simp
  ·exact iq (by simp) (by omega)
theorem Oz {n:Nat} {es:List Edge} {a:Nat}:(Vbedac.shown n es a).length=n:=by
 unfold Vbedac.shown
 dsimp only
 rw[length_map,fN]
theorem OA {n:Nat} {l:List Said} {t:List Int}:(nO n l t).length<=10000:=by
 unfold nO
 split
 ·simp
 ·split <;> simp
theorem Js {s:State} (hW:WS.Well s) {name:Str} {xs row l:List Int} (h:i4 s name xs row (some l)):l.length<=10000:=by
 have hn:=hW.D1
 rcases h with ⟨_,e⟩|⟨_,e⟩|⟨_,a,b,_,_,_,e⟩|⟨_,o,_,_,e⟩|⟨_,o,_,_,e⟩|⟨_,e⟩|⟨_,o,_,_,e⟩|⟨_,e⟩
 ·cases e;simp
 ·cases e;have:=Jr (es:=Vbedac.edges s) hn;omega
 ·cases e;exact iq (by rw[length_append,di,di];omega) (by omega)
 ·cases e;exact iq (by have:=Oy (f:=fun i=>Vbedac.neg (Vbedac.reach s.n (Vbedac.edges s) i o)) hn;omega) (by omega)
 ·cases e;exact iq (by rw[pG di,fN];omega) (by omega)
 ·cases e;exact OA
 ·cases e;exact iq (by rw[Oz];omega) (by omega)
 ·cases e
theorem Ma {s:State} (hW:WS.Well s) {name:Str} {xs l:List Int} (h:mj s name xs (some l)):l.length<=10000:=by
 have hn:=hW.D1
 rcases h with ⟨_,a,b,_,_,_,e⟩|⟨_,n,_,e⟩|⟨_,a,b,lo,hi,_,_,_,e⟩|⟨_,n,_,e⟩|⟨_,e⟩|⟨_,a,b,_,_,_,e⟩|⟨_,e⟩|⟨_,e⟩
 ·cases e;exact iq (by have:=JS (es:=Vbedac.edges s) (a:=a) (b:=b) hn;omega) (by omega)
 ·cases e;exact Gw fun x=>by unfold y0;simp
 ·cases e;exact L_
 ·cases e;exact Gw fun x=>by unfold p8;simp
 ·cases e;exact iq (L9 hn) (by omega)
 ·cases e;exact iq (by unfold tx;simp) (by omega)
 ·cases e;exact iq (R7 hn) (by omega)
 ·cases e
theorem Lb {n:Nat} {nm:Said->Nat} {l:List Said} {m:Nat} (hm:m<=3):(j8 n nm l m).length<=10000:=by
 unfold j8
 split
 ·simp
 ·unfold Vbedac.foundPart
  cases c:pH n nm l m with
  | none=>simp
  | some ch=>
   have:=tZ _ _ c
   show (0::Vbedac.listed ch).length<=10000
   unfold Vbedac.listed
   rw[length_cons,length_cons,length_map];omega
theorem Lc {n:Nat}:∀(f:Nat) (l:List Said),(Vbedac.peel n f l).length<=f/\∀ks,ks∈Vbedac.peel n f l->ks.length<=n
 | 0,l=>⟨Nat.le_refl _,by intro ks h;cases h⟩
 | f+1,l=>by
  unfold Vbedac.peel
  cases c:Vbedac.ring n (Vbedac.edgesIn l) with
  | none=>exact⟨Nat.zero_le _,by intro ks h;cases h⟩
  | some r=>
   obtain⟨i,x,wy⟩:=r
   dsimp only
   obtain⟨h1,h2⟩:=Lc (n:=n) f (Vbedac.without l (Vbedac.sortedKeys (wy.map fun e=>e.key)))
   refine⟨by rw[length_cons];omega,fun ks h=>?_⟩
   rcases mem_cons.mp h with e | h
   ·rw[e]
    have a:=tY (wy.map fun e=>e.key)
    rw[length_map] at a
    have:=Jq c
    omega
   ·exact h2 ks h
theorem OB {s:State} (hW:WS.Well s) {name:Str} {xs l:List Int} (h:oF s name xs (some l)):l.length<=10000:=by
 have hn:=hW.D1
 rcases h with ⟨_,m,_,hm,e⟩|⟨_,m,_,hm,e⟩|⟨_,e⟩|⟨_,v,_,e⟩|⟨_,e⟩
 ·cases e;exact Lb hm
 ·cases e;exact Lb hm
 ·cases e
  obtain⟨h1,h2⟩:=Lc (n:=s.n) 100 (Vbedac.standing s)
  have:=mR (f:=Vbedac.listed) (B:=25) (l:=Vbedac.peel s.n 100 (Vbedac.standing s)) fun ks hk=>by
   have:=h2 ks hk
   unfold Vbedac.listed
   rw[length_cons,length_map];omega
  unfold Dn
  rw[length_cons];omega
 ·cases e
  unfold p_
  split <;> simp
 ·cases e
theorem Mb {s:State} (hW:WS.Well s) {name:Str} {xs row l:List Int} (h:ml s name xs row (some l)):l.length<=10000:=by
 have hf:=hW.xx
 rcases h with ⟨_,a,_,e⟩|⟨_,e⟩|⟨_,e⟩
 ·cases e
  unfold sk
  split
  ·simp
  ·split <;> simp
 ·cases e
  have:=mR (f:=Vbedac.shownSaid) (B:=7) (l:=s.said) fun x _=>Nat.le_refl 7
  rw[length_cons,length_cons];omega
 ·cases e
theorem Mc {s:State} {name:Str} {xs:List Int} {r:State×List Int} (h:mi s name xs (some r)):r.2.length<=10000:=by
 have hs:∀x,(ph s x).2.length<=10000:=by intro x;unfold ph;split <;> simp
 have ho:∀n v,(oneAt s n v).2.length<=10000:=by
  intro n v;unfold oneAt
  split
  ·simp
  ·split <;> simp
 have ha:∀n v,(allAt s n v).2.length<=10000:=by intro n v;unfold allAt;split <;> simp
 rcases h with ⟨_,n,_,e⟩|⟨_,x,_,_,e⟩|⟨_,n,_,e⟩|⟨_,n,_,e⟩|⟨_,n,_,e⟩|⟨_,n,_,e⟩|⟨_,e⟩
 ·cases e;simp
 ·cases e;exact hs x
 ·cases e;exact ho _ _
 ·cases e;exact ho _ _
 ·cases e;exact ha _ _
 ·cases e;exact ha _ _
 ·cases e
theorem Qn {s:State} (hW:WS.Well s) {name:Str} {xs row:List Int} {c:List (List Int)} (h:bN s name xs row c):(Vbedac.step s c).2.length<=10000:=by
 obtain⟨r1,r2,r3,r4,r5,h1,h2,h3,h4,h5,h⟩:=h
 rcases h with rfl | ⟨rfl,l,e,h⟩
 ·exact Mc h1
 ·rw[e]
  rcases h with rfl | ⟨rfl,rfl | ⟨rfl,rfl | ⟨rfl,rfl⟩⟩⟩
  ·exact Js hW h2
  ·exact Ma hW h3
  ·exact OB hW h4
  ·exact Mb hW h5
theorem Md {i:Nat} {name:Str} {ks:List Str} {hr:Bool} (h:kY[i]?=some (name,ks,hr)):∀k,k∈ks->Bj k:=by
 have:∀f,f∈kY->f.2.1.all (fun k=>k == "events" || k == "key" || k == "witness" || k == "event" || k == "span" || k == "doubted")=true:=by decide +kernel
 have h1:=this _ (mem_of_getElem? h)
 intro k hk
 have:=all_eq_true.mp h1 k hk
 simp only[Bool.or_eq_true,beq_iff_eq] at this
 unfold Bj
 rcases this with ((((a | a) | a) | a) | a) | a
 ·exact .inl a
 ·exact .inr (.inl a)
 ·exact .inr (.inr (.inl a))
 ·exact .inr (.inr (.inr (.inl a)))
 ·exact .inr (.inr (.inr (.inr (.inl a))))
 ·exact .inr (.inr (.inr (.inr (.inr a))))
theorem OC {s:State} (hW:WS.Well s) {i:Nat} {name:Str} {ks:List Str} {hr:Bool} {xs row:List Int} (hf:kY[i]?=some (name,ks,hr)) (aX:xs.length=ks.length) (aT:hr=false->row=[]):WS.Well (Vbedac.step s (tE (i:Int) hr xs row)).1:=by
 cases q:y9 s.n ks xs with
 | false=>rw[Dt i hf aX aT q];exact hW
 | true=>
  obtain⟨r1,r2,r3,r4,r5,h1,_,_,_,_,h⟩:=FD hW i hf aX aT q
  rcases h with rfl | ⟨rfl,l,e,h⟩
  ·rcases h1 with ⟨rfl,n,rfl,e⟩|⟨rfl,x,ho,rfl,e⟩|⟨_,n,_,e⟩|⟨_,n,_,e⟩|⟨_,n,_,e⟩|⟨_,n,_,e⟩|⟨_,e⟩
   ·have hk:ks=(["events"]:List Str):=by
     have:∀f,f∈kY->(f.1 != "begin" || f.2.1==(["events"]:List Str))=true:=by decide +kernel
     have:=this _ (mem_of_getElem? hf)
     simpa using this
    subst hk
    have aM:(aV s.n "events" (n:Int)&&true)=true:=q
    rw[y_,Bool.and_true,e9] at aM
    injection e with e
    rw[e]
    exact⟨by show 2<=n;omega,by show n<=24;omega,by simp,.nil,(by intro x h;cases h),(by intro x h;cases h),(by intro x h;cases h)⟩
   ·have hk:ks=(["key","witness","event","event","span","span"]:List Str):=by
     have:∀f,f∈kY->(f.1 != "say" || f.2.1==(["key","witness","event","event","span","span"]:List Str))=true:=by decide +kernel
     have:=this _ (mem_of_getElem? hf)
     simpa using this
    subst hk
    have aM:(aV s.n "key" (x.key:Int)&&(aV s.n "witness" (x.who:Int)&&(aV s.n "event" (x.a:Int)&&(aV s.n "event" (x.b:Int)&&(aV s.n "span" x.lo&&(aV s.n "span" x.hi&&true))))))=true:=q
    simp only[lJ,ip,cR,vX,Bool.and_eq_true,and_true] at aM
    obtain⟨h0,h1,h2,h3,h4,h5⟩:=aM
    have g0:=e9.mp h0
    have g2:=e9.mp h2
    have g3:=e9.mp h3
    have g4:=e9.mp h4
    have g5:=e9.mp h5
    injection e with e
    rw[e]
    exact Qj hW (by omega) (by omega) (by omega) ⟨g4.1,g4.2,g5.1,g5.2⟩
   ·injection e with e;rw[e];exact Jn hW _ _
   ·injection e with e;rw[e];exact Jn hW _ _
   ·injection e with e;rw[e];exact Jo hW _ _
   ·injection e with e;rw[e];exact Jo hW _ _
   ·cases e
  ·rw[e];exact hW
theorem R8 {s:State} (hW:WS.Well s) {i:Nat} {name:Str} {ks:List Str} {hr:Bool} {xs row:List Int} (hf:kY[i]?=some (name,ks,hr)) (aX:xs.length=ks.length) (aT:hr=false->row=[]):(Vbedac.step s (tE (i:Int) hr xs row)).2.length<=10000:=by
 cases q:y9 s.n ks xs with
 | false=>rw[Dt i hf aX aT q];simp
 | true=>exact Qn hW (FD hW i hf aX aT q)
def kL:State->List (List (List Int))->State
 | s,[]=>s
 | s,c::r=>kL (Vbedac.step s c).1 r
theorem EM (c:List (List Int)):∀(s:State) (l:List (List (List Int))),kL s (l++[c])=(Vbedac.step (kL s l) c).1
 | s,[]=>rfl
 | s,d::l=>EM c _ l
theorem CF (c:List (List Int)):∀(s:State) (l:List (List (List Int))),PyFlat.played Vbedac.step s (l++[c])=PyFlat.played Vbedac.step s l++[(Vbedac.step (kL s l) c).2]
 | s,[]=>rfl
 | s,d::l=>congrArg (fun z=>(Vbedac.step s d).2::z) (CF c _ l)
theorem OD (l:List (List Int)) (x:List Int):PyFlat.told (l++[x])=PyFlat.told l++((x.length:Int)::x):=by
 unfold PyFlat.told
 rw[List.flatMap_append]
 simp
theorem bR.updL {A:aW} {H:Hp} {k d q:Addr} {s:State} {ad:Nat->Addr} {ks:List Said} {xs:List V} {o:HO} (h:bR A H k d s ad ks) (hq:H q=some (.lst xs)):bR A (upd H q o) k d s ad ks:=by
 obtain⟨⟨dx,ob⟩,dc,pm,st,inj⟩:=h
 refine⟨⟨dx,?_⟩,?_,pm,fun x hx=>?_,inj⟩
 ·rw[aw (dh ob hq (by intro z;cases z))];exact ob
 ·rw[aw (dh dc hq (by intro z;cases z))];exact dc
 ·obtain⟨da,ha⟩:=st x hx
  exact⟨da,by rw[aw (dh ha hq (by intro z;cases z))];exact ha⟩
def FE (A:aW):Sp:=fun vs H Q _=>∃(k d c:Addr) (s:State) (ad:Nat->Addr) (ks:List Said) (name:Str) (kinds:List Str) (hr:Bool) (i:Nat) (xs row:List Int),vs=[.ref k,.ref c]/\bR A H k d s ad ks/\WS.Well s/\CallAt A H c name kinds xs row/\kY[i]?=some (name,kinds,hr)/\xs.length=kinds.length/\(hr=false->row=[])/\row.length<=100000/\Ends A H k (Vbedac.step s (tE (i:Int) hr xs row)) Q
theorem jn:aJ ["kept","call","answer"] ["kept","call"] (ay tP):=by refine⟨rfl,rfl,rfl,?_,rfl,?_,?_⟩ <;> decide +kernel
theorem FF (T:Txt K mg A):aY P w K mg base bF 10 A.j6 A.jk ["kept","call"] (FE A):=by
 refine T.fL.ok jn (fun vs H Q E h=>?_) (fun bg Ar outer s H vs Q E hr h=>?_)
 ·obtain⟨k,d,c,s,ad,ks,name,kinds,hw,i,xs,row,rfl,_⟩:=h
  rfl
 ·obtain⟨k,d,c,st,ad,ks,name,kinds,hw,i,xs,row,rfl,hK,hW,hC,hf,aX,aT,m6,kk⟩:=h
  obtain⟨dx,br⟩:=hK.ob
  obtain⟨dc,lk,ln,lr,hc,UY,hn,uo⟩:=id hC
  refine⟨_,(ae (aP (kZ (fz (aA (wb T) (hr.mono (by decide:3<=9)) rfl T.o4 T.bV.kp T.oZ .nil aF (aa (pv 1) (aa (aD (pv 0) rfl) ag))))) (ao (ax (aR (aa (bU (v:=.int (-1)) rfl T.jl ⟨_,rfl⟩) ag)))) aI)
   (ae (aG (i:=2) jn.nd rfl (Or.inl rfl) (aA (C_ T) (hr.mono (by decide:4<=9)) rfl T.wx T.d7.kp T.wu .nil aF (aa (pv 0) (aa (aD (pv 1) rfl) (aa (aD (pv 1) rfl) ag)))))
   (ae (aP (d3 (gR (pv 2))) (ao (aG (i:=2) jn.nd rfl (Or.inl rfl) (aA (A4 T) (hr.mono (by decide:6<=9)) rfl T.uc T.cY.kp T.ub .nil aF (aa (pv 0) (aa (pv 1) ag))))) aI)
   (ae (aP (d3 (gR (pv 2))) (ao (aG (i:=2) jn.nd rfl (Or.inl rfl) (aA (B3 T) (hr.mono (by decide:7<=9)) rfl T.vJ T.dF.kp T.vI .nil aF (aa (pv 0) (aa (pv 1) ag))))) aI)
   (ae (aP (d3 (gR (pv 2))) (ao (aG (i:=2) jn.nd rfl (Or.inl rfl) (aA (EK T) (hr.mono (by decide:9<=9)) rfl T.xP T.eW.kp T.xO .nil aF (aa (pv 0) (aa (pv 1) ag))))) aI)
   (ae (aP (d3 (gR (pv 2))) (ao (aG (i:=2) jn.nd rfl (Or.inl rfl) (aA (Dr T) (hr.mono (by decide:4<=9)) rfl T.wA T.d8.kp T.wz .nil aF (aa (pv 0) (aa (pv 1) ag))))) aI)
   (ao (ax (pv 2))))))))),?_⟩
  refine⟨_,rfl,_,rfl,k,_,_,_,_,rfl,br,T.ba,T.cn,rfl,c,st.n,name,kinds,xs,row,rfl,hC,aX,Jj ⟨i,rfl,hf⟩,Md hf,?_⟩
  cases q:y9 st.n kinds xs with
  | false=>
   rw[Dt i hf aX aT q] at kk
   refine⟨_,rfl,aS ?_⟩
   refine⟨zl1,fun p hp=>?_⟩
   exact kk.same hK (aq.new hp) hp ah
  | true=>
   obtain⟨r1,r2,r3,r4,r5,h1,h2,h3,h4,h5,hs⟩:=FD hW i hf aX aT q
   refine⟨_,rfl,aZ ?_⟩
   refine⟨_,rfl,_,rfl,c,_,_,_,_,rfl,hc,T.az,T.au,rfl,_,rfl,c,_,_,_,_,rfl,hc,T.az,T.bo,rfl,k,d,ln,st,ad,ks,name,xs,r1,rfl,hK,hW,hn,h1,?_,?_⟩
   ·rintro r' rfl H1 p1 d1 ad1 QT ID m1 A8 t8
    rcases hs with hs | ⟨hs,_⟩
    ·injection hs with hs
     subst hs
     refine⟨_,rfl,_,rfl,aZ ?_⟩
     refine⟨_,rfl,_,rfl,aZ ?_⟩
     refine⟨_,rfl,_,rfl,aZ ?_⟩
     refine⟨_,rfl,_,rfl,aZ ?_⟩
     exact⟨_,rfl,kk H1 p1 d1 ad1 QT ID m1 A8 t8⟩
    ·cases hs
   ·rintro rfl
    rcases hs with hs | ⟨_,l,e,hs⟩
    ·cases hs
    rw[e] at kk
    refine⟨_,rfl,_,rfl,aS ?_⟩
    refine⟨_,rfl,_,rfl,k,d,c,st,ad,ks,name,kinds,xs,row,r2,rfl,hK,hW,hC,h2,?_,?_⟩
    ·rintro l2 rfl H1 p1 s1 A8 t8
     rcases hs with hs | ⟨hs,_⟩
     ·injection hs with hs
      subst hs
      refine⟨_,rfl,_,rfl,aZ ?_⟩
      refine⟨_,rfl,_,rfl,aZ ?_⟩
      refine⟨_,rfl,_,rfl,aZ ?_⟩
      exact⟨_,rfl,kk.same hK s1 A8 t8⟩
     ·cases hs
    ·rintro rfl H1 s1
     rcases hs with hs | ⟨_,hs⟩
     ·cases hs
     refine⟨_,rfl,_,rfl,aS ?_⟩
     refine⟨_,rfl,_,rfl,k,d,c,st,ad,ks,name,kinds,xs,row,r3,rfl,hK.same s1,hW,hC.same s1,h3,?_,?_⟩
     ·rintro l2 rfl H2 p1 s2 A8 t8
      rcases hs with hs | ⟨hs,_⟩
      ·injection hs with hs
       subst hs
       refine⟨_,rfl,_,rfl,aZ ?_⟩
       refine⟨_,rfl,_,rfl,aZ ?_⟩
       exact⟨_,rfl,kk.same hK (s1.trans s2) (s1.free A8) t8⟩
      ·cases hs
     ·rintro rfl H2 s2
      rcases hs with hs | ⟨_,hs⟩
      ·cases hs
      have yc:=s1.trans s2
      refine⟨_,rfl,_,rfl,aS ?_⟩
      refine⟨_,rfl,_,rfl,k,d,c,st,ad,ks,name,kinds,xs,row,r4,rfl,hK.same yc,hW,hC.same yc,h4,?_,?_⟩
      ·rintro l2 rfl H3 p1 s3 A8 t8
       rcases hs with hs | ⟨hs,_⟩
       ·injection hs with hs
        subst hs
        refine⟨_,rfl,_,rfl,aZ ?_⟩
        exact⟨_,rfl,kk.same hK (yc.trans s3) (yc.free A8) t8⟩
       ·cases hs
      ·rintro rfl
       rcases hs with hs | ⟨_,hs⟩
       ·cases hs
       refine⟨_,rfl,_,rfl,aS ?_⟩
       refine⟨_,rfl,_,rfl,k,d,c,st,ad,ks,name,kinds,xs,row,r5,rfl,hK.same yc,hW,hC.same yc,m6,h5,?_,?_⟩
       ·rintro l2 rfl H3 p1 s3 A8 t8
        injection hs with hs
        subst hs
        exact⟨_,rfl,kk.same hK (yc.trans s3) (yc.free A8) t8⟩
       ·rintro rfl
        cases hs
def Jt (K:W.Frag):Sp:=fun vs H Q _=>∃(a:Addr) (ns:List Int),vs=[.ref a]/\aE K H a (ns.map V.int)/\PyVbedac.answers_asked ns=true/\ns.length<=17000/\∀(H':Hp) (p:Addr),H' p=some (.lst ((PyVbedac.answers ns).map V.int))->Q (.ref p) H'
def Me (K:W.Frag) (A:aW):Sp:=Jt K
theorem rm:aJ ["calls","kept","told","call","answer"] ["calls"] (ay Av):=by refine⟨rfl,rfl,rfl,?_,rfl,?_,?_⟩ <;> decide +kernel
theorem Mf (T:Txt K mg A):aY P w K mg base bF 11 A.kg A.l8 ["calls"] (Me K A):=by
 refine T.kH.ok rm (fun vs H Q E h=>?_) (fun bg Ar outer s H vs Q E hr h=>?_)
 ·obtain⟨a,ns,rfl,_⟩:=h
  rfl
 ·obtain⟨a,ns,rfl,hS,Bl,Ge,kk⟩:=h
  refine⟨_,(ae (aG (i:=1) rm.nd rfl (Or.inl rfl) (OO T.xM (IC T) (hr.mono (by decide:2<=10)) rfl T.NB T.Cn .nil aF))
   (ae (aG (i:=2) rm.nd rfl (Or.inl rfl) (aR ag))
   (ae (cq PassesOwn.never rfl (bz (aA (G2 T) (hr.mono (by decide:4<=10)) rfl T.AM T.gy.kp T.AL .nil aF (aa (pv 0) ag))) (a6 (i:=3) rm.nd rfl (Or.inl rfl))
    (ae (aG (i:=4) rm.nd rfl (Or.inl rfl) (aA (FF T) (hr.mono (by decide:10<=10)) rfl T.zz T.fL.kp T.zy .nil aF (aa (pv 1) (aa (pv 3) ag))))
   (ae (cv (fG PySem.F.plainAttrs_list PySem.F.slot_list_append PySem.F.type_list_append dn (pv 2) (aa (bX bx (by rfl) T.d9 PySem.boot_len (aa (pv 4) ag)) ag)))
   (ao (cv (fG PySem.F.plainAttrs_list PySem.F.slot_list_extend PySem.F.type_list_extend lL (pv 2) (aa (pv 4) ag)))))))
   (ao (ax (pv 2)))))),?_⟩
  intro k dk n1 m1 e1
  refine⟨k,dk,rfl,ah,fun H1 d ad ID b1=>⟨rfl,?_⟩⟩
  have Cc:aq H H1:=aq.made n1 m1 b1
  obtain⟨cs,Hs,oV⟩:∃cs,PyFlat.calls PyVbedac.shape ns.length ns=some cs/\cs.length<=200:=by
   unfold PyVbedac.answers_asked at Bl
   rw[WS.HN] at Bl
   cases c:PyFlat.calls PyVbedac.shape ns.length ns with
   | none=>rw[c] at Bl;cases Bl
   | some cs=>
    rw[c] at Bl
    have:=(Bool.and_eq_true_iff.mp Bl).1
    exact⟨cs,rfl,of_decide_eq_true this⟩
  have hans:PyVbedac.answers ns=PyFlat.told (PyFlat.played Vbedac.step Vbedac.start cs):=by
   unfold PyVbedac.answers
   rw[WS.HN,Hs]
   rfl
  rw[hans] at kk
  refine⟨zl0,fun q hq=>?_⟩
  have t7:aq H1 (upd H1 q (.lst [])):=aq.new hq
  have oH:upd H1 q (.lst []) q=some (.lst []):=ah
  refine⟨_,rfl,a,ns,cs,rfl,(Cc.trans t7).seq hS,Hs,Ge,fun H3 p as MI Jc hpn hA=>?_⟩
  have wF:p≠q:=fun z=>by rw[z,oH] at hpn;cases hpn
  have ee:H3 q=some (.lst []):=MI _ _ oH
  refine⟨p,rfl,⟨_,aE.of Jc⟩,ck (K:=K) (a:=p) (xs:=as.map V.ref) (fun i σ H'=>∃v3 v4 d' uk ff,σ=[some (.ref a),some (.ref k),some (.ref q),v3,v4]/\bR A H' k d' (kL Vbedac.start (cs.take i)) uk ff/\WS.Well (kL Vbedac.start (cs.take i))/\(∀b o,b≠q->H3 b=some o->Other A o->H' b=some o)/\cH H' q (PyFlat.told (PyFlat.played Vbedac.step Vbedac.start (cs.take i)))/\(PyFlat.told (PyFlat.played Vbedac.step Vbedac.start (cs.take i))).length<=10001*i)
   ⟨none,none,d,ad,[],rfl,ID.same (t7.trans MI),WS.Lx,fun b o _ h _=>h,ee,Nat.le_refl _⟩ (fun i σ H' _ ⟨_,_,_,_,_,_,_,_,m,_⟩=>aE.of (m _ _ wF Jc nM)) ?_ ?_⟩
  ·rintro i y σ H' hi ⟨v3,v4,d',uk,ff,rfl,Cz,KZ,m,rn,hlen⟩
   obtain⟨b,hb,rfl⟩:=bh hi
   obtain⟨c,hc,pl,name,kinds,hw,xs,row,dc,lk,ln,lr,⟨j,rfl,hf⟩,aX,aT,MJ,m6,hN⟩:=hA.get hb
   have fq:∀x,upd H1 q (.lst []) x=none->x≠q:=fun x hx z=>by rw[z,oH] at hx;cases hx
   have hC:CallAt A H' b name kinds xs row:=⟨dc,lk,ln,lr,m _ _ (fq _ hN.fc) hN.ob LZ,m _ _ (fq _ hN.fk) hN.kk nM,m _ _ (fq _ hN.fn) hN.nn nM,m _ _ (fq _ hN.fr) hN.rr nM⟩
   have k4:i<cs.length:=(List.getElem?_eq_some_iff.mp hc).1
   have hce':c=tE (j:Int) hw xs row:=MJ
   have T9:=R8 KZ hf aX aT
   have haw:=OC KZ hf aX aT
   refine⟨_,rfl,_,rfl,k,d',b,_,uk,ff,name,kinds,hw,j,xs,row,rfl,Cz,KZ,hC,hf,aX,aT,by omega,fun H4 p4 d4 ad4 ks4 hK4 m4 hf4 zE=>?_⟩
   have eC:=m4 _ _ rn nM
   have hpq4:p4≠q:=fun z=>hf4 _ (by rw[z];exact rn) nM
   have Qo:H4 p4=some (.lst ((Vbedac.step (kL Vbedac.start (cs.take i)) (tE (j:Int) hw xs row)).2.map V.int)):=zE
   refine⟨_,rfl,.inl ⟨rfl,_,aE.of eC⟩,_,rfl,p4,_,rfl,.inl (aE.of Qo),q,_,_,rfl,rfl,eC,(by rw[length_map,sizeLine_eq];omega),?_⟩
   generalize hL:PyFlat.told (PyFlat.played Vbedac.step Vbedac.start (cs.take i))=L at rn hlen eC
   generalize hR:Vbedac.step (kL Vbedac.start (cs.take i)) (tE (j:Int) hw xs row)=R at T9 haw hK4 zE Qo
   refine⟨_,rfl,.inl ⟨rfl,_,aE.of ah⟩,_,rfl,q,p4,_,_,rfl,rfl,ah,(by rw[aw hpq4];exact Qo),(by rw[length_append,length_map,length_map,length_cons,List.length_nil,sizeLine_eq];omega),?_⟩
   rw[Bn,take_snoc hc,CF,EM,hce',OD,hL,hR]
   refine⟨_,_,d4,ad4,ks4,rfl,hK4.updL eC,haw,fun b o Rx h ho=>?_,?_,?_⟩
   ·rw[aw Rx]
    exact m4 _ _ (m _ _ Rx h ho) ho
   ·show upd _ _ _ _=_
    rw[ah,append_assoc,map_append,length_map]
    rfl
   ·rw[length_append,length_cons];omega
  ·rintro σ H' ⟨v3,v4,d',uk,ff,rfl,Cz,KZ,m,rn,hlen⟩
   rw[length_map,hA.1,take_length] at rn
   exact⟨_,rfl,kk H' q rn⟩
end
theorem bG:∀(xs:List (Str×Tok)),Vals (xs.map fun p=>V.str p.1) (xs.map fun p=>Value.str p.1 p.2)
 | []=>.nil
 | p::xs=>.cons ⟨p.2,rfl⟩ (bG xs)
def FG (K:W.Frag) (x q:Str) (st:Stmt) (f:Addr) (fd:FuncData):Prop:=bt K x q st f fd/\W.nsIn K mainGlobals x=some (some (.ref f))
theorem a8 {K:W.Frag} {x q:Str} {st:Stmt} {f:Addr} {oc:Value} {od an:Option Addr} {zY:Array (Option Value)} {kV doc pm bg ct:Value} (a:W.nsIn K mainGlobals x=some (some (.ref f))) (l:K.lookup f=some ⟨oc,od,.func (W.fnOf x q (uN st) (rL st) (ay st) .none kV doc pm an bg ct),zY⟩)
  (c:W.codeIn K bg q=true) (k:W.keepIn K (.ref f)=true):FG K x q st f (W.fnOf x q (uN st) (rL st) (ay st) .none kV doc pm an bg ct):=⟨mm l c k,a⟩
theorem U7 {K:W.Frag} {h:Heap} {mg:Str->Option Value} (X:K.In h) (G:h.Ns mainGlobals mg) {a5 eG e_ d6 b_ fO kP gm dA cS uP et BF pP pQ iH du n8 gF gY gZ kQ k9 k_ la rR gI fU g7 lb fo mF lh lj ft n9 fV ll lp fv jT jU uQ BG xE uS jd n_ lq jW BH oe uT uU lu jf rX uV BI ez eT jg g8 BJ xI rZ uX xJ mJ uZ u0 gL kR iS fb dB fe mK lA jZ j0 dU fw xK g9 mL iL j6 kg fg r_ lN lO lP lQ lR lS lT lU lV lW kh ki kj kl km kn ko kq kr ku kx kz kC kD kE kF sd l_:Addr} {gE k7 gW el dt rQ dR xC nZ n0 gX c9 mE fS gG gH k8 jL jM jN pR fT fm gJ jO eQ lg jP jQ eR mG fu jR jS eS jb jc rS xD uR rT iI mH jV je xF mI rV rW jX iJ pS rY xG dS eA iK gK xH uW pT r6 uY lx r8 r9 fW ly jh fX eB fY lz jY ji jj dv eU u1 gM lB g_ jk l8:FuncData} {og uE wt sx qx pf uF qy l9 sy kX m8 m9 f_:Tok}
  (vZ:W.nsIn K mainGlobals "Statement"=some (some (.ref a5)))
  (aC:qe K a5)
  (lC:Mk K a5 fO)
  (bp:W.findIn K (.ref a5) "key"=some none)
  (cW:W.findIn K (.ref a5) "witness"=some none)
  (cw:W.findIn K (.ref a5) "a"=some none)
  (cx:W.findIn K (.ref a5) "b"=some none)
  (c_:W.findIn K (.ref a5) "lo"=some none)
  (df:W.findIn K (.ref a5) "hi"=some none)
  (bJ:W.findIn K (.ref a5) "stands"=some none)
  (FH:W.nsIn K mainGlobals "Kept"=some (some (.ref eG)))
  (ba:qe K eG)
  (xM:Mk K eG kP)
  (cn:W.findIn K (.ref eG) "n"=some none)
  (bD:W.findIn K (.ref eG) "by_key"=some none)
  (FI:W.nsIn K mainGlobals "Edge"=some (some (.ref e_)))
  (bw:qe K e_)
  (se:Mk K e_ kQ)
  (cK:W.findIn K (.ref e_) "source"=some none)
  (cM:W.findIn K (.ref e_) "target"=some none)
  (cZ:W.findIn K (.ref e_) "weight"=some none)
  (gn:W.findIn K (.ref e_) "key"=some none)
  (eI:W.findIn K (.ref e_) "direction"=some none)
  (FJ:W.nsIn K mainGlobals "Call"=some (some (.ref d6)))
  (az:qe K d6)
  (xN:Mk K d6 kR)
  (au:W.findIn K (.ref d6) "name"=some none)
  (js:W.findIn K (.ref d6) "kinds"=some none)
  (bo:W.findIn K (.ref d6) "numbers"=some none)
  (kG:W.findIn K (.ref d6) "row"=some none)
  (Bm:W.nsIn K mainGlobals "Reader"=some (some (.ref b_)))
  (cu:qe K b_)
  (sU:Mk K b_ iS)
  (fh:W.findIn K (.ref b_) "source"=some none)
  (eK:W.findIn K (.ref b_) "at"=some none)
  (hU:bt K "__init__" "Statement.__init__" pj fO gE)
  (mM:bt K "__init__" "Kept.__init__" wW kP k7)
  (fP:Meth K eG "list_all" gm)
  (iM:bt K "list_all" "Kept.list_all" m7 gm gW)
  (bP:Meth K eG "list_standing" dA)
  (eV:bt K "list_standing" "Kept.list_standing" iY dA el)
  (dw:Meth K eG "list_of_witness" cS)
  (dW:bt K "list_of_witness" "Kept.list_of_witness" ib cS dt)
  (oh:FG K "begin" "begin" Fb uP rQ)
  (b0:FG K "find_refusal_of_say" "find_refusal_of_say" k5 et dR)
  (uG:FG K "say" "say" LO BF xC)
  (i6:FG K "set_one" "set_one" Aq pP nZ)
  (i7:FG K "set_all" "set_all" As pQ n0)
  (d7:FG K "answer_change" "answer_change" qt iH gX)
  (bI:FG K "make_sums_of_no_edges" "make_sums_of_no_edges" jE du c9)
  (ic:FG K "lengthen" "lengthen" yH n8 mE)
  (cX:FG K "find_first_edge" "find_first_edge" oP gF fS)
  (cT:FG K "find_first_way" "find_first_way" pk gY gG)
  (dD:FG K "find_least_way" "find_least_way" pq gZ gH)
  (mN:bt K "__init__" "Edge.__init__" wX kQ k8)
  (cg:FG K "list_edges" "list_edges" vq k9 jL)
  (gr:FG K "turn_edges" "turn_edges" qv k_ jM)
  (gu:FG K "lower_once" "lower_once" vr la jN)
  (jt:FG K "settle" "settle" C3 rR pR)
  (bu:FG K "can_all_be_true" "can_all_be_true" oQ gI fT)
  (bM:FG K "find_bounds_from" "find_bounds_from" nA fU fm)
  (dE:FG K "find_bounds_to" "find_bounds_to" pw g7 gJ)
  (bY:FG K "find_bound" "find_bound" vt lb jO)
  (cz:FG K "find_least_return" "find_least_return" mS fo eQ)
  (eL:FG K "find_ring" "find_ring" mD mF lg)
  (cy:FG K "tell_truth" "tell_truth" vv lh jP)
  (eJ:FG K "tell_maybe" "tell_maybe" vw lj jQ)
  (b9:FG K "tell_maybe_turned" "tell_maybe_turned" mT ft eR)
  (ie:FG K "tell_way" "tell_way" yI n9 mG)
  (cO:FG K "lengthen_choices" "lengthen_choices" nB fV fu)
  (gv:FG K "has_one_of" "has_one_of" vx ll jR)
  (gw:FG K "breaks_all" "breaks_all" vy lp jS)
  (cA:FG K "find_ring_without" "find_ring_without" gT fv eS)
  (fI:FG K "find_fewest" "find_fewest" pb jT jb)
  (eM:FG K "tell_fewest" "tell_fewest" tK jU jc)
  (oi:FG K "doubt" "doubt" BD uQ rS)
  (uH:FG K "who" "who" G6 BG xD)
  (qB:FG K "peel" "peel" Au xE uR)
  (oj:FG K "alone" "alone" BE uS rT)
  (eW:FG K "answer_doubt" "answer_doubt" rO jd iI)
  (ig:FG K "find_web" "find_web" uC n_ mH)
  (fC:FG K "is_at_most" "is_at_most" vz lq jV)
  (eN:FG K "does_follow" "does_follow" tL jW je)
  (uI:FG K "why" "why" LP BH xF)
  (iZ:FG K "needless" "needless" uD oe mI)
  (om:FG K "if_of" "if_of" Fc uT rV)
  (oo:FG K "slack" "slack" Fd uU rW)
  (gx:FG K "are_pinned" "are_pinned" vA lu jX)
  (eX:FG K "list_classes" "list_classes" nY jf iJ)
  (ma:FG K "pinned" "pinned" yJ rX pS)
  (oq:FG K "order" "order" Fe uV rY)
  (uJ:FG K "web" "web" LQ BI xG)
  (b6:FG K "find_refusal_of_key" "find_refusal_of_key" k6 ez dS)
  (cp:FG K "find_refusal_of_if" "find_refusal_of_if" l6 eT eA)
  (eY:FG K "find_refusal" "find_refusal" rP jg iK)
  (dF:FG K "answer_follows" "answer_follows" px g8 gK)
  (uK:FG K "fit" "fit" LR BJ xH)
  (qE:FG K "ring" "ring" Eh xI uW)
  (md:FG K "bounds" "bounds" C4 rZ pT)
  (ou:FG K "early" "early" Ff uX r6)
  (qF:FG K "late" "late" Ij xJ uY)
  (ij:FG K "are_times" "are_times" wY mJ lx)
  (ow:FG K "tried" "tried" Fg uZ r8)
  (ox:FG K "shown" "shown" Fh u0 r9)
  (cY:FG K "answer_question" "answer_question" oR gL fW)
  (mO:bt K "__init__" "Call.__init__" wZ kR ly)
  (j7:bt K "__init__" "Reader.__init__" tM iS jh)
  (iC:Meth K b_ "has_more" fb)
  (gN:bt K "has_more" "Reader.has_more" oS fb fX)
  (dg:Meth K b_ "read_number" dB)
  (eZ:bt K "read_number" "Reader.read_number" l7 dB eB)
  (iD:Meth K b_ "read_row" fe)
  (gO:bt K "read_row" "Reader.read_row" oT fe fY)
  (ik:FG K "read_call" "read_call" w4 mK lz)
  (gy:FG K "read_calls" "read_calls" vB lA jY)
  (fJ:FG K "greatest_of" "greatest_of" tN jZ ji)
  (fK:FG K "is_in_range" "is_in_range" tO j0 jj)
  (bV:FG K "has_numbers_in_range" "has_numbers_in_range" kO dU dv)
  (cB:FG K "find_edges_of_row" "find_edges_of_row" mU fw eU)
  (qG:FG K "walk" "walk" Ik xK u1)
  (dG:FG K "tell_statement" "tell_statement" pz g9 gM)
  (il:FG K "tell_kept" "tell_kept" w6 mL lB)
  (d8:FG K "answer_report" "answer_report" qw iL g_)
  (fL:FG K "answer_call" "answer_call" tP j6 jk)
  (kH:FG K "answers" "answers" Av kg l8)
  (hX:W.nsIn K mainGlobals "range"=some none)
  (d9:W.nsIn K mainGlobals "len"=some none)
  (BK:W.nsIn K mainGlobals "sum"=some none)
  (nD:W.nsIn K mainGlobals "sorted"=some none)
  (oy:W.nsIn K mainGlobals "reversed"=some none)
  (yS:W.nsIn K mainGlobals "set"=some none)
  (vM:W.nsIn K mainGlobals "dict"=some none)
  (jl:W.nsIn K mainGlobals "OUT_OF_RANGE"=some (some (.int (-1) og)))
  (kI:W.nsIn K mainGlobals "BAD_LIST"=some (some (.int (-2) uE)))
  (kJ:W.nsIn K mainGlobals "UNKNOWN"=some (some (.int (-10) wt)))
  (mP:W.nsIn K mainGlobals "KEY_TAKEN"=some (some (.int (-3) sx)))
  (ju:W.nsIn K mainGlobals "SAME_EVENT"=some (some (.int (-4) qx)))
  (iT:W.nsIn K mainGlobals "HI_BELOW_LO"=some (some (.int (-5) pf)))
  (oz:W.nsIn K mainGlobals "TOO_MANY"=some (some (.int (-6) uF)))
  (jv:W.nsIn K mainGlobals "ALREADY_SO"=some (some (.int (-7) qy)))
  (hZ:W.nsIn K mainGlobals "TOO_MANY_STAND"=some (some (.int (-11) l9)))
  (gh:W.nsIn K mainGlobals "CANNOT_BE"=some (some (.int (-8) sy)))
  (gP:W.nsIn K mainGlobals "MOST_STATEMENTS"=some (some (.int 100 kX)))
  (iN:W.nsIn K mainGlobals "MOST_TO_DOUBT"=some (some (.int 24 m8)))
  (iO:W.nsIn K mainGlobals "ANSWERED_HERE"=some (some (.ref fg)))
  (kK:bO K fg [V.str "why",V.str "needless",V.str "if_of",V.str "slack",V.str "pinned",V.str "order",V.str "web"])
  (gz:W.nsIn K mainGlobals "FARTHEST_TIME"=some (some (.int 1000000000000 m9)))
  (cU:W.nsIn K mainGlobals "WEIGHT_OF_FURTHER_EDGES"=some (some (.int 1000000000000 f_)))
  (u4:W.nsIn K mainGlobals "FORMS"=some (some (.ref r_)))
  (xU:Np K r_ [(0,.ref lN),(1,.ref lO),(2,.ref lP),(3,.ref lQ),(4,.ref lR),(5,.ref lS),(6,.ref lT),(7,.ref lU),(8,.ref lV),(9,.ref lW),(10,.ref kh),(11,.ref ki),(12,.ref kj),(13,.ref kl),(14,.ref km),(15,.ref kn),(16,.ref ko),(17,.ref kq),(18,.ref kr),(19,.ref ku),(20,.ref kx),(21,.ref kz),(22,.ref kC),(23,.ref kD),(24,.ref kE),(25,.ref kF)])
  (sX:bO K lN [V.str "begin",V.str "events"])
  (sY:bO K lO [V.str "say",V.str "key",V.str "witness",V.str "event",V.str "event",V.str "span",V.str "span"])
  (sZ:bO K lP [V.str "take",V.str "key"])
  (s_:bO K lQ [V.str "give",V.str "key"])
  (tf:bO K lR [V.str "drop",V.str "witness"])
  (tj:bO K lS [V.str "trust",V.str "witness"])
  (tm:bO K lT [V.str "fit"])
  (tq:bO K lU [V.str "ring"])
  (tu:bO K lV [V.str "bounds",V.str "event",V.str "event"])
  (tw:bO K lW [V.str "early",V.str "event"])
  (qH:bO K kh [V.str "late",V.str "event"])
  (qI:bO K ki [V.str "tried",V.str "row"])
  (qJ:bO K kj [V.str "shown",V.str "event"])
  (qK:bO K kl [V.str "why",V.str "event",V.str "event"])
  (qL:bO K km [V.str "needless",V.str "key"])
  (qM:bO K kn [V.str "if_of",V.str "event",V.str "event",V.str "span",V.str "span"])
  (qN:bO K ko [V.str "slack",V.str "key"])
  (qO:bO K kq [V.str "pinned"])
  (qP:bO K kr [V.str "order",V.str "event",V.str "event"])
  (qQ:bO K ku [V.str "doubt",V.str "doubted"])
  (qR:bO K kx [V.str "who",V.str "doubted"])
  (qS:bO K kz [V.str "peel"])
  (qT:bO K kC [V.str "web"])
  (qU:bO K kD [V.str "walk",V.str "event",V.str "row"])
  (qV:bO K kE [V.str "told"])
  (qW:bO K kF [V.str "alone",V.str "witness"])
  (u5:W.nsIn K mainGlobals "LEAST"=some (some (.ref sd)))
  (xV:Nr K sd [("events",2),("key",1),("witness",1),("event",0),("span",-1000000000),("doubted",0)])
  (oA:W.nsIn K mainGlobals "GREATEST"=some (some (.ref l_)))
  (qX:Nr K l_ [("events",24),("key",1000000000),("witness",1000000000),("span",1000000000),("doubted",3)])
 :∃A:aW,A.kg=kg/\Txt K mg A:=
 ⟨{ a5,eG,e_,d6,b_,fO,kP,gm,dA,cS,uP,et,BF,pP,pQ,iH,du,n8,gF,gY,gZ,kQ,k9,k_,la,rR,gI,fU,g7,lb,fo,mF,lh,lj,ft,n9,fV,ll,lp,fv,jT,jU,uQ,BG,xE,uS,jd,n_,lq,jW,BH,oe,uT,uU,lu,jf,rX,uV,BI,ez,eT,jg,g8,BJ,xI,rZ,uX,xJ,mJ,uZ,u0,gL,kR,iS,fb,dB,fe,mK,lA,jZ,j0,dU,fw,xK,g9,mL,iL,j6,kg,fg,r_,lN,lO,lP,lQ,lR,lS,lT,lU,lV,lW,kh,ki,kj,kl,km,kn,ko,kq,kr,ku,kx,kz,kC,kD,kE,kF,sd,l_,gE,k7,gW,el,dt,rQ,dR,xC,nZ,n0,gX,c9,mE,fS,gG,gH,k8,jL,jM,jN,pR,fT,fm,gJ,jO,eQ,lg,jP,jQ,eR,mG,fu,jR,jS,eS,jb,jc,rS,xD,uR,rT,iI,mH,jV,je,xF,mI,rV,rW,jX,iJ,pS,rY,xG,dS,eA,iK,gK,xH,uW,pT,r6,uY,lx,r8,r9,fW,ly,jh,fX,eB,fY,lz,jY,ji,jj,dv,eU,u1,gM,lB,g_,jk,l8,og,uE,wt,sx,qx,pf,uF,qy,l9,sy,kX,m8,m9,f_ },rfl,{ aC,w8:=W.mg_of X G vZ,lC,bp,cW,cw,cx,c_,df,bJ,ba,NB:=W.mg_of X G FH,xM,cn,bD,bw,Ei:=W.mg_of X G FI,se,cK,cM,cZ,gn,eI,az,NC:=W.mg_of X G FJ,xN,au,js,bo,kG,cu,Il:=W.mg_of X G Bm,sU,fh,eK,hU,pA:=hU.binds fun _ _ _ _ _ _ us hl=>match us,hl with | [_,_,_,_,_,_,_],_=>rfl,mM,Cn:=mM.binds fun _ _ _ _ _ _ us hl=>match us,hl with | [_],_=>rfl,iM,m_:=iM.binds fun _ _ _ _ _ _ us hl=>match us,hl with | [_],_=>rfl,fP,eV,dC:=eV.binds fun _ _ _ _ _ _ us hl=>match us,hl with | [_],_=>rfl,bP,dW,kS:=dW.binds fun _ _ _ _ _ _ us hl=>match us,hl with | [_,_],_=>rfl,dw,oh:=oh.1,Kt:=oh.1.binds fun _ _ _ _ _ _ us hl=>match us,hl with | [_,_],_=>rfl,Ku:=W.mg_of X G oh.2,b0:=b0.1,pU:=b0.1.binds fun _ _ _ _ _ _ us hl=>match us,hl with | [_,_],_=>rfl,pV:=W.mg_of X G b0.2,uG:=uG.1,QZ:=uG.1.binds fun _ _ _ _ _ _ us hl=>match us,hl with | [_,_],_=>rfl,Q0:=W.mg_of X G uG.2,i6:=i6.1,Aw:=i6.1.binds fun _ _ _ _ _ _ us hl=>match us,hl with | [_,_,_],_=>rfl,Ax:=W.mg_of X G i6.2,i7:=i7.1,Ay:=i7.1.binds fun _ _ _ _ _ _ us hl=>match us,hl with | [_,_,_],_=>rfl,Az:=W.mg_of X G i7.2,d7:=d7.1,wu:=d7.1.binds fun _ _ _ _ _ _ us hl=>match us,hl with | [_,_,_],_=>rfl,wx:=W.mg_of X G d7.2,bI:=bI.1,jF:=bI.1.binds fun _ _ _ _ _ _ us hl=>match us,hl with | [_,_],_=>rfl,jG:=W.mg_of X G bI.2,ic:=ic.1,yK:=ic.1.binds fun _ _ _ _ _ _ us hl=>match us,hl with | [_,_],_=>rfl,yL:=W.mg_of X G ic.2,cX:=cX.1,t_:=cX.1.binds fun _ _ _ _ _ _ us hl=>match us,hl with | [_,_,_,_],_=>rfl,ua:=W.mg_of X G cX.2,cT:=cT.1,pB:=cT.1.binds fun _ _ _ _ _ _ us hl=>match us,hl with | [_,_,_],_=>rfl,pC:=W.mg_of X G cT.2,dD:=dD.1,vC:=dD.1.binds fun _ _ _ _ _ _ us hl=>match us,hl with | [_,_,_,_,_],_=>rfl,vD:=W.mg_of X G dD.2,mN,sA:=mN.binds fun _ _ _ _ _ _ us hl=>match us,hl with | [_,_,_,_,_,_],_=>rfl,cg:=cg.1,gp:=cg.1.binds fun _ _ _ _ _ _ us hl=>match us,hl with | [_],_=>rfl,gq:=W.mg_of X G cg.2,gr:=gr.1,AA:=gr.1.binds fun _ _ _ _ _ _ us hl=>match us,hl with | [_],_=>rfl,AB:=W.mg_of X G gr.2,gu:=gu.1,AD:=gu.1.binds fun _ _ _ _ _ _ us hl=>match us,hl with | [_,_],_=>rfl,AE:=W.mg_of X G gu.2,jt:=jt.1,yM:=jt.1.binds fun _ _ _ _ _ _ us hl=>match us,hl with | [_,_],_=>rfl,yN:=W.mg_of X G jt.2,bu:=bu.1,cD:=bu.1.binds fun _ _ _ _ _ _ us hl=>match us,hl with | [_,_],_=>rfl,cE:=W.mg_of X G bu.2,bM:=bM.1,iy:=bM.1.binds fun _ _ _ _ _ _ us hl=>match us,hl with | [_,_,_],_=>rfl,iz:=W.mg_of X G bM.2,dE:=dE.1,vE:=dE.1.binds fun _ _ _ _ _ _ us hl=>match us,hl with | [_,_,_],_=>rfl,vF:=W.mg_of X G dE.2,bY:=bY.1,fA:=bY.1.binds fun _ _ _ _ _ _ us hl=>match us,hl with | [_,_,_,_],_=>rfl,fB:=W.mg_of X G bY.2,cz:=cz.1,rq:=cz.1.binds fun _ _ _ _ _ _ us hl=>match us,hl with | [_],_=>rfl,rz:=W.mg_of X G cz.2,eL:=eL.1,oX:=eL.1.binds fun _ _ _ _ _ _ us hl=>match us,hl with | [_,_],_=>rfl,oY:=W.mg_of X G eL.2,cy:=cy.1,iA:=cy.1.binds fun _ _ _ _ _ _ us hl=>match us,hl with | [_],_=>rfl,iB:=W.mg_of X G cy.2,eJ:=eJ.1,qz:=eJ.1.binds fun _ _ _ _ _ _ us hl=>match us,hl with | [_],_=>rfl,qA:=W.mg_of X G eJ.2,b9:=b9.1,mV:=b9.1.binds fun _ _ _ _ _ _ us hl=>match us,hl with | [_],_=>rfl,mW:=W.mg_of X G b9.2,ie:=ie.1,yO:=ie.1.binds fun _ _ _ _ _ _ us hl=>match us,hl with | [_],_=>rfl,yP:=W.mg_of X G ie.2,cO:=cO.1,sV:=cO.1.binds fun _ _ _ _ _ _ us hl=>match us,hl with | [_,_],_=>rfl,sW:=W.mg_of X G cO.2,gv:=gv.1,AF:=gv.1.binds fun _ _ _ _ _ _ us hl=>match us,hl with | [_,_],_=>rfl,AG:=W.mg_of X G gv.2,gw:=gw.1,AH:=gw.1.binds fun _ _ _ _ _ _ us hl=>match us,hl with | [_,_],_=>rfl,AI:=W.mg_of X G gw.2,cA:=cA.1,rB:=cA.1.binds fun _ _ _ _ _ _ us hl=>match us,hl with | [_,_,_,_],_=>rfl,rC:=W.mg_of X G cA.2,fI:=fI.1,zq:=fI.1.binds fun _ _ _ _ _ _ us hl=>match us,hl with | [_,_,_,_],_=>rfl,zr:=W.mg_of X G fI.2,eM:=eM.1,tQ:=eM.1.binds fun _ _ _ _ _ _ us hl=>match us,hl with | [_,_,_,_],_=>rfl,tR:=W.mg_of X G eM.2,oi:=oi.1,Kv:=oi.1.binds fun _ _ _ _ _ _ us hl=>match us,hl with | [_,_,_],_=>rfl,Kw:=W.mg_of X G oi.2,uH:=uH.1,Q2:=uH.1.binds fun _ _ _ _ _ _ us hl=>match us,hl with | [_,_,_],_=>rfl,Q3:=W.mg_of X G uH.2,qB:=qB.1,ND:=qB.1.binds fun _ _ _ _ _ _ us hl=>match us,hl with | [_,_],_=>rfl,NF:=W.mg_of X G qB.2,oj:=oj.1,Kx:=oj.1.binds fun _ _ _ _ _ _ us hl=>match us,hl with | [_,_],_=>rfl,Ky:=W.mg_of X G oj.2,eW:=eW.1,xO:=eW.1.binds fun _ _ _ _ _ _ us hl=>match us,hl with | [_,_],_=>rfl,xP:=W.mg_of X G eW.2,ig:=ig.1,yQ:=ig.1.binds fun _ _ _ _ _ _ us hl=>match us,hl with | [_,_],_=>rfl,yR:=W.mg_of X G ig.2,fC:=fC.1,vG:=fC.1.binds fun _ _ _ _ _ _ us hl=>match us,hl with | [_,_],_=>rfl,vH:=W.mg_of X G fC.2,eN:=eN.1,tS:=eN.1.binds fun _ _ _ _ _ _ us hl=>match us,hl with | [_,_,_],_=>rfl,tT:=W.mg_of X G eN.2,uI:=uI.1,Q4:=uI.1.binds fun _ _ _ _ _ _ us hl=>match us,hl with | [_,_,_,_],_=>rfl,Q5:=W.mg_of X G uI.2,iZ:=iZ.1,Ej:=iZ.1.binds fun _ _ _ _ _ _ us hl=>match us,hl with | [_,_,_],_=>rfl,Ek:=W.mg_of X G iZ.2,om:=om.1,Kz:=om.1.binds fun _ _ _ _ _ _ us hl=>match us,hl with | [_,_,_],_=>rfl,KA:=W.mg_of X G om.2,oo:=oo.1,KC:=oo.1.binds fun _ _ _ _ _ _ us hl=>match us,hl with | [_,_,_],_=>rfl,KD:=W.mg_of X G oo.2,gx:=gx.1,AJ:=gx.1.binds fun _ _ _ _ _ _ us hl=>match us,hl with | [_,_,_],_=>rfl,AK:=W.mg_of X G gx.2,eX:=eX.1,xQ:=eX.1.binds fun _ _ _ _ _ _ us hl=>match us,hl with | [_],_=>rfl,xR:=W.mg_of X G eX.2,ma:=ma.1,Im:=ma.1.binds fun _ _ _ _ _ _ us hl=>match us,hl with | [_,_],_=>rfl,Io:=W.mg_of X G ma.2,oq:=oq.1,KG:=oq.1.binds fun _ _ _ _ _ _ us hl=>match us,hl with | [_,_,_,_],_=>rfl,KH:=W.mg_of X G oq.2,uJ:=uJ.1,Q6:=uJ.1.binds fun _ _ _ _ _ _ us hl=>match us,hl with | [_,_],_=>rfl,Q7:=W.mg_of X G uJ.2,b6:=b6.1,pW:=b6.1.binds fun _ _ _ _ _ _ us hl=>match us,hl with | [_,_],_=>rfl,pX:=W.mg_of X G b6.2,cp:=cp.1,qC:=cp.1.binds fun _ _ _ _ _ _ us hl=>match us,hl with | [_,_,_,_],_=>rfl,qD:=W.mg_of X G cp.2,eY:=eY.1,xS:=eY.1.binds fun _ _ _ _ _ _ us hl=>match us,hl with | [_,_,_],_=>rfl,xT:=W.mg_of X G eY.2,dF:=dF.1,vI:=dF.1.binds fun _ _ _ _ _ _ us hl=>match us,hl with | [_,_],_=>rfl,vJ:=W.mg_of X G dF.2,uK:=uK.1,Q8:=uK.1.binds fun _ _ _ _ _ _ us hl=>match us,hl with | [_,_],_=>rfl,Q9:=W.mg_of X G uK.2,qE:=qE.1,NG:=qE.1.binds fun _ _ _ _ _ _ us hl=>match us,hl with | [_,_],_=>rfl,NH:=W.mg_of X G qE.2,md:=md.1,Ip:=md.1.binds fun _ _ _ _ _ _ us hl=>match us,hl with | [_,_,_,_],_=>rfl,Iq:=W.mg_of X G md.2,ou:=ou.1,KI:=ou.1.binds fun _ _ _ _ _ _ us hl=>match us,hl with | [_,_,_],_=>rfl,KJ:=W.mg_of X G ou.2,qF:=qF.1,NI:=qF.1.binds fun _ _ _ _ _ _ us hl=>match us,hl with | [_,_,_],_=>rfl,NJ:=W.mg_of X G qF.2,ij:=ij.1,Co:=ij.1.binds fun _ _ _ _ _ _ us hl=>match us,hl with | [_,_],_=>rfl,Cp:=W.mg_of X G ij.2,ow:=ow.1,KL:=ow.1.binds fun _ _ _ _ _ _ us hl=>match us,hl with | [_,_,_],_=>rfl,KN:=W.mg_of X G ow.2,ox:=ox.1,KO:=ox.1.binds fun _ _ _ _ _ _ us hl=>match us,hl with | [_,_,_],_=>rfl,KP:=W.mg_of X G ox.2,cY:=cY.1,ub:=cY.1.binds fun _ _ _ _ _ _ us hl=>match us,hl with | [_,_],_=>rfl,uc:=W.mg_of X G cY.2,mO,Cq:=mO.binds fun _ _ _ _ _ _ us hl=>match us,hl with | [_,_],_=>rfl,j7,zt:=j7.binds fun _ _ _ _ _ _ us hl=>match us,hl with | [_,_],_=>rfl,gN,ud:=gN.binds fun _ _ _ _ _ _ us hl=>match us,hl with | [_],_=>rfl,iC,eZ,i0:=eZ.binds fun _ _ _ _ _ _ us hl=>match us,hl with | [_],_=>rfl,dg,gO,ue:=gO.binds fun _ _ _ _ _ _ us hl=>match us,hl with | [_],_=>rfl,iD,ik:=ik.1,Cr:=ik.1.binds fun _ _ _ _ _ _ us hl=>match us,hl with | [_],_=>rfl,Cs:=W.mg_of X G ik.2,gy:=gy.1,AL:=gy.1.binds fun _ _ _ _ _ _ us hl=>match us,hl with | [_],_=>rfl,AM:=W.mg_of X G gy.2,fJ:=fJ.1,zu:=fJ.1.binds fun _ _ _ _ _ _ us hl=>match us,hl with | [_,_],_=>rfl,zv:=W.mg_of X G fJ.2,fK:=fK.1,zw:=fK.1.binds fun _ _ _ _ _ _ us hl=>match us,hl with | [_,_,_],_=>rfl,zx:=W.mg_of X G fK.2,bV:=bV.1,oZ:=bV.1.binds fun _ _ _ _ _ _ us hl=>match us,hl with | [_,_],_=>rfl,o4:=W.mg_of X G bV.2,cB:=cB.1,rD:=cB.1.binds fun _ _ _ _ _ _ us hl=>match us,hl with | [_,_],_=>rfl,rE:=W.mg_of X G cB.2,qG:=qG.1,NK:=qG.1.binds fun _ _ _ _ _ _ us hl=>match us,hl with | [_,_,_],_=>rfl,NL:=W.mg_of X G qG.2,dG:=dG.1,vK:=dG.1.binds fun _ _ _ _ _ _ us hl=>match us,hl with | [_],_=>rfl,vL:=W.mg_of X G dG.2,il:=il.1,Ct:=il.1.binds fun _ _ _ _ _ _ us hl=>match us,hl with | [_,_],_=>rfl,Cu:=W.mg_of X G il.2,d8:=d8.1,wz:=d8.1.binds fun _ _ _ _ _ _ us hl=>match us,hl with | [_,_],_=>rfl,wA:=W.mg_of X G d8.2,fL:=fL.1,zy:=fL.1.binds fun _ _ _ _ _ _ us hl=>match us,hl with | [_,_],_=>rfl,zz:=W.mg_of X G fL.2,kH:=kH.1,NM:=kH.1.binds fun _ _ _ _ _ _ us hl=>match us,hl with | [_],_=>rfl,Gf:=W.mg_of X G kH.2,hX:=W.mg_none_of X G hX,d9:=W.mg_none_of X G d9,BK:=W.mg_none_of X G BK,nD:=W.mg_none_of X G nD,oy:=W.mg_none_of X G oy,yS:=W.mg_none_of X G yS,vM:=W.mg_none_of X G vM,jl:=W.mg_of X G jl,kI:=W.mg_of X G kI,kJ:=W.mg_of X G kJ,mP:=W.mg_of X G mP,ju:=W.mg_of X G ju,iT:=W.mg_of X G iT,oz:=W.mg_of X G oz,jv:=W.mg_of X G jv,hZ:=W.mg_of X G hZ,gh:=W.mg_of X G gh,gP:=W.mg_of X G gP,iN:=W.mg_of X G iN,iO:=W.mg_of X G iO,kK,gz:=W.mg_of X G gz,cU:=W.mg_of X G cU,u4:=W.mg_of X G u4,xU,sX,sY,sZ,s_,tf,tj,tm,tq,tu,tw,qH,qI,qJ,qK,qL,qM,qN,qO,qP,qQ,qR,qS,qT,qU,qV,qW,u5:=W.mg_of X G u5,xV,oA:=W.mg_of X G oA,qX }⟩
theorem U8 {P:Program} {w:World} {K:W.Frag} {mg:Str->Option Value} {fa f:Addr} (M1:mg "answers"=some (.ref fa)) (h:∃A:aW,A.kg=f/\Txt K mg A) :
  ∃fd:FuncData,(∀(s:Shared) (us:List Value),us.length=(["calls"]:List Str).length->BindsTo s fd ⟨us,[]⟩ ((["calls"]:List Str).zip us))/\∀base:Heap,K.In base->base.Ns mainGlobals mg->aY P w K mg base bF 11 fa fd ["calls"] (Jt K):=by
 obtain⟨A,_,T⟩:=h
 have e:=M1.symm.trans T.Gf
 cases e
 obtain⟨oc,od,kV,doc,pm,an,bg,ct,zY,e,lk,wc⟩:=T.kH.ex
 refine⟨A.l8,fun s us hu=>?_,fun base _ _=>Mf T⟩
 rw[e]
 match us,hu with
 | [_],_=>exact .of_eq rfl
end Ws
open PySem PySem.W PyProof.Rows
set_option maxRecDepth 100000 in
set_option maxHeartbeats 0 in
theorem PySem.Challenge.cw_whenstated_s01_answers_holds : PySem.Challenge.rw_whenstated_s01_answers.Holds := by
 w_on;k_headS;(case hw=>exact⟨[.list [.int 6]],by decide +kernel,by decide +kernel⟩)
 k_fillS
 refine L2.Lv (r:=PySem.Challenge.rw_whenstated_s01_answers) (k:=11) (CX:=L2.bF) (ps:=["calls"]) (sp:=Ws.Jt) (by decide +kernel) rfl rfl ⟨rfl,by decide,by decide⟩ (fun w h Y=>W.kIn_of Y) ?F ?S (fun _ _ _ _ z=>z)
 case F=>
  intro w mg fa h Y KX G M1
  refine' Ws.U8 M1 (Ws.U7 KX G ?vZ ?aC ?lC ?bp ?cW ?cw ?cx ?c_ ?df ?bJ ?FH ?ba ?xM ?cn ?bD ?FI ?bw ?se ?cK ?cM ?cZ ?gn ?eI ?FJ ?az ?xN ?au ?js ?bo ?kG ?Bm ?cu ?sU ?fh ?eK ?hU ?mM ?fP ?iM ?bP ?eV ?dw ?dW ?oh ?b0 ?uG ?i6 ?i7 ?d7 ?bI ?ic ?cX ?cT ?dD ?mN ?cg ?gr ?gu ?jt ?bu ?bM ?dE ?bY ?cz ?eL ?cy ?eJ ?b9 ?ie ?cO ?gv ?gw ?cA ?fI ?eM ?oi ?uH ?qB ?oj ?eW ?ig ?fC ?eN ?uI ?iZ ?om ?oo ?gx ?eX ?ma ?oq ?uJ ?b6 ?cp ?eY ?dF ?uK ?qE ?md ?ou ?qF ?ij ?ow ?ox ?cY ?mO ?j7 ?iC ?gN ?dg ?eZ ?iD ?gO ?ik ?gy ?fJ ?fK ?bV ?cB ?qG ?dG ?il ?d8 ?fL ?kH ?hX ?d9 ?BK ?nD ?oy ?yS ?vM ?jl ?kI ?kJ ?mP ?ju ?iT ?oz ?jv ?hZ ?gh ?gP ?iN ?iO ?kK ?gz ?cU ?u4 ?xU ?sX ?sY ?sZ ?s_ ?tf ?tj ?tm ?tq ?tu ?tw ?qH ?qI ?qJ ?qK ?qL ?qM ?qN ?qO ?qP ?qQ ?qR ?qS ?qT ?qU ?qV ?qW ?u5 ?xV ?oA ?qX)
  (case vZ=>k_is)
  (case aC=>exact⟨by k_is,by k_is,by k_is,by k_is⟩)
  (case lC=>exact⟨by k_is,by k_is,by k_is,by k_is⟩)
  (case bp=>k_is)
  (case cW=>k_is)
  (case cw=>k_is)
  (case cx=>k_is)
  (case c_=>k_is)
  (case df=>k_is)
  (case bJ=>k_is)
  (case FH=>k_is)
  (case ba=>exact⟨by k_is,by k_is,by k_is,by k_is⟩)
  (case xM=>exact⟨by k_is,by k_is,by k_is,by k_is⟩)
  (case cn=>k_is)
  (case bD=>k_is)
  (case FI=>k_is)
  (case bw=>exact⟨by k_is,by k_is,by k_is,by k_is⟩)
  (case se=>exact⟨by k_is,by k_is,by k_is,by k_is⟩)
  (case cK=>k_is)
  (case cM=>k_is)
  (case cZ=>k_is)
  (case gn=>k_is)
  (case eI=>k_is)
  (case FJ=>k_is)
  (case az=>exact⟨by k_is,by k_is,by k_is,by k_is⟩)
  (case xN=>exact⟨by k_is,by k_is,by k_is,by k_is⟩)
  (case au=>k_is)
  (case js=>k_is)
  (case bo=>k_is)
  (case kG=>k_is)
  (case Bm=>k_is)
  (case cu=>exact⟨by k_is,by k_is,by k_is,by k_is⟩)
  (case sU=>exact⟨by k_is,by k_is,by k_is,by k_is⟩)
  (case fh=>k_is)
  (case eK=>k_is)
  (case hU=>exact L2.mm (by k_is) (by k_is) (by k_is))
  (case mM=>exact L2.mm (by k_is) (by k_is) (by k_is))
  (case fP=>exact⟨by k_is,by k_is,by k_is⟩)
  (case iM=>exact L2.mm (by k_is) (by k_is) (by k_is))
  (case bP=>exact⟨by k_is,by k_is,by k_is⟩)
  (case eV=>exact L2.mm (by k_is) (by k_is) (by k_is))
  (case dw=>exact⟨by k_is,by k_is,by k_is⟩)
  (case dW=>exact L2.mm (by k_is) (by k_is) (by k_is))
  (case oh=>exact Ws.a8 (by k_is) (by k_is) (by k_is) (by k_is))
  (case b0=>exact Ws.a8 (by k_is) (by k_is) (by k_is) (by k_is))
  (case uG=>exact Ws.a8 (by k_is) (by k_is) (by k_is) (by k_is))
  (case i6=>exact Ws.a8 (by k_is) (by k_is) (by k_is) (by k_is))
  (case i7=>exact Ws.a8 (by k_is) (by k_is) (by k_is) (by k_is))
  (case d7=>exact Ws.a8 (by k_is) (by k_is) (by k_is) (by k_is))
  (case bI=>exact Ws.a8 (by k_is) (by k_is) (by k_is) (by k_is))
  (case ic=>exact Ws.a8 (by k_is) (by k_is) (by k_is) (by k_is))
  (case cX=>exact Ws.a8 (by k_is) (by k_is) (by k_is) (by k_is))
  (case cT=>exact Ws.a8 (by k_is) (by k_is) (by k_is) (by k_is))
  (case dD=>exact Ws.a8 (by k_is) (by k_is) (by k_is) (by k_is))
  (case mN=>exact L2.mm (by k_is) (by k_is) (by k_is))
  (case cg=>exact Ws.a8 (by k_is) (by k_is) (by k_is) (by k_is))
  (case gr=>exact Ws.a8 (by k_is) (by k_is) (by k_is) (by k_is))
  (case gu=>exact Ws.a8 (by k_is) (by k_is) (by k_is) (by k_is))
  (case jt=>exact Ws.a8 (by k_is) (by k_is) (by k_is) (by k_is))
  (case bu=>exact Ws.a8 (by k_is) (by k_is) (by k_is) (by k_is))
  (case bM=>exact Ws.a8 (by k_is) (by k_is) (by k_is) (by k_is))
  (case dE=>exact Ws.a8 (by k_is) (by k_is) (by k_is) (by k_is))
  (case bY=>exact Ws.a8 (by k_is) (by k_is) (by k_is) (by k_is))
  (case cz=>exact Ws.a8 (by k_is) (by k_is) (by k_is) (by k_is))
  (case eL=>exact Ws.a8 (by k_is) (by k_is) (by k_is) (by k_is))
  (case cy=>exact Ws.a8 (by k_is) (by k_is) (by k_is) (by k_is))
  (case eJ=>exact Ws.a8 (by k_is) (by k_is) (by k_is) (by k_is))
  (case b9=>exact Ws.a8 (by k_is) (by k_is) (by k_is) (by k_is))
  (case ie=>exact Ws.a8 (by k_is) (by k_is) (by k_is) (by k_is))
  (case cO=>exact Ws.a8 (by k_is) (by k_is) (by k_is) (by k_is))
  (case gv=>exact Ws.a8 (by k_is) (by k_is) (by k_is) (by k_is))
  (case gw=>exact Ws.a8 (by k_is) (by k_is) (by k_is) (by k_is))
  (case cA=>exact Ws.a8 (by k_is) (by k_is) (by k_is) (by k_is))
  (case fI=>exact Ws.a8 (by k_is) (by k_is) (by k_is) (by k_is))
  (case eM=>exact Ws.a8 (by k_is) (by k_is) (by k_is) (by k_is))
  (case oi=>exact Ws.a8 (by k_is) (by k_is) (by k_is) (by k_is))
  (case uH=>exact Ws.a8 (by k_is) (by k_is) (by k_is) (by k_is))
  (case qB=>exact Ws.a8 (by k_is) (by k_is) (by k_is) (by k_is))
  (case oj=>exact Ws.a8 (by k_is) (by k_is) (by k_is) (by k_is))
  (case eW=>exact Ws.a8 (by k_is) (by k_is) (by k_is) (by k_is))
  (case ig=>exact Ws.a8 (by k_is) (by k_is) (by k_is) (by k_is))
  (case fC=>exact Ws.a8 (by k_is) (by k_is) (by k_is) (by k_is))
  (case eN=>exact Ws.a8 (by k_is) (by k_is) (by k_is) (by k_is))
  (case uI=>exact Ws.a8 (by k_is) (by k_is) (by k_is) (by k_is))
  (case iZ=>exact Ws.a8 (by k_is) (by k_is) (by k_is) (by k_is))
  (case om=>exact Ws.a8 (by k_is) (by k_is) (by k_is) (by k_is))
  (case oo=>exact Ws.a8 (by k_is) (by k_is) (by k_is) (by k_is))
  (case gx=>exact Ws.a8 (by k_is) (by k_is) (by k_is) (by k_is))
  (case eX=>exact Ws.a8 (by k_is) (by k_is) (by k_is) (by k_is))
  (case ma=>exact Ws.a8 (by k_is) (by k_is) (by k_is) (by k_is))
  (case oq=>exact Ws.a8 (by k_is) (by k_is) (by k_is) (by k_is))
  (case uJ=>exact Ws.a8 (by k_is) (by k_is) (by k_is) (by k_is))
  (case b6=>exact Ws.a8 (by k_is) (by k_is) (by k_is) (by k_is))
  (case cp=>exact Ws.a8 (by k_is) (by k_is) (by k_is) (by k_is))
  (case eY=>exact Ws.a8 (by k_is) (by k_is) (by k_is) (by k_is))
  (case dF=>exact Ws.a8 (by k_is) (by k_is) (by k_is) (by k_is))
  (case uK=>exact Ws.a8 (by k_is) (by k_is) (by k_is) (by k_is))
  (case qE=>exact Ws.a8 (by k_is) (by k_is) (by k_is) (by k_is))
  (case md=>exact Ws.a8 (by k_is) (by k_is) (by k_is) (by k_is))
  (case ou=>exact Ws.a8 (by k_is) (by k_is) (by k_is) (by k_is))
  (case qF=>exact Ws.a8 (by k_is) (by k_is) (by k_is) (by k_is))
  (case ij=>exact Ws.a8 (by k_is) (by k_is) (by k_is) (by k_is))
  (case ow=>exact Ws.a8 (by k_is) (by k_is) (by k_is) (by k_is))
  (case ox=>exact Ws.a8 (by k_is) (by k_is) (by k_is) (by k_is))
  (case cY=>exact Ws.a8 (by k_is) (by k_is) (by k_is) (by k_is))
  (case mO=>exact L2.mm (by k_is) (by k_is) (by k_is))
  (case j7=>exact L2.mm (by k_is) (by k_is) (by k_is))
  (case iC=>exact⟨by k_is,by k_is,by k_is⟩)
  (case gN=>exact L2.mm (by k_is) (by k_is) (by k_is))
  (case dg=>exact⟨by k_is,by k_is,by k_is⟩)
  (case eZ=>exact L2.mm (by k_is) (by k_is) (by k_is))
  (case iD=>exact⟨by k_is,by k_is,by k_is⟩)
  (case gO=>exact L2.mm (by k_is) (by k_is) (by k_is))
  (case ik=>exact Ws.a8 (by k_is) (by k_is) (by k_is) (by k_is))
  (case gy=>exact Ws.a8 (by k_is) (by k_is) (by k_is) (by k_is))
  (case fJ=>exact Ws.a8 (by k_is) (by k_is) (by k_is) (by k_is))
  (case fK=>exact Ws.a8 (by k_is) (by k_is) (by k_is) (by k_is))
  (case bV=>exact Ws.a8 (by k_is) (by k_is) (by k_is) (by k_is))
  (case cB=>exact Ws.a8 (by k_is) (by k_is) (by k_is) (by k_is))
  (case qG=>exact Ws.a8 (by k_is) (by k_is) (by k_is) (by k_is))
  (case dG=>exact Ws.a8 (by k_is) (by k_is) (by k_is) (by k_is))
  (case il=>exact Ws.a8 (by k_is) (by k_is) (by k_is) (by k_is))
  (case d8=>exact Ws.a8 (by k_is) (by k_is) (by k_is) (by k_is))
  (case fL=>exact Ws.a8 (by k_is) (by k_is) (by k_is) (by k_is))
  (case kH=>exact Ws.a8 (by k_is) (by k_is) (by k_is) (by k_is))
  (case hX=>k_is)
  (case d9=>k_is)
  (case BK=>k_is)
  (case nD=>k_is)
  (case oy=>k_is)
  (case yS=>k_is)
  (case vM=>k_is)
  (case jl=>k_is)
  (case kI=>k_is)
  (case kJ=>k_is)
  (case mP=>k_is)
  (case ju=>k_is)
  (case iT=>k_is)
  (case oz=>k_is)
  (case jv=>k_is)
  (case hZ=>k_is)
  (case gh=>k_is)
  (case gP=>k_is)
  (case iN=>k_is)
  (case iO=>k_is)
  (case kK=>exact⟨_,_,_,by k_is,rfl,rfl,by decide +kernel,Ws.bG [("why",_),("needless",_),("if_of",_),("slack",_),("pinned",_),("order",_),("web",_)]⟩)
  (case gz=>k_is)
  (case cU=>k_is)
  (case u4=>k_is)
  (case xU=>exact⟨_,_,_,by k_is,⟨rfl,rfl,rfl⟩,rfl,by repeat (first | exact Paired.nil | refine Paired.cons ⟨⟨_,rfl⟩,by decide +kernel,rfl⟩ ?_),by decide +kernel⟩)
  (case sX=>exact⟨_,_,_,by k_is,rfl,rfl,by decide +kernel,Ws.bG [("begin",_),("events",_)]⟩)
  (case sY=>exact⟨_,_,_,by k_is,rfl,rfl,by decide +kernel,Ws.bG [("say",_),("key",_),("witness",_),("event",_),("event",_),("span",_),("span",_)]⟩)
  (case sZ=>exact⟨_,_,_,by k_is,rfl,rfl,by decide +kernel,Ws.bG [("take",_),("key",_)]⟩)
  (case s_=>exact⟨_,_,_,by k_is,rfl,rfl,by decide +kernel,Ws.bG [("give",_),("key",_)]⟩)
  (case tf=>exact⟨_,_,_,by k_is,rfl,rfl,by decide +kernel,Ws.bG [("drop",_),("witness",_)]⟩)
  (case tj=>exact⟨_,_,_,by k_is,rfl,rfl,by decide +kernel,Ws.bG [("trust",_),("witness",_)]⟩)
  (case tm=>exact⟨_,_,_,by k_is,rfl,rfl,by decide +kernel,Ws.bG [("fit",_)]⟩)
  (case tq=>exact⟨_,_,_,by k_is,rfl,rfl,by decide +kernel,Ws.bG [("ring",_)]⟩)
  (case tu=>exact⟨_,_,_,by k_is,rfl,rfl,by decide +kernel,Ws.bG [("bounds",_),("event",_),("event",_)]⟩)
  (case tw=>exact⟨_,_,_,by k_is,rfl,rfl,by decide +kernel,Ws.bG [("early",_),("event",_)]⟩)
  (case qH=>exact⟨_,_,_,by k_is,rfl,rfl,by decide +kernel,Ws.bG [("late",_),("event",_)]⟩)
  (case qI=>exact⟨_,_,_,by k_is,rfl,rfl,by decide +kernel,Ws.bG [("tried",_),("row",_)]⟩)
  (case qJ=>exact⟨_,_,_,by k_is,rfl,rfl,by decide +kernel,Ws.bG [("shown",_),("event",_)]⟩)
  (case qK=>exact⟨_,_,_,by k_is,rfl,rfl,by decide +kernel,Ws.bG [("why",_),("event",_),("event",_)]⟩)
  (case qL=>exact⟨_,_,_,by k_is,rfl,rfl,by decide +kernel,Ws.bG [("needless",_),("key",_)]⟩)
  (case qM=>exact⟨_,_,_,by k_is,rfl,rfl,by decide +kernel,Ws.bG [("if_of",_),("event",_),("event",_),("span",_),("span",_)]⟩)
  (case qN=>exact⟨_,_,_,by k_is,rfl,rfl,by decide +kernel,Ws.bG [("slack",_),("key",_)]⟩)
  (case qO=>exact⟨_,_,_,by k_is,rfl,rfl,by decide +kernel,Ws.bG [("pinned",_)]⟩)
  (case qP=>exact⟨_,_,_,by k_is,rfl,rfl,by decide +kernel,Ws.bG [("order",_),("event",_),("event",_)]⟩)
  (case qQ=>exact⟨_,_,_,by k_is,rfl,rfl,by decide +kernel,Ws.bG [("doubt",_),("doubted",_)]⟩)
  (case qR=>exact⟨_,_,_,by k_is,rfl,rfl,by decide +kernel,Ws.bG [("who",_),("doubted",_)]⟩)
  (case qS=>exact⟨_,_,_,by k_is,rfl,rfl,by decide +kernel,Ws.bG [("peel",_)]⟩)
  (case qT=>exact⟨_,_,_,by k_is,rfl,rfl,by decide +kernel,Ws.bG [("web",_)]⟩)
  (case qU=>exact⟨_,_,_,by k_is,rfl,rfl,by decide +kernel,Ws.bG [("walk",_),("event",_),("row",_)]⟩)
  (case qV=>exact⟨_,_,_,by k_is,rfl,rfl,by decide +kernel,Ws.bG [("told",_)]⟩)
  (case qW=>exact⟨_,_,_,by k_is,rfl,rfl,by decide +kernel,Ws.bG [("alone",_),("witness",_)]⟩)
  (case u5=>k_is)
  (case xV=>exact⟨by decide +kernel,_,_,_,by k_is,⟨rfl,rfl,rfl⟩,rfl,by repeat (first | exact Paired.nil | refine Paired.cons ⟨⟨_,rfl⟩,_,rfl⟩ ?_)⟩)
  (case oA=>k_is)
  (case qX=>exact⟨by decide +kernel,_,_,_,by k_is,⟨rfl,rfl,rfl⟩,rfl,by repeat (first | exact Paired.nil | refine Paired.cons ⟨⟨_,rfl⟩,_,rfl⟩ ?_)⟩)
 case S=>
  intro K H xs a hO QO Bl hx
  cases hx with
  | cons h1 h2=>
   cases h2
   cases h1 with
   | lst hs ha=>
    have e:=L2.Kc a.1 _ ha
    subst e
    have q:((Codec.inLen 0 17000 a.1&&a.1.all (Codec.inInt (-1000000000000000000) 1000000000000000000))&&true)=true:=QO
    rw[Bool.and_eq_true,Bool.and_eq_true] at q
    exact⟨_,a.1,rfl,hs,Bl,(Codec.inNat_iff.mp q.1.1).2,fun H' p hp=>.lst (L2.aE.of hp) (L2.Kb _)⟩
