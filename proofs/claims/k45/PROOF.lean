import PyProof.Rows.All
import Wide.All
import OpenK.AllK
import Wide.FinOn
import Lean
import PyProof.EqAt
import PyProof.EqKinds
import PyProof.TupleCall
import KE.KDictList
import KE.LcSums
import KE.KRevSl
import KE.KMinKey
import PyProof.ZipIter
import PyProof.Rows.ZipGen
import PyProof.Rows.SumAny
import KE.KLam
import KE.KSortKey
import PyProof.WalkInts
import KE.KIntText
import PySem.Challenge.RW_cotreehall_k45_whole_joins_carried_over
set_option compiler.extract_closed false
set_option Elab.async false
section
open PySem PySem.W PyProof.Rows
set_option maxRecDepth 100000
set_option maxHeartbeats 0
abbrev Z.vw:Program:=view PySem.Challenge.pw_cotreehall_k45_whole_joins_carried_over ((List.range 61).filter fun i=> !([0,4,12,23,28,40].contains i))
abbrev Z.rw1:RowW:=PySem.Challenge.rw_cotreehall_k45_whole_joins_carried_over.row.toRowW
local macro_rules
 | `(tactic| o_head $H:term) => `(tactic| (refine holds_open (q := Z.vw) (loose := []) (Xt := fun s => xlAt Z.vw [] s && recOk (RowW.records Z.rw1) s) (XP := XL Z.vw []) (Yf := Hook.obs $H) (Ya := Hook.val $H) (YP := Hook.says $H) (N := 4452) ?hl (Hook.of $H) (Hook.keeps $H) (fun s e => xl_of s (Bool.and_eq_true_iff.mp e).1) XL.keeps (by rfl) (by rfl) (by rfl) (fun s e => recFacts_of (Bool.and_eq_true_iff.mp e).2) (by rfl) (by first | assumption | decide +kernel) (by decide +kernel) ⟨rfl, rfl, rfl, rfl, rfl, by decide +kernel⟩ ?hw ?hc; (case hl => intro w; kernel_rfl)))
open_top Z.hd for PySem.Challenge.rw_cotreehall_k45_whole_joins_carried_over
end
set_option linter.all false
set_option maxRecDepth 100000
namespace L2
open PySem PySem.Spec PyProof.Rows
noncomputable abbrev Key:=Sum Int Str
noncomputable def zsn:Key->Value->Bool
 | .inl k,v=>Value.isInt k v
 | .inr x,v=>Value.isStrOf x v
noncomputable def zuM (w:World):Key->Int
 | .inl k=>hashInt k
 | .inr x=>hashStr w x
theorem zbg:∀ {k:Key} {v:Value},zsn k v=true->(∃ i t,k=Sum.inl i/\v=Value.int i t)\/(∃ x t,k=Sum.inr x/\v=Value.str x t)
 | .inl i,v,h=>by
  obtain ⟨t,e⟩:=Value.isInt_shape (k:=i) (v:=v) h;exact .inl ⟨i,t,rfl,e⟩
 | .inr x,v,h=>by
  obtain ⟨t,e⟩:=Value.isStrOf_shape (x:=x) (v:=v) h;exact .inr ⟨x,t,rfl,e⟩
theorem zso (a b:Int):decide ((Sum.inl a:Key)=Sum.inl b)=(a==b):=by
 by_cases e:a=b
 ·subst e;simp
 ·have h:¬ (Sum.inl a:Key)=Sum.inl b:=fun q=>e (Sum.inl.inj q);rw [decide_eq_false h];exact (beq_eq_false_iff_ne.mpr e).symm
theorem zsp (a b:Str):decide ((Sum.inr a:Key)=Sum.inr b)=decide (a=b):=by
 by_cases e:a=b
 ·subst e;simp
 ·have h:¬ (Sum.inr a:Key)=Sum.inr b:=fun q=>e (Sum.inr.inj q);rw [decide_eq_false h,decide_eq_false e]
theorem zsq (a:Int)(b:Str):decide ((Sum.inl a:Key)=Sum.inr b)=false:=decide_eq_false (fun q=>nomatch q)
theorem zsr (a:Str)(b:Int):decide ((Sum.inr a:Key)=Sum.inl b)=false:=decide_eq_false (fun q=>nomatch q)
noncomputable def znB (prog:Program)(w:World):PySem.KeyKind prog w Key where
 is:=zsn
 hash:=zuM w
 inj:=fun v a b ha hb=>by
  rcases zbg ha with ⟨i,t,rfl,rfl⟩|⟨x,t,rfl,rfl⟩
  ·rcases zbg hb with ⟨j,u,rfl,e⟩|⟨y,u,rfl,e⟩
   ·injection e with e1 _;rw [e1]
   ·exact nomatch e
  ·rcases zbg hb with ⟨j,u,rfl,e⟩|⟨y,u,rfl,e⟩
   ·exact nomatch e
   ·injection e with e1 _;rw [e1]
 byValue:=fun k v h=>by
  rcases zbg h with ⟨i,t,rfl,rfl⟩|⟨x,t,rfl,rfl⟩<;>rfl
 pyHash:=fun hv h=>by
  rcases zbg hv with ⟨i,t,rfl,rfl⟩|⟨x,t,rfl,rfl⟩
  ·exact wpAny_pyHash_int h
  ·exact wpAny_pyHash_str h
 eqBool:=fun hu hv h=>by
  rcases zbg hu with ⟨i,t,rfl,rfl⟩|⟨x,t,rfl,rfl⟩
  ·rcases zbg hv with ⟨j,u,rfl,rfl⟩|⟨y,u,rfl,rfl⟩
   ·rw [zso] at h;exact wpAny_eqBool_int h
   ·rw [zsq] at h;exact SeqAt.EqAt.int_str i t y u _ _ _ _ h
  ·rcases zbg hv with ⟨j,u,rfl,rfl⟩|⟨y,u,rfl,rfl⟩
   ·rw [zsr] at h;exact SeqAt.EqAt.str_int x t j u _ _ _ _ h
   ·rw [zsp] at h;exact wpAny_eqBool_str h
 «strs» :=fun k x t v h=>by
  rcases zbg h with ⟨i,u,rfl,e⟩|⟨y,u,rfl,e⟩
  ·exact nomatch e
  ·injection e with e1 _;subst e1;cases v<;>rfl
end L2
namespace L2
open PySem PySem.Spec PyProof.Rows
inductive V where
 |non|bl (b:Bool)|int (i:Int)|str (x:Str)|byt (b:Array UInt8)|flt (b:UInt64)|ref (a:Addr)|ty (n:String)
 deriving DecidableEq
noncomputable def RelV:V->Value->Prop
 | .non,u=>u=Value.none
 | .bl b,u=>u=Value.bool b
 | .int i,u=>∃ t,u=Value.int i t
 | .str x,u=>∃ t,u=Value.str x t
 | .byt b,u=>∃ t,u=Value.bytes b t
 | .flt b,u=>∃ t,u=Value.float b t
 | .ref a,u=>u=Value.ref a
 | .ty n,u=>u=Value.type n
noncomputable abbrev Vals:List V->List Value->Prop:=Paired RelV
theorem Vals.length {xs:List V}{us:List Value}(r:Vals xs us):xs.length=us.length:=Paired.length r
theorem Vals.get:∀ {xs:List V} {us:List Value} {i:Nat} {x:V},Vals xs us->xs[i]? =some x->∃ u,us[i]? =some u/\RelV x u
 |_,_,_,_,.nil,e=>by simp at e
 |_,_,0,_,.cons r _,e=>by simp at e;subst e;exact ⟨_,rfl,r⟩
 |_,_,i+1,x,.cons _ t,e=>by
  obtain ⟨u,h1,h2⟩:=Vals.get (i:=i) (x:=x) t (by simpa using e);exact ⟨u,by simpa using h1,h2⟩
theorem Vals.set {x:V}{u:Value}(r:RelV x u):∀ {xs:List V} {us:List Value} (i:Nat),Vals xs us->Vals (xs.set i x) (us.set i u)
 |_,_,_,.nil=>.nil
 |_,_,0,.cons _ t=>.cons r t
 |_,_,i+1,.cons q t=>.cons q (Vals.set r i t)
theorem Vals.append:∀ {xs ys:List V} {us ws:List Value},Vals xs us->Vals ys ws->Vals (xs++ys) (us++ws):=by
 intro xs
 induction xs with
 |nil=>intro ys us ws h s;cases h;exact s
 |cons x xs ih=>
  intro ys us ws h s;cases h with
  |cons r t=>exact .cons r (ih t s)
theorem Vals.take:∀ {xs:List V} {us:List Value} (n:Nat),Vals xs us->Vals (xs.take n) (us.take n)
 |_,_,0,_=>.nil
 |_,_,_+1,.nil=>.nil
 |_,_,n+1,.cons r t=>.cons r (Vals.take n t)
theorem Vals.drop:∀ {xs:List V} {us:List Value} (n:Nat),Vals xs us->Vals (xs.drop n) (us.drop n)
 |_,_,0,r=>r
 |_,_,_+1,.nil=>.nil
 |_,_,n+1,.cons _ t=>Vals.drop n t
noncomputable def RelO:Option V->Option Value->Prop
 |some v,some u=>RelV v u
 |none,none=>True
 |_,_=>False
noncomputable def KV {κ:Type}:List (κ×V)->List (κ×Value)->Prop:=Paired fun (p:κ×V) (q:κ×Value)=>p.1=q.1/\RelV p.2 q.2
noncomputable def kV:Key->V
 | .inl i=>.int i
 | .inr x=>.str x
inductive HO where
  |lst (xs:List V)
  |tup (xs:List V)
  |dK (kvs:List (Key×V))|dT (kvs:List (List Key×V))
  |set (S:Int->Bool)(n:Nat)
  |ins (C dx:Addr)(fs:List (Str×V))
  |own (x:Addr)
  |xd (fs:List (Str×V))
  |met (f x:Addr)
  |rng (lo hi:Int)
  |frz (o:Obj)(u:HO)
  |tbl (ps:Array Value)
  |ext (φ:Heap->Prop)
noncomputable abbrev Hp:=Addr->Option HO
noncomputable def upd (H:Hp)(a:Addr)(o:HO):Hp:=fun b=>if b=a then some o else H b
theorem zaH {H:Hp}{a:Addr}{o:HO}:upd H a o a=some o:=by unfold upd;rw [if_pos rfl]
theorem upd_ne {H:Hp}{a b:Addr}{o:HO}(h:b≠a):upd H a o b=H b:=by unfold upd;rw [if_neg h]
theorem zqS {H:Hp}{a:Addr}{o u:HO}:upd (upd H a o) a u=upd H a u:=by
 funext b;unfold upd;split<;>rfl
theorem za3 {H:Hp}{a b:Addr}{o:HO}(h:H a=some o)(h':H b=none):a≠b:=by
 intro e;subst e;rw [h] at h';cases h'
section
variable (P:Program)(w:World)
noncomputable def ObjOk (H:Hp)(h:Heap)(a:Addr):HO->Prop
 | .lst xs=>xs.length<=sizeLine/\∃ (its:List Value) (n:Nat),Vals xs its/\h.get? a=some {cls:=.type "list",data:=.seq its.toArray n}
 | .tup xs=>xs.length<=sizeLine/\∃ its:List Value,Vals xs its/\IsTup h a its.toArray
 | .dK kvs=>kvs.length<=sizeLine/\(a==sysModules)=false/\∃ vs,KV kvs vs/\h.DictOf (znB P w) a vs
 | .dT kvs=>kvs.length<=sizeLine/\(a==sysModules)=false/\∃ xs:List (List Key×Addr×Value),
   Paired (fun (p:List Key×V) (q:List Key×Addr×Value)=>p.1=q.1/\H q.2.1=some (.tup (p.1.map kV))/\RelV p.2 q.2.2) kvs xs/\
   ∃ o es ep,h.get? a=some o/\o.ExactDict/\o.data= .dict es ep/\es.toList=xs.map (entryOfKey (tupleKind (znB P w)))/\(xs.map (·.1)).Nodup
 | .set S n=>h.SetOf (intKind P w) a S n
 | .ins C dx fs=>H dx=some (.own a)/\fs.length<=1000/\dx≠a/\h.get? a=some (PySem.W.instObj C dx)/\
   ∃ mA,h.Ns1 dx mA/\(∀ f,RelO (fs.lookup f) (mA f))/\PySem.Within mA (fs.map (·.1))
 | .own _=>∃ o,h.get? a=some o
 | .xd fs=>∃ mA,h.Ns1 a mA/\∀ f,RelO (fs.lookup f) (mA f)
 | .rng lo hi=>∃ t u v,h.get? a=some {cls:=.type "range",data:=.fields #[.int lo t,.int hi u,.int 1 v]}
 | .frz o u=>h.get? a=some o/\ObjOk H h a u
 | .tbl ps=>h.get? a=some {cls:=.none,data:=.fields ps}
 | .met f x=>h.get? a=some (PySem.W.methodObj (.ref f) (.ref x))
 | .ext φ=>φ h/\(∃ o,h.get? a=some o)/\∀ h1 h2:Heap,φ h1->(∀ o,h1.get? a=some o->h2.get? a=some o)->φ h2
noncomputable def HOk (H:Hp)(h:Heap):Prop:=∀ a o,H a=some o->ObjOk P w H h a o
end
section
variable {P:Program}{w:World}{H H':Hp}{h h':Heap}{a:Addr}{o:HO}
theorem ObjOk.lt (x:ObjOk P w H h a o):a<h.objs.size:=by
 cases o with
 |lst xs=>obtain ⟨_,_,_,_,e⟩:=x;exact Heap.lt_size e
 |tup xs=>obtain ⟨_,_,_,p⟩:=x;exact p.lt
 |dK kvs=>obtain ⟨_,_,_,_,o,_,_,e,_⟩:=x;exact Heap.lt_size e
 |dT kvs=>obtain ⟨_,_,_,_,o,_,_,e,_⟩:=x;exact Heap.lt_size e
 |set S n=>obtain ⟨o,_,_,_,e,_⟩:=x;exact Heap.lt_size e
 |ins C dx fs=>obtain ⟨_,_,_,e,_⟩:=x;exact Heap.lt_size e
 |own y=>obtain ⟨_,e⟩:=x;exact Heap.lt_size e
 |xd fs=>obtain ⟨_,⟨_,_,_,e,_⟩,_⟩:=x;exact Heap.lt_size e
 |rng lo hi=>obtain ⟨_,_,_,e⟩:=x;exact Heap.lt_size e
 |frz ob u=>obtain ⟨e,_⟩:=x;exact Heap.lt_size e
 |tbl ps=>exact Heap.lt_size (show h.get? a=some _ from x)
 |met f y=>exact Heap.lt_size (show h.get? a=some _ from x)
 |ext φ=>obtain ⟨_,⟨_,e⟩,_⟩:=x;exact Heap.lt_size e
theorem Paired.mapP {α β:Type}{F G:α->β->Prop}:∀ {l₁:List α} {l₂:List β},Paired F l₁ l₂->(∀ a b,F a b->G a b)->Paired G l₁ l₂:=by
 intro l₁
 induction l₁ with
 |nil=>intro l₂ h f;cases h;exact .nil
 |cons x xs ih=>
  intro l₂ h f;cases h with
  |cons r t=>exact .cons (f _ _ r) (ih t f)
theorem ObjOk.stay (x:ObjOk P w H h a o)(k:∀ b u,(b=a\/H b=some (.own a))->h.get? b=some u->h'.get? b=some u)
  (ho:∀ b,H b=some (.own a)->H' b=some (.own a))(ht:∀ b xs,H b=some (.tup xs)->H' b=some (.tup xs)):ObjOk P w H' h' a o:=by
 induction o with
 |lst xs=>obtain ⟨z,its,n,r,e⟩:=x;exact ⟨z,its,n,r,k _ _ (.inl rfl) e⟩
 |tup xs=>obtain ⟨z,its,r,ob,e,c⟩:=x;exact ⟨z,its,r,ob,k _ _ (.inl rfl) e,c⟩
 |dK kvs=>obtain ⟨z,y,vs,r,ob,es,ep,e,c⟩:=x;exact ⟨z,y,vs,r,ob,es,ep,k _ _ (.inl rfl) e,c⟩
 |dT kvs=>
  obtain ⟨z,y,xs,r,ob,es,ep,e,c⟩:=x;exact ⟨z,y,xs,Paired.mapP r fun p q z=>⟨z.1,ht _ _ z.2.1,z.2.2⟩,ob,es,ep,k _ _ (.inl rfl) e,c⟩
 |set S n=>obtain ⟨ob,es,ep,t,e,c⟩:=x;exact ⟨ob,es,ep,t,k _ _ (.inl rfl) e,c⟩
 |ins C dx fs=>
  obtain ⟨d,z,ne,e,mA,⟨od,es,ep,e2,c⟩,r⟩:=x;exact ⟨ho _ d,z,ne,k _ _ (.inl rfl) e,mA,⟨od,es,ep,k _ _ (.inr d) e2,c⟩,r⟩
 |own y=>obtain ⟨ob,e⟩:=x;exact ⟨ob,k _ _ (.inl rfl) e⟩
 |xd fs=>obtain ⟨mA,⟨od,es,ep,e,c⟩,r⟩:=x;exact ⟨mA,⟨od,es,ep,k _ _ (.inl rfl) e,c⟩,r⟩
 |rng lo hi=>obtain ⟨t,u,v,e⟩:=x;exact ⟨t,u,v,k _ _ (.inl rfl) e⟩
 |frz ob u ih=>obtain ⟨e,q⟩:=x;exact ⟨k _ _ (.inl rfl) e,ih q⟩
 |tbl ps=>
  have e:h.get? a=some {cls:=.none,data:=.fields ps}:=x;show h'.get? a=some {cls:=.none,data:=.fields ps};exact k a _ (.inl rfl) e
 |met f y=>
  have e:h.get? a=some (PySem.W.methodObj (.ref f) (.ref y)):=x;show h'.get? a=some (PySem.W.methodObj (.ref f) (.ref y))
  exact k a _ (.inl rfl) e
 |ext φ=>obtain ⟨p,⟨o,e⟩,st⟩:=x;exact ⟨st _ _ p fun o q=>k _ _ (.inl rfl) q,⟨o,k _ _ (.inl rfl) e⟩,st⟩
theorem HOk.lt (x:HOk P w H h)(e:H a=some o):a<h.objs.size:=(x a o e).lt
theorem HOk.fresh (x:HOk P w H h)(e:h.objs.size<=a):H a=none:=by
 cases q:H a with
 |none=>rfl
 |some u=>exact absurd (Nat.lt_of_lt_of_le (x.lt q) e) (Nat.lt_irrefl _)
theorem HOk.kept (x:HOk P w H h)(k:∀ b u,h.get? b=some u->h'.get? b=some u):HOk P w H h':=fun a o e=>
 (x a o e).stay (fun b u _ q=>k b u q) (fun _ q=>q) fun _ _ q=>q
theorem HOk.laid (x:HOk P w H h)(k:∀ b u,h.get? b=some u->h'.get? b=some u)(hp:h.objs.size<=a)(new:ObjOk P w (upd H a o) h' a o):HOk P w (upd H a o) h':=fun b u e=>by
 have hn:=x.fresh hp;by_cases hb:b=a
 ·subst hb;rw [zaH] at e;cases e;exact new
 ·rw [upd_ne hb] at e;exact (x b u e).stay (fun c v _ q=>k c v q) (fun c q=>by rw [upd_ne (za3 q hn)];exact q) fun c xs q=>by rw [upd_ne (za3 q hn)];exact q
end
noncomputable def Rd (H:Hp)(a:Addr)(u:HO):Prop:=H a=some u\/∃ o,H a=some (.frz o u)
theorem Rd.of {H:Hp}{a:Addr}{u:HO}(h:H a=some u):Rd H a u:=.inl h
theorem Rd.ok {P:Program}{w:World}{H:Hp}{h:Heap}{a:Addr}{u:HO}(r:Rd H a u)(x:HOk P w H h):ObjOk P w H h a u:=by
 rcases r with r|⟨o,r⟩
 ·exact x a u r
 ·obtain ⟨_,q⟩:=x a _ r;exact q
noncomputable def Mut:Option HO->Prop
 |some (.lst _)=>True
 |some (.dK _)=>True
 |some (.dT _)=>True
 |some (.set _ _)=>True
 |some (.ins _ _ _)=>True
 |some (.ext _)=>True
 |_=>False
section
variable {P:Program}{w:World}{H:Hp}{h h':Heap}{x e:Addr}{o':HO}
theorem HOk.write (ok:HOk P w H h)(mu:Mut (H x))(he:e=x\/H e=some (.own x))(k:∀ b u,b≠e->h.get? b=some u->h'.get? b=some u)(heo:∃ u,h'.get? e=some u)
  (new:ObjOk P w (upd H x o') h' x o'):HOk P w (upd H x o') h':=fun b u q=>by
 have nown:∀ c y,H c=some (.own y)->c≠x:=fun c y r z=>by subst z;rw [r] at mu;exact mu
 have ntup:∀ c xs,H c=some (.tup xs)->c≠x:=fun c xs r z=>by subst z;rw [r] at mu;exact mu
 by_cases hb:b=x
 ·subst hb;rw [zaH] at q;cases q;exact new
 ·rw [upd_ne hb] at q;by_cases hbe:b=e
  ·have q':H b=some (.own x):=by
    rcases he with z|z
    ·exact absurd (hbe.trans z) hb
    ·rw [hbe];exact z
   rw [q] at q';cases q';obtain ⟨v,hv⟩:=heo;exact ⟨v,by rw [hbe];exact hv⟩
  ·refine (ok b u q).stay (fun c v hc r=>k c v ?_ r) (fun c r=>by rw [upd_ne (nown c b r)];exact r) fun c xs r=>by rw [upd_ne (ntup c xs r)];exact r
   rcases hc with rfl|hc
   ·exact hbe
   ·rintro rfl;rcases he with z|z
    ·exact nown c b hc z
    ·rw [hc] at z;cases z;exact hb rfl
end
structure Un (fs ex:List Addr)(H H':Hp)(h h':Heap):Prop where
 keep:∀ b o,h.get? b=some o->H b=none->b∉fs->b∉ex->h'.get? b=some o
 slot:∀ b o,h.get? b=some o->H b=none->b∈fs->b∉ex->∃ sl,h'.get? b=some {o with slots:=sl}
 free:∀ b o,h.get? b=some o->H b=none->b∉ex->H' b=none
 there:∀ b o,h.get? b=some o->b∉ex->∃ o',h'.get? b=some o'
 tups:∀ b xs,H b=some (.tup xs)->H' b=some (.tup xs)
 frzs:∀ b o u,H b=some (.frz o u)->H' b=some (.frz o u)
 tbls:∀ b ps,H b=some (.tbl ps)->∃ more,H' b=some (.tbl (ps++more))
section
variable {fs fs' ex ex':List Addr}{H H1 H2:Hp}{h h1 h2 h':Heap}{a x e:Addr}{o:HO}
theorem Un.any (u:Un fs ex H H1 h h1){b:Addr}{ob:Obj}(q:h.get? b=some ob)(n:H b=none)(hx:b∉ex):∃ sl,h1.get? b=some {ob with slots:=sl}:=by
 by_cases hb:b∈fs
 ·exact u.slot b ob q n hb hx
 ·exact ⟨ob.slots,u.keep b ob q n hb hx⟩
theorem Un.trans (a:Un fs ex H H1 h h1)(b:Un fs ex H1 H2 h1 h2):Un fs ex H H2 h h2 where
 keep:=fun c ob q n hc hx=>b.keep c ob (a.keep c ob q n hc hx) (a.free c ob q n hx) hc hx
 slot:=fun c ob q n hc hx=>by
  obtain ⟨sl,e1⟩:=a.slot c ob q n hc hx;obtain ⟨sl',e2⟩:=b.slot c _ e1 (a.free c ob q n hx) hc hx;exact ⟨sl',e2⟩
 free:=fun c ob q n hx=>by
  obtain ⟨o',e1⟩:=a.there c ob q hx;exact b.free c o' e1 (a.free c ob q n hx) hx
 there:=fun c ob q hx=>by
  obtain ⟨o',e1⟩:=a.there c ob q hx;exact b.there c o' e1 hx
 tups:=fun c xs q=>b.tups c xs (a.tups c xs q)
 frzs:=fun c ob xs q=>b.frzs c ob xs (a.frzs c ob xs q)
 tbls:=fun c ps q=>by
  obtain ⟨m1,e1⟩:=a.tbls c ps q;obtain ⟨m2,e2⟩:=b.tbls c _ e1;exact ⟨m1++m2,by rw [e2,Array.append_assoc]⟩
theorem Un.kept (k:∀ b u,h.get? b=some u->h'.get? b=some u):Un fs ex H H h h':=
 ⟨fun b ob q _ _ _=>k b ob q,fun b ob q _ _ _=>⟨ob.slots,k b ob q⟩,fun _ _ _ n _=>n,fun b ob q _=>⟨ob,k b ob q⟩,fun _ _ q=>q,fun _ _ _ q=>q,fun _ ps q=>⟨#[],by rw [q];simp⟩⟩
theorem Un.refl:Un fs ex H H h h:=Un.kept fun _ _ q=>q
theorem Un.laid (k:∀ b u,h.get? b=some u->h'.get? b=some u)(hp:h.objs.size<=a)(hn:H a=none):Un fs ex H (upd H a o) h h' where
 keep:=fun b u q _ _ _=>k b u q
 slot:=fun b u q _ _ _=>⟨u.slots,k b u q⟩
 free:=fun b u q n _=>by rw [upd_ne (Nat.ne_of_lt (Nat.lt_of_lt_of_le (Heap.lt_size q) hp))];exact n
 there:=fun b u q _=>⟨u,k b u q⟩
 tups:=fun b xs q=>by rw [upd_ne (za3 q hn)];exact q
 frzs:=fun b u xs q=>by rw [upd_ne (za3 q hn)];exact q
 tbls:=fun b ps q=>⟨#[],by rw [upd_ne (za3 q hn),q];simp⟩
theorem Un.write (mu:Mut (H x))(he:e=x\/H e=some (.own x))(k:∀ b u,b≠e->h.get? b=some u->h'.get? b=some u)(heo:∃ u,h'.get? e=some u):Un fs ex H (upd H x o) h h':=by
 have hx:∀ b,H b=none->b≠x:=fun b n z=>by subst z;rw [n] at mu;exact mu
 have hb:∀ b,H b=none->b≠e:=fun b n z=>by
  subst z;rcases he with r|r
  ·exact hx b n r
  ·rw [n] at r;cases r
 have hm:∀ b u,H b=some u->¬ Mut (some u)->b≠x:=fun b u q nm z=>by subst z;rw [q] at mu;exact nm mu
 refine ⟨fun b u q n _ _=>k b u (hb b n) q,fun b u q n _ _=>⟨u.slots,k b u (hb b n) q⟩,fun b u q n _=>by rw [upd_ne (hx b n)];exact n,fun b u q _=>?_,
  fun b xs q=>by rw [upd_ne (hm b _ q fun z=>z)];exact q,fun b u xs q=>by rw [upd_ne (hm b _ q fun z=>z)];exact q,fun b ps q=>⟨#[],by rw [upd_ne (hm b _ q fun z=>z),q];simp⟩⟩
 by_cases hbe:b=e
 ·subst hbe;exact heo
 ·exact ⟨u,k b u hbe q⟩
theorem Un.mono (u:Un fs ex H H1 h h1)(hs:∀ b∈fs,b∈fs')(hx:∀ b∈ex,b∈ex'):Un fs' ex' H H1 h h1:=
 ⟨fun b ob q n hb he=>u.keep b ob q n (fun z=>hb (hs b z)) fun z=>he (hx b z),fun _ _ q n _ he=>u.any q n fun z=>he (hx _ z),fun b ob q n he=>u.free b ob q n fun z=>he (hx b z),fun b ob q he=>u.there b ob q fun z=>he (hx b z),u.tups,u.frzs,u.tbls⟩
end
noncomputable def trk (h:Heap)(H:Hp):List Addr:=(List.range h.objs.size).filter fun a=>(H a).isSome
noncomputable def zpg (h:Heap)(H:Hp):Heap:=PySem.W.hideAll h (trk h H)
theorem znC (h:Heap)(H:Hp):(zpg h H).objs.size=h.objs.size:=PySem.W.hideAll_size _ _
theorem zph {h:Heap}{H:Hp}{b:Addr}{o:Obj}(e:h.get? b=some o)(n:H b=none):(zpg h H).get? b=some o:=
 PySem.W.hideAll_get _ e fun hm=>by
  have q:(H b).isSome=true:=(List.mem_filter.mp hm).2;rw [n] at q;simp at q
theorem zqT {h:Heap}{H:Hp}{b:Addr}{o:Obj}(e:(zpg h H).get? b=some o):h.get? b=some o/\H b=none:=by
 have e':h.get? b=some o:=PySem.W.of_hideAll (trk h H) e;refine ⟨e',?_⟩;cases q:H b with
 |none=>rfl
 |some x=>
  have hm:b∈trk h H:=List.mem_filter.mpr ⟨List.mem_range.mpr (Heap.lt_size e'),by simp [q]⟩;have z:(zpg h H).get? b=none:=PySem.W.hideAll_none (trk h H) hm;rw [z] at e;cases e
noncomputable def zqU (g h:Heap)(L:Addr):List (Addr×Obj):=(List.range h.objs.size).filterMap fun a=>if a=L\/(g.get? a).isSome=true then none else (h.get? a).map fun o=>(a,o)
noncomputable def rest (g h:Heap)(L d:Addr):List (Addr×Obj):=(zqU g h L).filter fun p=>decide (p.1≠d)
end L2
namespace L2
open PySem PySem.Spec PyProof.Rows
structure Mod (K:PySem.W.Frag)(mg:Str->Option Value)(base:Heap):Prop where
 kin:K.In base
 glob:base.Ns mainGlobals mg
 blt:∃ mb,base.Ns builtinsNs mb/\∀ x:Str,x≠"__name__"->mb x=bootBuiltins x
 nolimit:base.NoLimit
structure Cx where
 prog:Program
 w:World
 K:PySem.W.Frag
 mg:Str->Option Value
 base:Heap
 A:Around
 N:List Str
 s₀:Shared
 H₀:Hp
 env:Env
 outer:List Env
 stack:List Env
 ex:List Addr
 fn:Str->Bool
 calm:Bool
 pn:List (Addr×Obj)
 xe:Value->Shared->Prop
noncomputable def frs (l:List Env):List Addr:=l.filterMap (·.frame)
noncomputable abbrev Cx.fs (X:Cx):List Addr:=frs X.outer
noncomputable def Vis (sc:Scope)(x:Str):Prop:=sc.names.lookup x=some .local\/sc.names.lookup x=some .cell\/sc.names.lookup x=some .free
noncomputable def Loc (sc:Scope)(x:Str):Prop:=sc.names.lookup x=some .local\/sc.names.lookup x=some .cell
noncomputable def zuN (env:Env)(h:Heap)(m:Str->Option Value)(x:Str)(u:Value):Prop:=
 (env.kindOf x=some .local/\m x=some u)\/((env.kindOf x=some .cell\/env.kindOf x=some .free)/\∃ c,env.cells.lookup x=some c/\h.IsCell c (some u))
structure Cx.Ok (X:Cx):Prop where
 mod:Mod X.K X.mg X.base
 kind:X.env.scope.kind= .function
 glob:X.env.globals=mainGlobals
 blt:X.env.builtins=builtinsNs
 above:X.s₀.heap.objs.size<=X.env.locals
 inj:∀ x y c,X.env.cells.lookup x=some c->X.env.cells.lookup y=some c->x=y
 has:∀ x,(X.env.kindOf x=some .cell\/X.env.kindOf x=some .free)->∃ c,X.env.cells.lookup x=some c
 cab:∀ x c,X.fn x=true->X.env.cells.lookup x=some c->X.s₀.heap.objs.size<=c
 hd:X.calm=true->X.A.handled=none
 frames:X.A.frames=some X.stack
 stk:X.stack=X.outer\/(X.stack=X.env::X.outer/\X.env.frame=some X.env.locals)
 exf:∀ b∈X.ex,b≠X.env.locals/\∀ x c,X.env.cells.lookup x=some c->c≠b
 bs:∀ b o,X.base.get? b=some o->X.s₀.heap.get? b=some o/\X.H₀ b=none
 bsz:X.base.objs.size<=X.s₀.heap.objs.size
 noex:∀ b o,X.base.get? b=some o->b∉X.ex
 exfs:∀ b∈X.ex,b∉X.fs
 funs:X.s₀.heap.FunFrames X.base X.outer
 frf:∀ b∈X.fs,X.H₀ b=none
structure Inv (X:Cx)(pins:List (Addr×Obj))(σ:List (Option V))(H:Hp)(s:Shared):Prop where
 ok:X.Ok
 os:s.os=X.s₀.os
 bare:AllBare s.gens
 base:Un X.fs X.ex X.H₀ H X.s₀.heap s.heap
 loc:∃ m,s.heap.Ns X.env.locals m/\∀ (i:Nat) (x:Str) (v:V),X.N[i]? =some x->σ[i]? =some (some v)->Vis X.env.scope x->∃ u,RelV v u/\zuN X.env s.heap m x u
 cell:∀ x c,X.env.cells.lookup x=some c->∃ v,s.heap.IsCell c v
 free:H X.env.locals=none
 freeC:∀ x c,X.env.cells.lookup x=some c->H c=none
 pin:∀ p∈X.pn++pins,s.heap.get? p.1=some p.2/\H p.1=none/\p.1≠X.env.locals/\p.1∉X.fs/\∀ v,p.2.data≠ .cell v
 hok:HOk X.prog X.w H s.heap
 len:σ.length=X.N.length
section
variable {X:Cx}{pins:List (Addr×Obj)}{σ:List (Option V)}{H H':Hp}{s:Shared}{h':Heap}
theorem Cx.Ok.nofr (ok:X.Ok){b:Addr}{o:Obj}(e:X.base.get? b=some o):b∉X.fs:=fun hb=>by
 have:=(ok.funs.mem hb).1;rw [e] at this;cases this
theorem Inv.bs (I:Inv X pins σ H s):∀ b o,X.base.get? b=some o->s.heap.get? b=some o/\H b=none:=fun b o e=>
 ⟨I.base.keep b o (I.ok.bs b o e).1 (I.ok.bs b o e).2 (I.ok.nofr e) (I.ok.noex b o e),I.base.free b o (I.ok.bs b o e).1 (I.ok.bs b o e).2 (I.ok.noex b o e)⟩
theorem Inv.bk (I:Inv X pins σ H s):∀ b o,X.base.get? b=some o->s.heap.get? b=some o:=fun b o e=>(I.bs b o e).1
theorem Inv.mod (I:Inv X pins σ H s):Mod X.K X.mg X.base:=I.ok.mod
theorem Inv.kIn (I:Inv X pins σ H s):X.K.In s.heap:=I.ok.mod.kin.keeps I.bk
theorem Inv.nolimit (I:Inv X pins σ H s):s.heap.NoLimit:=I.ok.mod.nolimit.keeps I.bk
theorem Inv.fr (I:Inv X pins σ H s):∃ m,Fr X.base X.env.locals s.heap m:=
 let ⟨m,hn,_⟩:=I.loc
 ⟨m,hn,I.bk,Nat.le_trans I.ok.bsz I.ok.above⟩
theorem Inv.lt (I:Inv X pins σ H s):X.env.locals<s.heap.objs.size:=let ⟨_,hn,_⟩:=I.loc;hn.lt
theorem Inv.sz (I:Inv X pins σ H s):X.s₀.heap.objs.size<=s.heap.objs.size:=Nat.le_trans I.ok.above (Nat.le_of_lt I.lt)
theorem Inv.nofs (I:Inv X pins σ H s){a:Addr}(h:s.heap.objs.size<=a):a∉X.fs:=fun hb=>by
 obtain ⟨_,o,ho,_⟩:=I.ok.funs.mem hb;exact absurd (Nat.lt_of_lt_of_le (Heap.lt_size ho) (Nat.le_trans I.sz h)) (Nat.lt_irrefl _)
theorem Inv.cne (I:Inv X pins σ H s):∀ x c,X.env.cells.lookup x=some c->c≠X.env.locals:=fun x c e z=>by
 obtain ⟨v,o,ho,hd⟩:=I.cell x c e;obtain ⟨m,⟨o',es,ep,ho',hd',_⟩,_⟩:=I.loc;rw [z,ho'] at ho;cases ho;rw [hd'] at hd;cases hd
theorem Inv.funs (I:Inv X pins σ H s):s.heap.FunFrames X.base X.outer:=by
 have all:∀ (l:List Env),(∀ b∈frs l,b∈X.fs)->X.s₀.heap.FunFrames X.base l->s.heap.FunFrames X.base l:=by
  intro l
  induction l with
  |nil=>intro _ _;trivial
  |cons env r ih=>
   intro hs hl;obtain ⟨hk,⟨L,o,hf,hn,ho,hd⟩,hr⟩:=hl;have hL:L∈X.fs:=hs L (by unfold frs;rw [List.filterMap_cons,hf];exact List.mem_cons_self);obtain ⟨sl,e⟩:=I.base.slot L o ho (I.ok.frf L hL) hL fun z=>I.ok.exfs L z hL;exact ⟨hk,⟨L,_,hf,hn,e,hd⟩,ih (fun b hb=>hs b (by unfold frs;rw [List.filterMap_cons,hf];exact List.mem_cons_of_mem _ hb)) hr⟩
 exact all X.outer (fun _ hb=>hb) I.ok.funs
theorem Inv.stack (I:Inv X pins σ H s):s.heap.FunFrames X.base X.stack:=by
 rcases I.ok.stk with e|⟨e,hf⟩
 ·rw [e];exact I.funs
 ·rw [e];obtain ⟨m,hn,_⟩:=I.loc;refine .cons (by rw [I.ok.kind];decide) hf hn ?_ I.funs;exact Heap.get?_none_of_le (Nat.le_trans I.ok.bsz I.ok.above)
theorem Inv.stkSub (I:Inv X pins σ H s):∀ b∈frs X.stack,b∈X.env.locals::X.fs:=fun b hb=>by
 rcases I.ok.stk with e|⟨e,hf⟩
 ·rw [e] at hb;exact List.mem_cons_of_mem _ hb
 ·rw [e] at hb;unfold frs at hb;rw [List.filterMap_cons,hf] at hb;exact hb
theorem Inv.stkFree (I:Inv X pins σ H s):∀ b∈frs X.stack,H b=none:=fun b hb=>by
 rcases List.mem_cons.mp (I.stkSub b hb) with e|hb
 ·rw [e];exact I.free
 ·obtain ⟨_,o,ho,_⟩:=I.ok.funs.mem hb;exact I.base.free b o ho (I.ok.frf b hb) fun z=>I.ok.exfs b z hb
theorem Inv.step {g':Array GenState}{t':Nat}{d':Drawn}{ch:List Addr}(I:Inv X pins σ H s)
  (hch:∀ b∈ch,(b∈X.ex\/X.s₀.heap.objs.size<=b)/\b≠X.env.locals/\(∀ x c,X.env.cells.lookup x=some c->c≠b)/\∀ p∈X.pn++pins,p.1≠b)
  (keep:∀ b o,b≠X.env.locals->b∉X.fs->b∉ch->s.heap.get? b=some o->H b=none->h'.get? b=some o)
  (slot:∀ b o,b≠X.env.locals->b∈X.fs->b∉ch->s.heap.get? b=some o->H b=none->∃ sl,h'.get? b=some {o with slots:=sl})(free:∀ b o,b∉ch->s.heap.get? b=some o->H b=none->H' b=none)
  (there:∀ b o,b∉ch->s.heap.get? b=some o->∃ o',h'.get? b=some o')
  (tups:∀ b xs,H b=some (.tup xs)->H' b=some (.tup xs))(frzs:∀ b o u,H b=some (.frz o u)->H' b=some (.frz o u))(tbls:∀ b ps,H b=some (.tbl ps)->∃ more,H' b=some (.tbl (ps++more)))
  (ns:∀ m,s.heap.Ns X.env.locals m->h'.Ns X.env.locals m)(hok:HOk X.prog X.w H' h')(hg:AllBare g'):
  Inv X pins σ H' {s with heap:=h',gens:=g',drawn:=d',toks:=t'}:=by
 have neL:∀ b o,X.s₀.heap.get? b=some o->b≠X.env.locals:=fun b o e=>Nat.ne_of_lt (Nat.lt_of_lt_of_le (Heap.lt_size e) I.ok.above);have neC:∀ b o,X.s₀.heap.get? b=some o->b∉X.ex->b∉ch:=fun b o e hx hb=>by
  rcases (hch b hb).1 with z|z
  ·exact hx z
  ·exact absurd (Nat.lt_of_lt_of_le (Heap.lt_size e) z) (Nat.lt_irrefl _)
 have cellK:∀ x c,X.env.cells.lookup x=some c->∀ v,s.heap.IsCell c v->h'.IsCell c v:=fun x c e v ⟨o,ho,hd⟩=>by
  have nch:c∉ch:=fun z=>(hch c z).2.2.1 x c e rfl;by_cases hc:c∈X.fs
  ·obtain ⟨sl,q⟩:=slot c o (I.cne x c e) hc nch ho (I.freeC x c e);exact ⟨_,q,hd⟩
  ·exact ⟨o,keep c o (I.cne x c e) hc nch ho (I.freeC x c e),hd⟩
 refine ⟨I.ok,I.os,hg,⟨fun b o e n hb hx=>?_,fun b o e n hb hx=>?_,fun b o e n hx=>?_,fun b o e hx=>?_,fun b xs e=>tups b xs (I.base.tups b xs e),fun b o xs e=>frzs b o xs (I.base.frzs b o xs e),fun b ps e=>?_⟩,?_,fun x c e=>?_,?_,fun x c e=>?_,fun p hp=>?_,hok,I.len⟩
 ·exact keep b o (neL b o e) hb (neC b o e hx) (I.base.keep b o e n hb hx) (I.base.free b o e n hx)
 ·obtain ⟨sl,e1⟩:=I.base.slot b o e n hb hx;obtain ⟨sl',e2⟩:=slot b _ (neL b o e) hb (neC b o e hx) e1 (I.base.free b o e n hx);exact ⟨sl',e2⟩
 ·obtain ⟨o',e1⟩:=I.base.there b o e hx;exact free b o' (neC b o e hx) e1 (I.base.free b o e n hx)
 ·obtain ⟨o',e1⟩:=I.base.there b o e hx;exact there b o' (neC b o e hx) e1
 ·obtain ⟨m1,e1⟩:=I.base.tbls b ps e;obtain ⟨m2,e2⟩:=tbls b _ e1;exact ⟨m1++m2,by rw [e2,Array.append_assoc]⟩
 ·obtain ⟨m,hn,hl⟩:=I.loc;refine ⟨m,ns m hn,fun i x v e1 e2 e3=>?_⟩;obtain ⟨u,r,l⟩:=hl i x v e1 e2 e3;refine ⟨u,r,?_⟩;rcases l with l|⟨k,c,e,z⟩
  ·exact .inl l
  ·exact .inr ⟨k,c,e,cellK x c e _ z⟩
 ·obtain ⟨v,z⟩:=I.cell x c e;exact ⟨v,cellK x c e v z⟩
 ·obtain ⟨m,⟨o,_,_,ho,_⟩,_⟩:=I.loc;exact free _ o (fun z=>(hch _ z).2.1 rfl) ho I.free
 ·obtain ⟨v,o,ho,hd⟩:=I.cell x c e;exact free c o (fun z=>(hch c z).2.2.1 x c e rfl) ho (I.freeC x c e)
 ·obtain ⟨e,n,ne,nf,d⟩:=I.pin p hp;have nch:p.1∉ch:=fun z=>(hch p.1 z).2.2.2 p hp rfl;exact ⟨keep p.1 p.2 ne nf nch e n,free p.1 p.2 nch e n,ne,nf,d⟩
theorem Inv.un {t':Nat}(I:Inv X pins σ H s)(u:Un X.fs [] H H' s.heap h')(hok:HOk X.prog X.w H' h'):Inv X pins σ H' {s with heap:=h',toks:=t'}:=by
 obtain ⟨m,⟨o,es,ep,ho,r⟩,_⟩:=id I.loc;obtain ⟨sl,hL⟩:=u.any ho I.free (by simp);exact I.step (g':=s.gens) (d':=s.drawn) (ch:=[]) (fun _ z=>nomatch z) (fun b o _ hb _ e n=>u.keep b o e n hb (by simp)) (fun b o _ hb _ e n=>u.slot b o e n hb (by simp)) (fun b o _ e n=>u.free b o e n (by simp)) (fun b o _ e=>u.there b o e (by simp)) u.tups u.frzs u.tbls (fun m' hm=>by
  obtain ⟨o',es',ep',ho',r'⟩:=hm;rw [ho] at ho';cases ho';exact ⟨_,es',ep',hL,r'⟩) hok I.bare
theorem Inv.call {g':Array GenState}{t':Nat}{d':Drawn}{ch:List Addr}(I:Inv X pins σ H s)(u:Un (frs X.stack) ch H H' s.heap h')(hok:HOk X.prog X.w H' h')(hg:AllBare g')
  (hch:∀ b∈ch,(b∈X.ex\/X.s₀.heap.objs.size<=b)/\b≠X.env.locals/\(∀ x c,X.env.cells.lookup x=some c->c≠b)/\∀ p∈X.pn++pins,p.1≠b):
  Inv X pins σ H' {s with heap:=h',gens:=g',drawn:=d',toks:=t'}:=by
 obtain ⟨m,⟨o,es,ep,ho,r⟩,_⟩:=id I.loc;obtain ⟨sl,hL⟩:=u.any ho I.free fun z=>(hch _ z).2.1 rfl;exact I.step (ch:=ch) hch (fun b o hL hb hc e n=>u.keep b o e n (fun z=>(List.mem_cons.mp (I.stkSub b z)).elim hL hb) hc) (fun b o _ _ hc e n=>u.any e n hc) (fun b o hc e n=>u.free b o e n hc) (fun b o hc e=>u.there b o e hc) u.tups u.frzs u.tbls (fun m' hm=>by
  obtain ⟨o',es',ep',ho',r'⟩:=hm;rw [ho] at ho';cases ho';exact ⟨_,es',ep',hL,r'⟩) hok hg
theorem Inv.turned {t':Nat}{it:Addr}(I:Inv X pins σ H s)(k:∀ b o,b≠it->s.heap.get? b=some o->h'.get? b=some o)(hn:H it=none)(hL:it≠X.env.locals)
  (h1:it∈X.ex\/X.s₀.heap.objs.size<=it)(h2:∀ x c,X.env.cells.lookup x=some c->c≠it)(h3:∀ p∈X.pn++pins,p.1≠it):Inv X pins σ H {s with heap:=h',toks:=t'}:=by
 have nit:∀ b u,H b=some u->b≠it:=fun b u e z=>by rw [z,hn] at e;cases e
 refine I.step (g':=s.gens) (d':=s.drawn) (ch:=[it]) (fun b hb=>?_) (fun b o _ _ hc e _=>k b o (fun z=>hc (by simp [z])) e) (fun b o _ _ hc e _=>⟨o.slots,k b o (fun z=>hc (by simp [z])) e⟩) (fun _ _ _ _ n=>n)
  (fun b o hc e=>⟨o,k b o (fun z=>hc (by simp [z])) e⟩) (fun _ _ e=>e) (fun _ _ _ e=>e) (fun b ps e=>⟨#[],by rw [e];simp⟩) (fun m hm=>?_) (fun b u e=>?_) I.bare
 ·have e:b=it:=by simpa using hb
  subst e;exact ⟨h1,hL,h2,h3⟩
 ·obtain ⟨o,es,ep,ho,r⟩:=hm;exact ⟨o,es,ep,k _ o (Ne.symm hL) ho,r⟩
 ·refine (I.hok b u e).stay (fun c v hc q=>k c v ?_ q) (fun _ q=>q) fun _ _ q=>q;rcases hc with z|z
  ·rw [z];exact nit b u e
  ·exact nit c _ z
theorem Inv.tok (I:Inv X pins σ H s)(t:Nat):Inv X pins σ H {s with toks:=t}:=I.un (h':=s.heap) (t':=t) Un.refl I.hok
theorem Inv.kept {t':Nat}(I:Inv X pins σ H s)(k:∀ b u,s.heap.get? b=some u->h'.get? b=some u):Inv X pins σ H {s with heap:=h',toks:=t'}:=I.un (Un.kept k) (I.hok.kept k)
theorem Inv.laid {a:Addr}{o:HO}{t':Nat}(I:Inv X pins σ H s)(k:∀ b u,s.heap.get? b=some u->h'.get? b=some u)(hp:s.heap.objs.size<=a)(new:ObjOk X.prog X.w (upd H a o) h' a o):
  Inv X pins σ (upd H a o) {s with heap:=h',toks:=t'}:=I.un (Un.laid k hp (I.hok.fresh hp)) (I.hok.laid k hp new)
theorem Inv.write {x e:Addr}{o:HO}{t':Nat}(I:Inv X pins σ H s)(mu:Mut (H x))(he:e=x\/H e=some (.own x))(k:∀ b u,b≠e->s.heap.get? b=some u->h'.get? b=some u)(heo:∃ u,h'.get? e=some u)
  (new:ObjOk X.prog X.w (upd H x o) h' x o):Inv X pins σ (upd H x o) {s with heap:=h',toks:=t'}:=I.un (Un.write mu he k heo) (I.hok.write mu he k heo new)
theorem Inv.weak {σ':List (Option V)}(I:Inv X pins σ H s)(hl:σ'.length=σ.length)(w:∀ (i:Nat) v,σ'[i]? =some (some v)->σ[i]? =some (some v)):Inv X pins σ' H s:=
 ⟨I.ok,I.os,I.bare,I.base,let ⟨m,hn,hl'⟩:=I.loc;⟨m,hn,fun i x v e1 e2 e3=>hl' i x v e1 (w i v e2) e3⟩,I.cell,I.free,I.freeC,I.pin,I.hok,hl.trans I.len⟩
theorem Inv.pins_of {pins':List (Addr×Obj)}(I:Inv X pins σ H s)(h:∀ p∈pins',s.heap.get? p.1=some p.2/\H p.1=none/\p.1≠X.env.locals/\p.1∉X.fs/\∀ v,p.2.data≠ .cell v):Inv X pins' σ H s:=
 ⟨I.ok,I.os,I.bare,I.base,I.loc,I.cell,I.free,I.freeC,fun p hp=>(List.mem_append.mp hp).elim (fun z=>I.pin p (List.mem_append_left _ z)) (h p),I.hok,I.len⟩
theorem nodup_ix {N:List Str}(hN:N.Nodup){i j:Nat}{x:Str}(a:N[i]? =some x)(b:N[j]? =some x):i=j:=by
 obtain ⟨h1,e1⟩:=List.getElem?_eq_some_iff.mp a;obtain ⟨h2,e2⟩:=List.getElem?_eq_some_iff.mp b;exact (List.getElem_inj hN).mp (e1.trans e2.symm)
theorem zkk {M:Model}{A:Around}{E:Value->Shared->Prop}{i:Nat}{x:Str}{v:V}{u:Value}{Q:Unit->Shared->Prop}(I:Inv X pins σ H s)(hN:X.N.Nodup)(hi:X.N[i]? =some x)(hx:Loc X.env.scope x)(r:RelV v u)
  (h:∀ s',Inv X pins (σ.set i (some v)) H s'->(∃ a,Heap.SameBut a s.heap s'.heap/\(a=X.env.locals\/X.env.cells.lookup x=some a))->Q () s')(hf:X.fn x=true\/X.env.scope.names.lookup x=some .local:=by first|exact .inl rfl|exact .inr rfl|assumption):wpAny M A (storeName X.env x u) Q E s:=by
 obtain ⟨m,hn,hl⟩:=id I.loc;have hcls:(X.env.scope.kind== .class||(X.env.scope.kind== .module&&X.env.locals != X.env.globals))=false:=by rw [I.ok.kind];rfl
 have hiσ:i<σ.length:=by rw [I.len];exact (List.getElem?_eq_some_iff.mp hi).1
 have cne:=I.cne;have tracked:∀ {a:Addr} {h':Heap},(∃ o,s.heap.get? a=some o/\H a=none)->Heap.SameBut a s.heap h'->HOk X.prog X.w H h':=fun {a h'} ha hs b ob e=>by
  obtain ⟨_,_,hfree⟩:=ha;refine (I.hok b ob e).stay (fun c w' hc q=>(hs.2 c ?_).trans q) (fun _ q=>q) fun _ _ q=>q;rintro rfl;rcases hc with rfl|hc
  ·rw [hfree] at e;cases e
  ·rw [hfree] at hc;cases hc
 rcases hx with hk|hk
 ·refine wpAny_storeName_local hk hn (fun h' hn' hs=>?_) hcls;obtain ⟨oL,_,_,hoL,_⟩:=id hn;refine h _ ⟨I.ok,I.os,I.bare,⟨fun b o e n hb hx=>?_,fun b o e n hb hx=>?_,I.base.free,fun b o e hx=>?_,I.base.tups,I.base.frzs,I.base.tbls⟩,⟨_,hn',fun j y v' e1 e2 e3=>?_⟩,fun y c e=>?_,I.free,I.freeC,fun p hp=>?_,tracked ⟨oL,hoL,I.free⟩ hs,by simpa using I.len⟩ ⟨_,hs,.inl rfl⟩
  ·exact (hs.2 b (Nat.ne_of_lt (Nat.lt_of_lt_of_le (Heap.lt_size e) I.ok.above))).trans (I.base.keep b o e n hb hx)
  ·obtain ⟨sl,e1⟩:=I.base.slot b o e n hb hx;exact ⟨sl,(hs.2 b (Nat.ne_of_lt (Nat.lt_of_lt_of_le (Heap.lt_size e) I.ok.above))).trans e1⟩
  ·obtain ⟨o',e1⟩:=I.base.there b o e hx;exact ⟨o',(hs.2 b (Nat.ne_of_lt (Nat.lt_of_lt_of_le (Heap.lt_size e) I.ok.above))).trans e1⟩
  ·by_cases hj:j=i
   ·subst hj;rw [hi] at e1;cases e1;rw [List.getElem?_set_self hiσ] at e2;cases e2;exact ⟨u,r,.inl ⟨hk,by simp⟩⟩
   ·rw [List.getElem?_set_ne (Ne.symm hj)] at e2;obtain ⟨u',r',q⟩:=hl j y v' e1 e2 e3;refine ⟨u',r',?_⟩;rcases q with ⟨k,e⟩|⟨k,c,e,z⟩
    ·refine .inl ⟨k,?_⟩;have:y≠x:=fun e=>hj (nodup_ix hN e1 (e▸hi));simp [this,e]
    ·exact .inr ⟨k,c,e,z.sameBut hs (cne y c e)⟩
  ·obtain ⟨w',z⟩:=I.cell y c e;exact ⟨w',z.sameBut hs (cne y c e)⟩
  ·obtain ⟨e,n,ne,nf,d⟩:=I.pin p hp;exact ⟨(hs.2 p.1 ne).trans e,n,ne,nf,d⟩
 ·have hfn:X.fn x=true:=by
   rcases hf with z|z
   ·exact z
   ·rw [z] at hk;cases hk
  obtain ⟨c,hc⟩:=I.ok.has x (.inl hk);obtain ⟨w',z⟩:=I.cell x c hc;refine wpAny_storeName_cell I.ok.kind hk hc z (fun h' hc' hs=>?_);obtain ⟨oc,hoc,hocd⟩:=id z;refine h {s with heap:=h'} ⟨I.ok,I.os,I.bare,⟨fun b o e n hb hx=>?_,fun b o e n hb hx=>?_,I.base.free,fun b o e hx=>?_,I.base.tups,I.base.frzs,I.base.tbls⟩,⟨m,hn.sameBut hs (Ne.symm (cne x c hc)),fun j y v' e1 e2 e3=>?_⟩,fun y c' e=>?_,I.free,I.freeC,fun p hp=>?_,tracked ⟨oc,hoc,I.freeC x c hc⟩ hs,by simpa using I.len⟩ ⟨c,hs,.inr hc⟩
  ·exact (hs.2 b (Nat.ne_of_lt (Nat.lt_of_lt_of_le (Heap.lt_size e) (I.ok.cab x c hfn hc)))).trans (I.base.keep b o e n hb hx)
  ·obtain ⟨sl,e1⟩:=I.base.slot b o e n hb hx;exact ⟨sl,(hs.2 b (Nat.ne_of_lt (Nat.lt_of_lt_of_le (Heap.lt_size e) (I.ok.cab x c hfn hc)))).trans e1⟩
  ·obtain ⟨o',e1⟩:=I.base.there b o e hx;exact ⟨o',(hs.2 b (Nat.ne_of_lt (Nat.lt_of_lt_of_le (Heap.lt_size e) (I.ok.cab x c hfn hc)))).trans e1⟩
  ·by_cases hj:j=i
   ·subst hj;rw [hi] at e1;cases e1;rw [List.getElem?_set_self hiσ] at e2;cases e2;exact ⟨u,r,.inr ⟨.inl hk,c,hc,hc'⟩⟩
   ·rw [List.getElem?_set_ne (Ne.symm hj)] at e2;obtain ⟨u',r',q⟩:=hl j y v' e1 e2 e3;refine ⟨u',r',?_⟩;rcases q with q|⟨k,c',e,z'⟩
    ·exact .inl q
    ·refine .inr ⟨k,c',e,z'.sameBut hs ?_⟩;rintro rfl;exact hj (nodup_ix hN e1 (I.ok.inj _ _ _ e hc▸hi))
  ·by_cases hcc:c'=c
   ·subst hcc;exact ⟨_,hc'⟩
   ·obtain ⟨w2,z2⟩:=I.cell y c' e;exact ⟨w2,z2.sameBut hs hcc⟩
  ·obtain ⟨e,n,ne,nf,d⟩:=I.pin p hp;refine ⟨(hs.2 p.1 ?_).trans e,n,ne,nf,d⟩;intro q;rw [q,hoc] at e;have q':oc=p.2:=Option.some.inj e;exact d w' (by rw [<-q'];exact hocd)
theorem store_ok {M:Model}{A:Around}{E:Value->Shared->Prop}{i:Nat}{x:Str}{v:V}{u:Value}{Q:Unit->Shared->Prop}(I:Inv X pins σ H s)(hN:X.N.Nodup)(hi:X.N[i]? =some x)(hx:Loc X.env.scope x)(r:RelV v u)
  (h:∀ s',Inv X pins (σ.set i (some v)) H s'->Q () s')(hf:X.fn x=true\/X.env.scope.names.lookup x=some .local:=by first|exact .inl rfl|exact .inr rfl|assumption):wpAny M A (storeName X.env x u) Q E s:=
 zkk I hN hi hx r (fun s' I' _=>h s' I') hf
theorem Inv.call' {s':Shared}{ch:List Addr}(I:Inv X pins σ H s)(ho:s'.os=s.os)(u:Un (frs X.stack) ch H H' s.heap s'.heap)(hok:HOk X.prog X.w H' s'.heap)(hg:AllBare s'.gens)
  (hch:∀ b∈ch,(b∈X.ex\/X.s₀.heap.objs.size<=b)/\b≠X.env.locals/\(∀ x c,X.env.cells.lookup x=some c->c≠b)/\∀ p∈X.pn++pins,p.1≠b):Inv X pins σ H' s':=by
 obtain ⟨h',g',d',t',o'⟩:=s';have e:o'=s.os:=ho;subst e;exact I.call (g':=g') (t':=t') (d':=d') u hok hg hch
end
noncomputable abbrev XK:=Value->Option Addr->Hp->Prop
noncomputable abbrev St:=List (Option V)
noncomputable abbrev VK:=V->Hp->Prop
noncomputable abbrev TE:=St->Hp->VK->Prop
noncomputable abbrev TT:=St->Hp->(Bool->Hp->Prop)->Prop
noncomputable abbrev TA:=St->Hp->(List V->Hp->Prop)->Prop
structure Ends where
 nx:St->Hp->Prop
 rt:VK
 bk:St->Hp->Prop:=fun _ _=>False
 ct:St->Hp->Prop:=fun _ _=>False
noncomputable abbrev TS:=Ends->St->Hp->Prop
noncomputable def EP (X:Cx)(pins:List (Addr×Obj))(σ:St)(Q:VK)(u:Value)(s':Shared):Prop:=∃ v H',Inv X pins σ H' s'/\RelV v u/\Q v H'
noncomputable def TP (X:Cx)(pins:List (Addr×Obj))(σ:St)(Q:Bool->Hp->Prop)(b:Bool)(s':Shared):Prop:=∃ H',Inv X pins σ H' s'/\Q b H'
noncomputable def AP (X:Cx)(pins:List (Addr×Obj))(σ:St)(Q:List V->Hp->Prop)(us:List Value)(s':Shared):Prop:=∃ vs H',Inv X pins σ H' s'/\Vals vs us/\Q vs H'
noncomputable def SP (X:Cx)(pins:List (Addr×Obj))(D:Ends)(f:Flow)(s':Shared):Prop:=
 match f with
 | .next=>∃ σ' H',Inv X pins σ' H' s'/\D.nx σ' H'
 | .brk=>∃ σ' H',Inv X pins σ' H' s'/\D.bk σ' H'
 | .cont=>∃ σ' H',Inv X pins σ' H' s'/\D.ct σ' H'
 | .ret u=>∃ v σ' H',Inv X pins σ' H' s'/\RelV v u/\D.rt v H'
noncomputable def PE (X:Cx)(e:Expr)(t:TE):Prop:=
 ∀ (pins:List (Addr×Obj)) (s:Shared) (σ:St) (H:Hp) (Q:VK),Inv X pins σ H s->t σ H Q->wpAny (model X.prog X.w) X.A (eval e X.env) (EP X pins σ Q) X.xe s
noncomputable def PT (X:Cx)(e:Expr)(t:TT):Prop:=
 ∀ (pins:List (Addr×Obj)) (s:Shared) (σ:St) (H:Hp) (Q:Bool->Hp->Prop),Inv X pins σ H s->t σ H Q->wpAny (model X.prog X.w) X.A (isTrue e X.env (eval e X.env)) (TP X pins σ Q) X.xe s
noncomputable def PW (X:Cx)(e:Expr)(t:TT):Prop:=
 ∀ (whole:Sem Value) (pins:List (Addr×Obj)) (s:Shared) (σ:St) (H:Hp) (Q:Bool->Hp->Prop),Inv X pins σ H s->t σ H Q->wpAny (model X.prog X.w) X.A (isTrue e X.env whole) (TP X pins σ Q) X.xe s
theorem PW.pt {X:Cx}{e:Expr}{t:TT}(h:PW X e t):PT X e t:=h _
noncomputable def PA (X:Cx)(es:List Expr)(t:TA):Prop:=
 ∀ (pos:Pos) (pins:List (Addr×Obj)) (s:Shared) (σ:St) (H:Hp) (Q:List V->Hp->Prop),Inv X pins σ H s->t σ H Q->wpAny (model X.prog X.w) X.A (spliced (backTo pos (starEach es X.env))) (AP X pins σ Q) X.xe s
noncomputable def PS (X:Cx)(st:Stmt)(t:TS):Prop:=
 ∀ (pins:List (Addr×Obj)) (s:Shared) (σ:St) (H:Hp) (D:Ends),Inv X pins σ H s->t D σ H->wpAny (model X.prog X.w) X.A (exec st X.env) (SP X pins D) X.xe s
noncomputable def PSs (X:Cx)(st:List Stmt)(t:TS):Prop:=
 ∀ (pins:List (Addr×Obj)) (s:Shared) (σ:St) (H:Hp) (D:Ends),Inv X pins σ H s->t D σ H->wpAny (model X.prog X.w) X.A (execs st X.env) (SP X pins D) X.xe s
theorem thn {α:Type}{t:Sem α}{Q Q':α->Shared->Prop}{M:Model}{A:Around}{E:Value->Shared->Prop}{s:Shared}(h:wpAny M A t Q E s)(hQ:∀ a s,Q a s->Q' a s):wpAny M A t Q' E s:=wpAny_mono h hQ fun _ _ x=>x
end L2
namespace L2
open PySem PySem.Spec PyProof.Rows
section
variable {X:Cx}
noncomputable def zuO (i:Nat):TE:=fun σ H Q=>∃ v,σ[i]? =some (some v)/\Q v H
noncomputable def tC (v:V):TE:=fun _ H Q=>Q v H
theorem zdU {i:Nat}{x:Str}{pos:Pos}(hN:X.N[i]? =some x)(hv:Vis X.env.scope x)(hd:(x==("__debug__":Str))=false:=by decide)(hcd:(x==("__classdict__":Str))=false:=by decide):PE X (.Name x pos) (zuO i):=by
 intro pins s σ H Q I h;obtain ⟨v,e,h⟩:=h;obtain ⟨m,hn,hl⟩:=I.loc;obtain ⟨u,r,l⟩:=hl i x v hN e hv;have fin:EP X pins σ Q u s:=⟨v,H,I,r,h⟩;rcases l with ⟨hk,hm⟩|⟨hk,c,hc,hcell⟩
 ·exact wpAny_Name (wpAny_loadName_local I.ok.kind hk hn hm fin) hd
 ·rcases hk with hk|hk
  ·exact wpAny_Name (wpAny_loadName_cell I.ok.kind hk hc hcell fin) hd
  ·exact wpAny_Name (wpAny_loadName_free I.ok.kind hk hc hcell fin hcd) hd
theorem zss {i j pos}:PE X (.Constant (.int i) j pos) (tC (.int i)):=fun _ _ _ H _ I h=>wpAny_Constant_int ⟨.int i,H,I.tok _,⟨_,rfl⟩,h⟩
theorem ztT {b j pos}:PE X (.Constant (.bool b) j pos) (tC (.bl b)):=fun _ _ _ H _ I h=>Constant_bool ⟨.bl b,H,I,rfl,h⟩
theorem zst {j pos}:PE X (.Constant .none j pos) (tC .non):=fun _ _ _ H _ I h=>Constant_none ⟨.non,H,I,rfl,h⟩
noncomputable def Gl (X:Cx)(x:Str):Prop:=X.env.kindOf x=some .globalImplicit
theorem ld_glob {E:Value->Shared->Prop}{pins:List (Addr×Obj)}{s:Shared}{σ:St}{H:Hp}{x:Str}{u:Value}{pos:Pos}{Q:Value->Shared->Prop}(I:Inv X pins σ H s)(hg:Gl X x)(hm:X.mg x=some u)(h:Q u s)
  (hd:(x==("__debug__":Str))=false:=by decide):wpAny (model X.prog X.w) X.A (eval (.Name x pos) X.env) Q E s:=
 Calls.Name_function_global I.ok.kind hg (Calls.loadGlobal_global (by rw [I.ok.glob];exact I.mod.glob.keeps I.bk) hm h) hd
theorem ld_blt {E:Value->Shared->Prop}{pins:List (Addr×Obj)}{s:Shared}{σ:St}{H:Hp}{x:Str}{u:Value}{pos:Pos}{Q:Value->Shared->Prop}(I:Inv X pins σ H s)(hg:Gl X x)(hm:X.mg x=none)(hv:bootBuiltins x=some u)(h:Q u s)
  (hn:x≠"__name__":=by decide)(hd:(x==("__debug__":Str))=false:=by decide):wpAny (model X.prog X.w) X.A (eval (.Name x pos) X.env) Q E s:=by
 obtain ⟨mb,h1,h2⟩:=I.mod.blt;exact Calls.Name_function_global I.ok.kind hg (Calls.loadGlobal_builtin (by rw [I.ok.glob];exact I.mod.glob.keeps I.bk) hm (by rw [I.ok.blt];exact h1.keeps I.bk) ((h2 x hn).trans hv) h) hd
theorem znD {x:Str}{v:V}{u:Value}{pos:Pos}(hg:Gl X x)(hm:X.mg x=some u)(r:RelV v u)(hd:(x==("__debug__":Str))=false:=by decide):PE X (.Name x pos) (tC v):=
 fun _ _ _ H _ I h=>ld_glob I hg hm ⟨v,H,I,r,h⟩ hd
theorem zqV {x:Str}{v:V}{u:Value}{pos:Pos}(hg:Gl X x)(hm:X.mg x=none)(hv:bootBuiltins x=some u)(r:RelV v u)(hn:x≠"__name__":=by decide)(hd:(x==("__debug__":Str))=false:=by decide):PE X (.Name x pos) (tC v):=
 fun _ _ _ H _ I h=>ld_blt I hg hm hv ⟨v,H,I,r,h⟩ hn hd
variable {a b:Expr}{ta tb:TE}{pos:Pos}
noncomputable def PC (X:Cx)(op:CmpOp)(a b:Expr)(t:TE):Prop:=
 ∀ (pins:List (Addr×Obj)) (s:Shared) (σ:St) (H:Hp) (Q:VK),Inv X pins σ H s->t σ H Q->
  wpAny (model X.prog X.w) X.A (eval a X.env) (fun v s₁=>wpAny (model X.prog X.w) X.A (eval b X.env) (fun u s₂=>wpAny (model X.prog X.w) X.A (compareOp op v u) (EP X pins σ Q) X.xe s₂) X.xe s₁) X.xe s
theorem zmq (b:Expr){op:CmpOp}(h:op≠ .In)(h2:op≠ .NotIn):behindInMarks op b=false:=by
 have e1:(op==CmpOp.In)=false:=by cases op<;>first|rfl|exact absurd rfl h
 have e2:(op==CmpOp.NotIn)=false:=by cases op<;>first|rfl|exact absurd rfl h2
 cases b<;>simp [behindInMarks,e1,e2]
noncomputable def zuP (ta:TE):TE:=fun σ H Q=>ta σ H fun x H1=>Q (.bl (decide (x= .non))) H1
noncomputable def ztU (ta:TE):TE:=fun σ H Q=>ta σ H fun x H1=>Q (.bl (!decide (x= .non))) H1
theorem RelV.none_iff {x:V}{v:Value}(r:RelV x v):(v==Value.none)=decide (x= .non):=by
 cases x with
 |non=>cases r;rfl
 |bl _=>cases r;rfl
 |int _=>obtain ⟨t,rfl⟩:=r;rfl
 |str _=>obtain ⟨t,rfl⟩:=r;rfl
 |byt _=>obtain ⟨t,rfl⟩:=r;rfl
 |flt _=>obtain ⟨t,rfl⟩:=r;rfl
 |ref _=>cases r;rfl
 |ty _=>cases r;rfl
theorem zqr {j pos'}(ha:PE X a ta):PC X .Is a (.Constant .none j pos') (zuP ta):=by
 intro pins s σ H Q I h;refine thn (ha pins s σ H _ I h) fun v s1 zz=>?_;obtain ⟨x,H1,I1,r1,q1⟩:=zz;exact Constant_none (is_none_gen ⟨.bl _,H1,I1,by rw [r1.none_iff];rfl,q1⟩)
theorem zqW {j pos'}(ha:PE X a ta):PC X .IsNot a (.Constant .none j pos') (ztU ta):=by
 intro pins s σ H Q I h;refine thn (ha pins s σ H _ I h) fun v s1 zz=>?_;obtain ⟨x,H1,I1,r1,q1⟩:=zz;exact Constant_none (isnot_none_gen ⟨.bl _,H1,I1,by rw [r1.none_iff];rfl,q1⟩)
noncomputable def tB (t:TE):TT:=fun σ H Q=>t σ H fun x H1=>∃ c,x= .bl c/\Q c H1
theorem zqs {op:CmpOp}{t:TE}(h:PC X op a b t)(h1:behindInMarks op b=false:=by first|exact zmq _ (by decide) (by decide)|rfl):PE X (.Compare a [op] [b] pos) t:=fun pins s σ H Q I hw=>wpAny_Compare1 (h pins s σ H Q I hw) h1
theorem zqt {op:CmpOp}{t:TE}(h:PC X op a b t)(h1:behindInMarks op b=false:=by first|exact zmq _ (by decide) (by decide)|rfl):PT X (.Compare a [op] [b] pos) (tB t):=by
 intro pins s σ H Q I hw;refine wpAny_isTrue_Compare1 (thn (h pins s σ H _ I hw) fun v s1 h1=>thn h1 fun u s2 h2=>thn h2 fun c s3 zz=>?_) h1;obtain ⟨x,H1,I1,r1,q1⟩:=zz;obtain ⟨d,rfl,q⟩:=q1;cases r1;exact wpAny_truthy_bool ⟨H1,I1,q⟩
theorem zsu {e:Expr}{t:TE}(h:PE X e t)(he:∀ whole,isTrue e X.env whole=(do let v <-whole;standAt e.pos;holding [v] (truthy v)):=by intro _;rfl):PT X e (tB t):=by
 intro pins s σ H Q I hw;refine isTrue_plain (thn (h pins s σ H _ I hw) fun v s1 zz=>?_) (he _);obtain ⟨x,H1,I1,r1,q1⟩:=zz;obtain ⟨d,rfl,q⟩:=q1;cases r1;exact wpAny_truthy_bool ⟨H1,I1,q⟩
variable {tA tB':TT}{rest:List Expr}
noncomputable def zuQ (t u:TT):TT:=fun σ H Q=>t σ H fun c H1=>if c=true then u σ H1 Q else Q false H1
noncomputable def tOr (t u:TT):TT:=fun σ H Q=>t σ H fun c H1=>if c=true then Q true H1 else u σ H1 Q
noncomputable def zuR (t:TT):TT:=fun σ H Q=>t σ H fun c H1=>Q (!c) H1
theorem zqX (ha:PT X a tA):PW X (.BoolOp .And [a] pos) tA:=by
 intro wh pins s σ H Q I h;refine isTrue_and (thn (ha pins s σ H Q I h) fun c s1 e=>?_);cases c with
 |true=>exact isTrue_and_nil e
 |false=>exact e
theorem zsv (ha:PT X a tA):PW X (.BoolOp .Or [a] pos) tA:=by
 intro wh pins s σ H Q I h;refine isTrue_or (thn (ha pins s σ H Q I h) fun c s1 e=>?_);cases c with
 |false=>exact isTrue_or_nil e
 |true=>exact e
theorem zsw (ha:PT X a tA)(hb:PW X (.BoolOp .And (b::rest) pos) tB'):PW X (.BoolOp .And (a::b::rest) pos) (zuQ tA tB'):=by
 intro wh pins s σ H Q I h;refine isTrue_and (thn (ha pins s σ H _ I h) fun c s1 zz=>?_);obtain ⟨H1,I1,q1⟩:=zz;cases c with
 |true=>exact hb wh pins s1 σ H1 Q I1 q1
 |false=>exact ⟨H1,I1,q1⟩
theorem ztV (ha:PT X a tA)(hb:PW X (.BoolOp .Or (b::rest) pos) tB'):PW X (.BoolOp .Or (a::b::rest) pos) (tOr tA tB'):=by
 intro wh pins s σ H Q I h;refine isTrue_or (thn (ha pins s σ H _ I h) fun c s1 zz=>?_);obtain ⟨H1,I1,q1⟩:=zz;cases c with
 |true=>exact ⟨H1,I1,q1⟩
 |false=>exact hb wh pins s1 σ H1 Q I1 q1
theorem zsx (ha:PT X a tA):PT X (.UnaryOp .Not a pos) (zuR tA):=by
 intro pins s σ H Q I h;exact isTrue_not (ha pins s σ H (fun c H1=>Q (!c) H1) I h)
noncomputable def ztW (ta tb:TE):TE:=fun σ H Q=>ta σ H fun x H1=>∃ c,x= .bl c/\if c=true then tb σ H1 Q else Q (.bl false) H1
noncomputable def ztX (ta:TE):TE:=fun σ H Q=>ta σ H fun x H1=>∃ c,x= .bl c/\Q (.bl (!c)) H1
theorem zsy {op}{t:TE}(h:PE X a t):PE X (.BoolOp op [a] pos) t:=fun pins s σ H Q I hw=>BoolOp_one (h pins s σ H Q I hw)
theorem zsz (ha:PE X a ta)(hb:PE X (.BoolOp .And (b::rest) pos) tb):PE X (.BoolOp .And (a::b::rest) pos) (ztW ta tb):=by
 intro pins s σ H Q I h;refine BoolOp_and (thn (ha pins s σ H _ I h) fun v s1 zz=>?_);obtain ⟨x,H1,I1,r1,q1⟩:=zz;obtain ⟨c,rfl,q1⟩:=q1;cases r1;refine wpAny_truthy_bool ?_;cases c with
 |true=>exact hb pins s1 σ H1 Q I1 q1
 |false=>exact ⟨.bl false,H1,I1,rfl,q1⟩
theorem zsA (ha:PE X a ta):PE X (.UnaryOp .Not a pos) (ztX ta):=by
 intro pins s σ H Q I h;refine UnaryOp_ (thn (ha pins s σ H _ I h) fun v s1 zz=>?_);obtain ⟨x,H1,I1,r1,q1⟩:=zz;obtain ⟨c,rfl,q1⟩:=q1;cases r1;exact not_of (wpAny_truthy_bool ⟨.bl (!c),H1,I1,rfl,q1⟩)
noncomputable def tIf (t:TT)(ta tb:TE):TE:=fun σ H Q=>t σ H fun c H1=>if c=true then ta σ H1 Q else tb σ H1 Q
theorem zpi {c:Expr}(hc:PT X c tA)(ha:PE X a ta)(hb:PE X b tb):PE X (.IfExp c a b pos) (tIf tA ta tb):=by
 intro pins s σ H Q I h;refine wpAny_IfExp (thn (hc pins s σ H _ I h) fun d s1 zz=>?_);obtain ⟨H1,I1,q1⟩:=zz;cases d with
 |true=>exact ha pins s1 σ H1 Q I1 q1
 |false=>exact hb pins s1 σ H1 Q I1 q1
end
end L2
namespace L2
open PySem PySem.Spec PyProof.Rows
noncomputable def SqL (K:PySem.W.Frag)(H:Hp)(a:Addr)(xs:List V):Prop:=
 Rd H a (.lst xs)\/
  ∃ (o:Obj) (its:Array Value) (n:Nat),K.lookup a=some o/\o.cls= .type "list"/\o.dict=none/\o.data= .seq its n/\its.size<=sizeLine/\Vals xs its.toList
noncomputable def SqT (K:PySem.W.Frag)(H:Hp)(a:Addr)(xs:List V):Prop:=
 Rd H a (.tup xs)\/
  ∃ (o:Obj) (its:Array Value) (n:Nat),K.lookup a=some o/\o.cls= .type "tuple"/\o.data= .seq its n/\its.size<=sizeLine/\Vals xs its.toList
noncomputable def zuS:Value->Option V
 | .none=>some .non
 | .bool b=>some (.bl b)
 | .int i _=>some (.int i)
 | .str x _=>some (.str x)
 | .bytes b _=>some (.byt b)
 | .float b _=>some (.flt b)
 | .ref a=>some (.ref a)
 | .type n=>some (.ty n)
 |_=>none
theorem RelV.abs {x:V}{u:Value}(r:RelV x u):zuS u=some x:=by
 cases x with
 |non=>cases r;rfl
 |bl _=>cases r;rfl
 |int _=>obtain ⟨t,rfl⟩:=r;rfl
 |str _=>obtain ⟨t,rfl⟩:=r;rfl
 |byt _=>obtain ⟨t,rfl⟩:=r;rfl
 |flt _=>obtain ⟨t,rfl⟩:=r;rfl
 |ref _=>cases r;rfl
 |ty _=>cases r;rfl
theorem RelV.inj {x y:V}{u:Value}(r:RelV x u)(q:RelV y u):x=y:=Option.some.inj (r.abs.symm.trans q.abs)
theorem Vals.inj:∀ {xs ys:List V} {us:List Value},Vals xs us->Vals ys us->xs=ys:=by
 intro xs
 induction xs with
 |nil=>intro ys us h q;cases h;cases q;rfl
 |cons x xs ih=>
  intro ys us h q;cases h with
  |cons r t=>
   cases q with
   |cons r' t'=>rw [r.inj r',ih t t']
section
variable {X:Cx}{pins:List (Addr×Obj)}{σ:St}{H:Hp}{s:Shared}{a:Addr}{xs ys:List V}
theorem SqL.of {K:PySem.W.Frag}(h:H a=some (.lst xs)):SqL K H a xs:=.inl (.inl h)
theorem SqT.of {K:PySem.W.Frag}(h:H a=some (.tup xs)):SqT K H a xs:=.inl (.inl h)
theorem Inv.list (I:Inv X pins σ H s)(h:SqL X.K H a xs):∃ its:List Value,Vals xs its/\PlainL s.heap a its.toArray/\xs.length<=sizeLine:=by
 rcases h with h|⟨o,its,n,hk,hc,hd,hs,hz,r⟩
 ·obtain ⟨z,its,n,r,e⟩:=h.ok I.hok;exact ⟨its,r,⟨_,n,e,rfl,rfl,rfl⟩,z⟩
 ·refine ⟨its.toList,r,⟨o,n,I.kIn a o hk,hc,hd,by simpa using hs⟩,?_⟩;have e:=r.length;simp only [Array.length_toList] at e;omega
theorem Inv.tuple (I:Inv X pins σ H s)(h:SqT X.K H a xs):∃ its:List Value,Vals xs its/\IsTup s.heap a its.toArray/\xs.length<=sizeLine:=by
 rcases h with h|⟨o,its,n,hk,hc,hs,hz,r⟩
 ·obtain ⟨z,its,r,p⟩:=h.ok I.hok;exact ⟨its,r,p,z⟩
 ·refine ⟨its.toList,r,⟨o,I.kIn a o hk,hc,n,by simpa using hs⟩,?_⟩;have e:=r.length;simp only [Array.length_toList] at e;omega
theorem Inv.list_inj (I:Inv X pins σ H s)(h:SqL X.K H a xs)(h':SqL X.K H a ys):xs=ys:=by
 obtain ⟨its,r,⟨o,n,e,_,_,d⟩,_⟩:=I.list h;obtain ⟨its',r',⟨o',n',e',_,_,d'⟩,_⟩:=I.list h';rw [e] at e';cases e';rw [d] at d';injection d' with d1 _;have:its=its':=by simpa using congrArg Array.toList d1
 subst this;exact r.inj r'
theorem Inv.tuple_inj (I:Inv X pins σ H s)(h:SqT X.K H a xs)(h':SqT X.K H a ys):xs=ys:=by
 obtain ⟨its,r,⟨o,e,_,n,d⟩,_⟩:=I.tuple h;obtain ⟨its',r',⟨o',e',_,n',d'⟩,_⟩:=I.tuple h';rw [e] at e';cases e';rw [d] at d';injection d' with d1 _;have:its=its':=by simpa using congrArg Array.toList d1
 subst this;exact r.inj r'
end
noncomputable abbrev Cx.wish (X:Cx)(E:Value->Shared->Prop):Cx:={X with xe:=E}
noncomputable abbrev Cx.nox (X:Cx):Cx:=X.wish fun _ _=>False
theorem Cx.Ok.wish {X:Cx}(ok:X.Ok)(E:Value->Shared->Prop):(X.wish E).Ok:=
 ⟨ok.mod,ok.kind,ok.glob,ok.blt,ok.above,ok.inj,ok.has,ok.cab,ok.hd,ok.frames,ok.stk,ok.exf,ok.bs,ok.bsz,ok.noex,ok.exfs,ok.funs,ok.frf⟩
theorem Cx.Ok.unwish {X:Cx}{E:Value->Shared->Prop}(ok:(X.wish E).Ok):X.Ok:=
 ⟨ok.mod,ok.kind,ok.glob,ok.blt,ok.above,ok.inj,ok.has,ok.cab,ok.hd,ok.frames,ok.stk,ok.exf,ok.bs,ok.bsz,ok.noex,ok.exfs,ok.funs,ok.frf⟩
section
variable {X:Cx}{pins:List (Addr×Obj)}{σ:St}{H:Hp}{s:Shared}{E:Value->Shared->Prop}
theorem Inv.wish (I:Inv X pins σ H s)(E:Value->Shared->Prop):Inv (X.wish E) pins σ H s:=⟨I.ok.wish E,I.os,I.bare,I.base,I.loc,I.cell,I.free,I.freeC,I.pin,I.hok,I.len⟩
theorem Inv.unwish (I:Inv (X.wish E) pins σ H s):Inv X pins σ H s:=⟨I.ok.unwish,I.os,I.bare,I.base,I.loc,I.cell,I.free,I.freeC,I.pin,I.hok,I.len⟩
theorem SP.unwish {D:Ends}{f:Flow}{s':Shared}(h:SP (X.wish E) pins D f s'):SP X pins D f s':=by
 cases f with
 |next=>obtain ⟨σ',H',I,q⟩:=h;exact ⟨σ',H',I.unwish,q⟩
 |brk=>obtain ⟨σ',H',I,q⟩:=h;exact ⟨σ',H',I.unwish,q⟩
 |cont=>obtain ⟨σ',H',I,q⟩:=h;exact ⟨σ',H',I.unwish,q⟩
 |ret u=>obtain ⟨v,σ',H',I,r,q⟩:=h;exact ⟨v,σ',H',I.unwish,r,q⟩
theorem PE.nox {e:Expr}{t:TE}(h:PE X.nox e t):PE X e t:=fun pins s σ H Q I hw=>
 wpAny_mono (h pins s σ H Q (I.wish _) hw) (fun _ _ ⟨v,H',I',r,q⟩=>⟨v,H',I'.unwish,r,q⟩) fun _ _ z=>False.elim z
theorem PT.nox {e:Expr}{t:TT}(h:PT X.nox e t):PT X e t:=fun pins s σ H Q I hw=>
 wpAny_mono (h pins s σ H Q (I.wish _) hw) (fun _ _ ⟨H',I',q⟩=>⟨H',I'.unwish,q⟩) fun _ _ z=>False.elim z
theorem PSs.nox {st:List Stmt}{t:TS}(h:PSs X.nox st t):PSs X st t:=fun pins s σ H D I hw=>
 wpAny_mono (h pins s σ H D (I.wish _) hw) (fun _ _ q=>q.unwish) fun _ _ z=>False.elim z
end
section
variable {X:Cx}{st:Stmt}{rest:List Stmt}{t u:TS}{e:Expr}{te:TE}{pos:Pos}
noncomputable def ztY:TS:=fun D σ H=>D.nx σ H
noncomputable def zuT (t u:TS):TS:=fun D σ H=>t {D with nx:=u D} σ H
theorem zqY:PSs X [] ztY:=fun _ _ σ H _ I h=>wpAny_execs_nil ⟨σ,H,I,h⟩
theorem zpj (h1:PS X st t)(h2:PSs X rest u):PSs X (st::rest) (zuT t u):=by
 intro pins s σ H D I h;refine wpAny_execs_cons (thn (h1 pins s σ H {D with nx:=u D} I h) fun f s1 q=>?_);cases f with
 |next=>
  obtain ⟨σ',H',I',q⟩:=q;exact h2 pins s1 σ' H' D I' q
 |ret v=>exact q
 |brk=>exact q
 |cont=>exact q
theorem zqZ (h1:PS X st t):PSs X [st] t:=by
 intro pins s σ H D I h;refine wpAny_execs_cons (thn (h1 pins s σ H D I h) fun f s1 q=>?_);cases f with
 |next=>exact wpAny_execs_nil q
 |ret v=>exact q
 |brk=>exact q
 |cont=>exact q
theorem Inv.quiet {pins:List (Addr×Obj)}{σ:St}{H:Hp}{s:Shared}(I:Inv X pins σ H s):interactive X.env=false:=by simp [interactive,I.ok.kind]
noncomputable def ztZ (te:TE):TS:=fun D σ H=>te σ H fun _ H1=>D.nx σ H1
theorem zgN (he:PE X e te)(hs:swapsWith e none pos.line X.env=pure false:=by rfl):PS X (.Expr e pos) (ztZ te):=by
 intro pins s σ H D I h;exact wpAny_Expr_any (thn (he pins s σ H _ I h) fun v s1 ⟨x,H1,I1,r1,q1⟩=>⟨σ,H1,I1,q1⟩) I.quiet hs
noncomputable def zuU (te:TE):TS:=fun D σ H=>te σ H D.rt
theorem znE (he:PE X e te):PS X (.Return (some e) pos) (zuU te):=by
 intro pins s σ H D I h;exact wpAny_Return_some (thn (he pins s σ H _ I h) fun v s1 ⟨x,H1,I1,r1,q1⟩=>⟨x,σ,H1,I1,r1,q1⟩)
noncomputable def zuV (c:TT)(t u:TS):TS:=fun D σ H=>c σ H fun b H1=>if b=true then t D σ H1 else u D σ H1
theorem zt0 {c:Expr}{a b:List Stmt}{tc:TT}(hc:PT X c tc)(ha:PSs X a t)(hb:PSs X b u):PS X (.If c a b pos) (zuV tc t u):=by
 intro pins s σ H D I h;refine wpAny_If (thn (hc pins s σ H _ I h) fun d s1 zz=>?_);obtain ⟨H1,I1,q1⟩:=zz;cases d with
 |true=>exact ha pins s1 σ H1 D I1 q1
 |false=>exact hb pins s1 σ H1 D I1 q1
noncomputable def zsB:TS:=fun _ _ _=>False
theorem zpk:PS X st zsB:=fun _ _ _ _ _ _ h=>h.elim
end
noncomputable abbrev TG:=V->St->Hp->(St->Hp->Prop)->Prop
noncomputable abbrev TGs:=List V->St->Hp->(St->Hp->Prop)->Prop
noncomputable def PG (X:Cx)(target:Expr)(t:TG):Prop:=
 ∀ (pins:List (Addr×Obj)) (s:Shared) (σ:St) (H:Hp) (v:V) (u:Value) (Q:St->Hp->Prop),Inv X pins σ H s->RelV v u->t v σ H Q->
  wpAny (model X.prog X.w) X.A (assign target X.env u) (fun _ s'=>∃ σ' H',Inv X pins σ' H' s'/\Q σ' H') X.xe s
noncomputable def PGs (X:Cx)(ts:List Expr)(t:TGs):Prop:=
 ∀ (pins:List (Addr×Obj)) (s:Shared) (σ:St) (H:Hp) (vs:List V) (us:List Value) (Q:St->Hp->Prop),Inv X pins σ H s->Vals vs us->t vs σ H Q->
  wpAny (model X.prog X.w) X.A (assignInOrder ((assignEach ts X.env).map (·.2)) us) (fun _ s'=>∃ σ' H',Inv X pins σ' H' s'/\Q σ' H') X.xe s
noncomputable abbrev zt1:=V->V->V->Hp->(Hp->Prop)->Prop
noncomputable def zuA (X:Cx)(t:zt1):Prop:=
 ∀ (pins:List (Addr×Obj)) (s:Shared) (σ:St) (H:Hp) (o i v:V) (ov iv u:Value) (Q:Hp->Prop),Inv X pins σ H s->RelV o ov->RelV i iv->RelV v u->t o i v H Q->
  wpAny (model X.prog X.w) X.A (setItem ov iv u) (fun _ s'=>∃ H',Inv X pins σ H' s'/\Q H') X.xe s
section
variable {X:Cx}{pos:Pos}
noncomputable def ziL (i:Nat):TG:=fun v σ H Q=>Q (σ.set i (some v)) H
theorem zdM {i:Nat}{x:Str}(hN:X.N.Nodup)(hi:X.N[i]? =some x)(hx:Loc X.env.scope x)(hf:X.fn x=true\/X.env.scope.names.lookup x=some .local:=by first|exact .inl rfl|exact .inr rfl|assumption):PG X (.Name x pos) (ziL i):=by
 intro pins s σ H v u Q I r h;exact wpAny_assign_Name (store_ok I hN hi hx r (fun s' I'=>⟨_,H,I',h⟩) hf)
noncomputable def zuW:TGs:=fun vs σ H Q=>vs=[]/\Q σ H
noncomputable def zt2 (t:TG)(u:TGs):TGs:=fun vs σ H Q=>∃ v r,vs=v::r/\t v σ H fun σ' H'=>u r σ' H' Q
theorem znF:PGs X [] zuW:=by
 intro pins s σ H vs us Q I r h;obtain ⟨e,h⟩:=h;subst e;cases r;exact assignInOrder_nil ⟨σ,H,I,h⟩
theorem zfS {e:Expr}{es:List Expr}{t:TG}{u:TGs}(h1:PG X e t)(h2:PGs X es u)
  (hs:(assignEach (e::es) X.env).map (·.2)=assign e X.env::(assignEach es X.env).map (·.2):=by rfl):PGs X (e::es) (zt2 t u):=by
 intro pins s σ H vs us Q I r h;obtain ⟨v,vr,e1,h⟩:=h;subst e1;cases r with
 |cons r rr=>
  rw [hs];refine assignInOrder_cons (thn (h1 pins s σ H _ _ _ I r h) fun _ s1 zz=>?_);obtain ⟨σ1,H1,I1,q1⟩:=zz;exact h2 pins s1 σ1 H1 _ _ Q I1 rr q1
noncomputable def zuX (K:PySem.W.Frag)(n:Nat)(t:TGs):TG:=fun v σ H Q=>∃ a xs,v= .ref a/\SqT K H a xs/\xs.length=n/\t xs σ H Q
theorem zsC {es:List Expr}{k:Nat}{t:TGs}{n:Nat}(hc:X.calm=true)(h:PGs X es t)
  (hn:(assignEach es X.env).length=n:=by rfl)(hst:(assignEach es X.env).findIdx? (·.1)=none:=by rfl):PG X (.Tuple es k pos) (zuX X.K n t):=by
 intro pins s σ H v u Q I r hw;obtain ⟨a,xs,e1,hq,hl,hw⟩:=hw;subst e1;cases r;obtain ⟨its,rv,ht,hz⟩:=I.tuple hq;refine assign_Tuple_tuple (I.ok.hd hc) ht (by simp [hn,<-hl,rv.length]) hst fun h' hx=>?_;have I1:Inv X pins σ H {s with heap:=h'}:=I.kept (t':=s.toks) fun b o e=>hx b o (Nat.ne_of_lt (Heap.lt_size e)) e;exact h pins _ σ H xs _ Q I1 (by simpa using rv) hw
noncomputable def zuY (to ti:TE)(t:zt1):TG:=fun v σ H Q=>to σ H fun o H1=>ti σ H1 fun i H2=>t o i v H2 fun H3=>Q σ H3
theorem zqu {o i:Expr}{to ti:TE}{t:zt1}(ho:PE X o to)(hi:PE X i ti)(hs:zuA X t)
  (ha:∀ v,assign (.Subscript o i pos) X.env v=(do
   let ov <-holding [v] (eval o X.env)
   let iv <-holding [v,ov] (eval i X.env)
   standAt pos
   holding [v,ov,iv] (setItem ov iv v)
   release [v,ov,iv] []):=by intro _;rfl):PG X (.Subscript o i pos) (zuY to ti t):=by
 intro pins s σ H v u Q I r h;rw [ha];refine wpAny_bind (wpAny_holding (thn (ho pins s σ H _ I h) fun ov s1 zz=>?_));obtain ⟨x,H1,I1,r1,q1⟩:=zz;refine wpAny_bind (wpAny_holding (thn (hi pins s1 σ H1 _ I1 q1) fun iv s2 zz=>?_));obtain ⟨y,H2,I2,r2,q2⟩:=zz;refine wpAny_bind (wpAny_standAt (wpAny_bind (wpAny_holding (thn (hs pins s2 σ H2 x y v ov iv u _ I2 r1 r2 r q2) fun _ s3 zz=>?_))));obtain ⟨H3,I3,q3⟩:=zz;exact wpAny_release ⟨σ,H3,I3,q3⟩
noncomputable def zt3 (te:TE)(g:TG):TS:=fun D σ H=>te σ H fun x H1=>g x σ H1 D.nx
theorem zqv {tg e:Expr}{te:TE}{g:TG}(he:PE X e te)(hg:PG X tg g)(hs:swapsWithSole [tg] e pos.line X.env=pure false:=by rfl)(hw:swappedStores [tg] e X.env=pure none:=by rfl)
  (h1:(assignEach [tg] X.env).map (·.2)=[assign tg X.env]:=by rfl):PS X (.Assign [tg] e pos) (zt3 te g):=by
 intro pins s σ H D I h;refine wpAny_Assign_stores (thn (he pins s σ H _ I h) fun v s1 zz=>?_) hs hw;obtain ⟨x,H1,I1,r1,q1⟩:=zz;rw [h1];exact thn (hg pins s1 σ H1 x v _ I1 r1 q1) fun _ s2 q=>q
theorem zqw {i:Nat}{x:Str}{e:Expr}{te:TE}{pos':Pos}(hN:X.N.Nodup)(hi:X.N[i]? =some x)(hx:Loc X.env.scope x)(he:PE X e te)(hs:swapsWith e (some (.Name x pos')) pos.line X.env=pure false:=by rfl)(hf:X.fn x=true\/X.env.scope.names.lookup x=some .local:=by first|exact .inl rfl|exact .inr rfl|assumption):
  PS X (.Assign [.Name x pos'] e pos) (zt3 te (ziL i)):=by
 intro pins s σ H D I h;refine wpAny_Assign_Name (thn (he pins s σ H _ I h) fun v s1 zz=>?_) hs;obtain ⟨y,H1,I1,r1,q1⟩:=zz;exact store_ok I1 hN hi hx r1 (fun s2 I2=>⟨_,H1,I2,q1⟩) hf
end
section
variable {X:Cx}{pos:Pos}
end
structure It where
 go:Nat->Hp->Prop
 yld:Nat->Hp->V->Hp->Prop
 stop:Nat->Hp->Prop
noncomputable def zpf (X:Cx)(pins:List (Addr×Obj))(H:Hp)(b:Addr):Prop:=
 H b=none/\b≠X.env.locals/\b∉X.fs/\(b∈X.ex\/X.s₀.heap.objs.size<=b)/\(∀ x c,X.env.cells.lookup x=some c->c≠b)/\∀ p∈X.pn++pins,p.1≠b
theorem Inv.fpOk {X:Cx}{pins:List (Addr×Obj)}{σ:St}{H H':Hp}{s:Shared}{b:Addr}(I:Inv X pins σ H s)(hb:s.heap.objs.size<=b)(hn:H' b=none):zpf X pins H' b:=by
 refine ⟨hn,Nat.ne_of_gt (Nat.lt_of_lt_of_le I.lt hb),I.nofs hb,.inr (Nat.le_trans I.sz hb),fun x c e z=>?_,fun p hp z=>?_⟩
 ·obtain ⟨v,q⟩:=I.cell x c e;exact absurd (Nat.lt_of_lt_of_le q.lt (by rw [z];exact hb)) (Nat.lt_irrefl _)
 ·exact absurd (Nat.lt_of_lt_of_le (Heap.lt_size (I.pin p hp).1) (by rw [z];exact hb)) (Nat.lt_irrefl _)
structure Turn (P:Program)(w:World)(K:PySem.W.Frag)(tg:Expr)(J:It)(fp:List Addr)(it:Addr)(tn:Nat->Heap->Prop):Prop where
 mem:it∈fp
 obj:∀ i h,tn i h->∀ b∈fp,∃ o,h.get? b=some o/\∀ v,o.data≠ .cell v
 keep:∀ i h h',tn i h->(∀ b∈fp,∀ o,h.get? b=some o->h'.get? b=some o)->tn i h'
 item:∀ (X:Cx),X.prog=P->X.w=w->X.K=K->X.calm=true->∀ (i:Nat) (pins:List (Addr×Obj)) (s:Shared) (σ:St) (H:Hp) (E:Value->Shared->Prop),Inv X pins σ H s->(∀ b∈fp,zpf X pins H b)->tn i s.heap->J.go i H->
  wpAny (model P w) X.A (pyNext (.ref it)) (fun r s1=>∃ u,r=some u/\
   wpAny (model P w) X.A (letOwnedTupleGo tg (.ref it) u) (fun _ s2=>∃ x H',Inv X pins σ H' s2/\RelV x u/\J.yld i H x H'/\tn (i+1) s2.heap/\∀ b∈fp,H' b=none) E s1) E s
 done:∀ (X:Cx),X.prog=P->X.w=w->X.K=K->X.calm=true->∀ (i:Nat) (pins:List (Addr×Obj)) (s:Shared) (σ:St) (H:Hp) (E:Value->Shared->Prop),Inv X pins σ H s->(∀ b∈fp,zpf X pins H b)->tn i s.heap->J.stop i H->
  wpAny (model P w) X.A (pyNext (.ref it)) (fun r s1=>r=none/\Inv X pins σ H s1) E s
 self:∀ (A:Around) (i:Nat) (s:Shared) (Q:Value->Shared->Prop) (E:Value->Shared->Prop),tn i s.heap->Q (.ref it) s->wpAny (model P w) A (pyIter (.ref it)) Q E s
noncomputable abbrev TI:=St->Hp->(It->Hp->Prop)->Prop
noncomputable def PIE (X:Cx)(pins:List (Addr×Obj))(σ:St)(tg:Expr)(R:It->Hp->Prop)(itv:Value)(s2:Shared):Prop:=
 ∃ (it:Addr) (fp:List Addr) (tn:Nat->Heap->Prop) (J:It) (H':Hp),itv= .ref it/\Inv X pins σ H' s2/\Turn X.prog X.w X.K tg J fp it tn/\tn 0 s2.heap/\(∀ b∈fp,zpf X pins H' b)/\R J H'
noncomputable def PI (X:Cx)(tg iter:Expr)(wi:TI):Prop:=
 ∀ (pins:List (Addr×Obj)) (s:Shared) (σ:St) (H:Hp) (R:It->Hp->Prop),Inv X pins σ H s->wi σ H R->
  wpAny (model X.prog X.w) X.A (eval iter X.env) (fun v s1=>wpAny (model X.prog X.w) X.A (pyIter v) (PIE X pins σ tg R) X.xe s1) X.xe s
theorem zsD {M:Model}{A:Around}{E:Value->Shared->Prop}{s:Shared}{tg:Expr}{it:Addr}{u:Value}{o:Obj}{n:String}{vs:Array Value}{Q:Unit->Shared->Prop}(ho:s.heap.get? it=some o)(hc:o.cls= .type n)(hd:o.data= .fields vs)
  (hn:["enumerate","zip","dict_itemiterator","dict_reverseitemiterator","odict_iterator","itertools.zip_longest","itertools.pairwise"].contains n=false)(hQ:Q () s):wpAny M A (letOwnedTupleGo tg (.ref it) u) Q E s:=by
 unfold letOwnedTupleGo
 cases tg<;>first
  |exact wpAny_pure hQ
  | (cases u<;>first
    |exact wpAny_pure hQ
    | (refine wpAny_bind (wpAny_load ho ?_)
       rw [hc,hd];show wpAny M A (if (["enumerate","zip","dict_itemiterator","dict_reverseitemiterator","odict_iterator","itertools.zip_longest","itertools.pairwise"].contains n&&vs[0]? ==some (rawInt _))=true then _ else _) Q E s
       rw [if_neg (by intro h;rw [hn,Bool.false_and] at h;cases h)];exact wpAny_pure hQ))
noncomputable def Itl (K:PySem.W.Frag)(a:Addr):It:=
 ⟨fun i H=>∃ xs x,SqL K H a xs/\xs[i]? =some x,fun i H x H'=>H'=H/\∀ xs,SqL K H a xs->xs[i]? =some x,fun i H=>∃ xs,SqL K H a xs/\xs.length<=i⟩
noncomputable def Itr (lo:Int)(n:Nat):It:=⟨fun i _=>i<n,fun i H x H'=>H'=H/\x= .int (lo+i),fun i _=>n<=i⟩
theorem znG {P:Program}{w:World}{K:PySem.W.Frag}{tg:Expr}(a it:Addr):Turn P w K tg (Itl K a) [it] it (fun i h=>h.IsListIter it a i) where
 mem:=by simp
 obj:=fun i h st b hb=>by
  have e:b=it:=by simpa using hb
  subst e;obtain ⟨o,e,c,d⟩:=st;exact ⟨o,e,fun v z=>by rw [d] at z;cases z⟩
 keep:=fun i h h' st k=>st.at fun o e=>k it (by simp) o e
 item:=by
  intro X hP hw hK hc i pins s σ H E I hf st hg;subst hP hw hK;obtain ⟨xs,x,hq,hx⟩:=hg;obtain ⟨its,rv,p,hz⟩:=I.list hq;obtain ⟨u,hu,ru⟩:=rv.get hx;obtain ⟨f0,f1,f2,f3,f4,f5⟩:=hf it (by simp);refine wpAny_pyNext_list_item st p.isList (x:=u) (by simpa using hu) fun h' st' sb=>?_;have I1:Inv X pins σ H {s with heap:=h'}:=I.turned (t':=s.toks) (fun b o hb e=>(sb.2 b hb).trans e) f0 f1 f3 f4 f5;obtain ⟨o,e,c,d⟩:=id st';exact ⟨u,rfl,zsD (s:={s with heap:=h'}) e c d (by decide) ⟨x,H,I1,ru,⟨rfl,fun ys hy=>by rw [I.list_inj hy hq];exact hx⟩,st',fun b hb=>(hf b hb).1⟩⟩
 done:=by
  intro X hP hw hK hc i pins s σ H E I hf st hg;subst hP hw hK;obtain ⟨xs,hq,hx⟩:=hg;obtain ⟨its,rv,p,hz⟩:=I.list hq;obtain ⟨f0,f1,f2,f3,f4,f5⟩:=hf it (by simp);have hl:=rv.length;exact wpAny_pyNext_list_end (I.ok.hd hc) st p.isList (by simp;omega) fun h' eb=>⟨rfl,I.turned (t':=s.toks) (fun b o hb e=>eb b o hb e) f0 f1 f3 f4 f5⟩
 self:=fun _ _ _ _ _ st h=>wpAny_pyIter_listiter st h
theorem zm9 {P:Program}{w:World}{K:PySem.W.Frag}{tg:Expr}(it:Addr)(lo:Int)(n:Nat):Turn P w K tg (Itr lo n) [it] it (fun i h=>IsRangeIter h it (lo+(i:Nat) * 1) ((n:Int) - (i:Nat)) 1) where
 mem:=by simp
 obj:=fun i h st b hb=>by
  have e:b=it:=by simpa using hb
  subst e;exact ⟨_,st,fun v z=>by
   have z':Data.fields _=Data.cell v:=z;cases z'⟩
 keep:=fun i h h' st k=>k it (by simp) _ st
 item:=by
  intro X hP hw hK hc i pins s σ H E I hf st hg;subst hP hw hK;obtain ⟨f0,f1,f2,f3,f4,f5⟩:=hf it (by simp);have W:=Walks.range (prog:=X.prog) (w:=X.w) (I.ok.hd hc) it lo 1 n;refine W.item i s _ _ hg st fun v h' tk hv st' kk=>?_;obtain ⟨t,rfl⟩:=hv;have I1:Inv X pins σ H {s with heap:=h',toks:=tk}:=I.turned (fun b o hb e=>kk b o (by simpa using hb) e) f0 f1 f3 f4 f5;refine ⟨_,rfl,zsD (s:={s with heap:=h',toks:=tk}) (n:="range_iterator") st' rfl rfl (by decide) ⟨.int (lo+i),H,I1,⟨t,?_⟩,⟨rfl,rfl⟩,st',fun b hb=>(hf b hb).1⟩⟩;rw [Int.mul_one]
 done:=by
  intro X hP hw hK hc i pins s σ H E I hf st hg;subst hP hw hK;obtain ⟨f0,f1,f2,f3,f4,f5⟩:=hf it (by simp);exact wpAny_pyNext_range_end (I.ok.hd hc) st (by have:n<=i:=hg;omega) fun h' eb=>⟨rfl,I.turned (t':=s.toks) (fun b o hb e=>eb b o hb e) f0 f1 f3 f4 f5⟩
 self:=fun _ _ _ _ _ st h=>wpAny_pyIter_rangeiter st h
end L2
namespace L2
open PySem PySem.Spec PyProof.Rows
section
variable {X:Cx}{tg:Expr}
noncomputable def zt4 (K:PySem.W.Frag)(tl:TE):TI:=fun σ H R=>tl σ H fun x H1=>∃ a,x= .ref a/\(∃ xs,SqL K H1 a xs)/\R (Itl K a) H1
theorem znH {l:Expr}{tl:TE}(hl:PE X l tl):PI X tg l (zt4 X.K tl):=by
 intro pins s σ H R I h;refine thn (hl pins s σ H _ I h) fun v s1 zz=>?_;obtain ⟨x,H1,I1,r1,q1⟩:=zz;obtain ⟨a,e,⟨xs,hq⟩,q⟩:=q1;subst e;cases r1;obtain ⟨its,rv,p,hz⟩:=I1.list hq;refine wpAny_pyIter_list p.isList ?_;refine ⟨s1.heap.objs.size,[s1.heap.objs.size],_,_,H1,rfl,I1.kept (t':=s1.toks) fun b o e=>Heap.get?_push_of_some _ e,znG a _,⟨_,Heap.get?_push_size _ rfl,rfl,rfl⟩,fun b hb=>?_,q⟩;have e:b=s1.heap.objs.size:=by simpa using hb
 subst e;exact I1.fpOk (Nat.le_refl _) (I1.hok.fresh (Nat.le_refl _))
theorem zmr {pins:List (Addr×Obj)}{σ:St}{H:Hp}{s:Shared}{R:It->Hp->Prop}{E:Value->Shared->Prop}{lo hi:Int}{t u v:Tok}{tk:Nat}(I:Inv X pins σ H s)(h1: -(2 ^ 62)<=lo)(h2:lo<2 ^ 62)(h3: -(2 ^ 62)<=hi)(h4:hi<2 ^ 62)
  (q:R (Itr lo (hi - lo).toNat) H):wpAny (model X.prog X.w) X.A (pyIter (.ref s.heap.objs.size)) (PIE X pins σ tg R) E {s with heap:=s.heap.push {cls:=.type "range",data:=.fields #[.int lo t,.int hi u,.int 1 v]},toks:=tk}:=by
 refine wpAny_pyIter_range (IsRange.new ..) (small_one h1 h2 h3 h4) ?_;have I1:Inv X pins σ H {s with heap:=s.heap.push {cls:=.type "range",data:=.fields #[.int lo t,.int hi u,.int 1 v]},toks:=tk}:=I.kept fun b o e=>Heap.get?_push_of_some _ e
 refine ⟨(s.heap.push {cls:=.type "range",data:=.fields #[.int lo t,.int hi u,.int 1 v]}).objs.size,[(s.heap.push {cls:=.type "range",data:=.fields #[.int lo t,.int hi u,.int 1 v]}).objs.size],_,_,H,rfl,
  I1.kept (t':=tk) fun b o e=>Heap.get?_push_of_some _ e,zm9 _ lo (hi - lo).toNat,?_,fun b hb=>?_,q⟩
 ·have e1:lo+((0:Nat):Int) * 1=lo:=by simp
  have e2:(((hi - lo).toNat:Nat):Int) - ((0:Nat):Int)=Builtin.Range.rangeSize lo hi 1:=by rw [rangeSize_one];split<;>omega
  show IsRangeIter _ _ (lo+((0:Nat):Int) * 1) ((((hi - lo).toNat:Nat):Int) - ((0:Nat):Int)) 1;rw [e1,e2];exact Heap.get?_push_size _ rfl
 ·have e:b=(s.heap.push {cls:=.type "range",data:=.fields #[.int lo t,.int hi u,.int 1 v]}).objs.size:=by simpa using hb
  subst e;exact I1.fpOk (Nat.le_refl _) (I1.hok.fresh (Nat.le_refl _))
noncomputable def zt5 (ta:TA):TI:=fun σ H R=>ta σ H fun vs H1=>∃ j:Int,vs=[.int j]/\ -(2 ^ 62)<=j/\j<2 ^ 62/\R (Itr 0 j.toNat) H1
noncomputable def zt6 (ta:TA):TI:=fun σ H R=>ta σ H fun vs H1=>∃ i j:Int,vs=[.int i,.int j]/\(-(2 ^ 62)<=i/\i<2 ^ 62/\ -(2 ^ 62)<=j/\j<2 ^ 62)/\R (Itr i (j - i).toNat) H1
theorem zkl {a:Expr}{ta:TA}{p pos:Pos}(hg:Gl X "range")(hm:X.mg "range"=none)(ha:PA X [a] ta)(hs:starEach [a] X.env=[(false,eval a X.env)]:=by rfl):PI X tg (.Call (.Name "range" p) [a] [] pos) (zt5 ta):=by
 intro pins s σ H R I h;refine Call_ (ld_blt I hg hm boot_range (PyProof.Rows.callWith_type1 (thn (ha pos pins s σ H _ I h) fun us s1 zz=>?_) hs rfl));obtain ⟨vs,H1,I1,r1,q1⟩:=zz;obtain ⟨j,e,q1,q2,q⟩:=q1;subst e;cases r1 with
 |cons r rr=>
  cases rr;obtain ⟨t,rfl⟩:=r;exact call_range_1 (zmr I1 (by omega) (by omega) q1 q2 (by simpa using q))
theorem zkm {a b:Expr}{ta:TA}{p pos:Pos}(hg:Gl X "range")(hm:X.mg "range"=none)(ha:PA X [a,b] ta)(hs:starEach [a,b] X.env=[(false,eval a X.env),(false,eval b X.env)]:=by rfl)(hs2:starEach [b] X.env=[(false,eval b X.env)]:=by rfl):
  PI X tg (.Call (.Name "range" p) [a,b] [] pos) (zt6 ta):=by
 intro pins s σ H R I h;refine Call_ (ld_blt I hg hm boot_range (PyProof.Rows.callWith_type1 (thn (ha pos pins s σ H _ I h) fun us s1 zz=>?_) (by rw [hs,hs2]) (by rw [hs2];rfl)));obtain ⟨vs,H1,I1,r1,q1⟩:=zz;obtain ⟨i,j,e,⟨q1,q2,q3,q4⟩,q⟩:=q1;subst e;cases r1 with
 |cons r rr=>
  cases rr with
  |cons r' rr=>
   cases rr;obtain ⟨t,rfl⟩:=r;obtain ⟨t',rfl⟩:=r';exact call_range_2 (zmr I1 q1 q2 q3 q4 q)
noncomputable def zuZ (wi:TI)(g:TG)(tb:TS):TS:=fun D σ H=>wi σ H fun J H1=>∃ W:Nat->Nat->St->Hp->Prop,(∃ m,W 0 m σ H1)/\∀ i m σ H,W i m σ H->
 (J.stop i H/\D.nx σ H)\/(J.go i H/\∃ N:St->Hp->Prop,(∀ σ' H',N σ' H'->∃ m',m'<m/\W (i+1) m' σ' H')/\∀ x H',J.yld i H x H'->g x σ H' fun σ2 H2=>tb {D with nx:=N,ct:=N,bk:=D.nx} σ2 H2)
noncomputable def pinsAt (fp:List Addr)(h:Heap):List (Addr×Obj):=fp.filterMap fun b=>(h.get? b).map fun o=>(b,o)
theorem ze6 {fp:List Addr}{h:Heap}{b:Addr}{o:Obj}(hb:b∈fp)(e:h.get? b=some o):(b,o)∈pinsAt fp h:=List.mem_filterMap.mpr ⟨b,hb,by rw [e];rfl⟩
theorem zkn {fp:List Addr}{h:Heap}{p:Addr×Obj}(hp:p∈pinsAt fp h):p.1∈fp/\h.get? p.1=some p.2:=by
 obtain ⟨b,hb,e⟩:=List.mem_filterMap.mp hp;cases q:h.get? b with
 |none=>rw [q] at e;cases e
 |some o=>
  rw [q] at e;have e':(b,o)=p:=Option.some.inj e;subst e';exact ⟨hb,q⟩
theorem Inv.pinned {pins:List (Addr×Obj)}{σ:St}{H:Hp}{s:Shared}{fp:List Addr}(I:Inv X pins σ H s)(hf:∀ b∈fp,zpf X pins H b)(ho:∀ b∈fp,∃ o,s.heap.get? b=some o/\∀ v,o.data≠ .cell v):Inv X (pins++pinsAt fp s.heap) σ H s:=
 I.pins_of fun p hp=>(List.mem_append.mp hp).elim (fun z=>I.pin p (List.mem_append_right _ z)) fun z=>by
  obtain ⟨hb,e⟩:=zkn z;obtain ⟨f0,f1,f2,_⟩:=hf p.1 hb;obtain ⟨o,e',d⟩:=ho p.1 hb;rw [e] at e';cases e';exact ⟨e,f0,f1,f2,d⟩
theorem Inv.unpinned {pins pl:List (Addr×Obj)}{σ:St}{H:Hp}{s:Shared}(I:Inv X (pins++pl) σ H s):Inv X pins σ H s:=I.pins_of fun p hp=>I.pin p (List.mem_append_right _ (List.mem_append_left _ hp))
theorem znI {iter:Expr}{body:List Stmt}{wi:TI}{g:TG}{tb:TS}{pos:Pos}(hp:PassesOwn (model X.prog X.w) X.A X.env X.xe)(hc:X.calm=true)(hi:PI X tg iter wi)(hg:PG X tg g)(hb:PSs X body tb)
  (hs:∀ x,foldedSetIterable iter X.env x=pure x:=by intro _;rfl):PS X (.For tg iter body [] pos) (zuZ wi g tb):=by
 intro pins s σ H D I h;refine wpAny_For (thn (hi pins s σ H _ I h) fun v s1 h1=>thn h1 fun itv s2 h2=>?_) hs;obtain ⟨it,fp,tn,J,H2,e,I2,T,st2,f2,W,⟨m0,w0⟩,turn⟩:=h2;subst e;have stat:∀ {H':Hp},(∀ b∈fp,H' b=none)->∀ b∈fp,zpf X pins H' b:=fun hn b hb=>⟨hn b hb,(f2 b hb).2⟩;refine codeAny_forLoop_any (fun n s'=>∃ i σ' H',Inv X pins σ' H' s'/\tn i s'.heap/\(∀ b∈fp,H' b=none)/\W i n σ' H') ?_ m0 ⟨0,σ,H2,I2,st2,fun b hb=>(f2 b hb).1,w0⟩;rintro n s3 ⟨i,σ3,H3,I3,st3,fr3,w3⟩;rcases turn i n σ3 H3 w3 with ⟨stop,qn⟩|⟨go,N,hN,step⟩
 ·refine wpAny_passesOwn hp (thn (T.done X rfl rfl rfl hc i pins s3 σ3 H3 X.xe I3 (stat fr3) st3 stop) fun r s4 ⟨hr,I4⟩=>?_);subst hr;exact wpAny_execs_nil ⟨σ3,H3,I4,qn⟩
 ·refine wpAny_passesOwn hp (thn (T.item X rfl rfl rfl hc i pins s3 σ3 H3 X.xe I3 (stat fr3) st3 go) fun r s4 ⟨u,hr,h4⟩=>?_);subst hr;refine wpAny_passesOwn hp (thn h4 fun _ s5 zz=>?_);obtain ⟨x,H5,I5,r5,y5,st5,fr5⟩:=zz;have I5':=I5.pinned (stat fr5) (T.obj _ _ st5);refine wpAny_passesOwn hp (thn (hg _ s5 σ3 H5 x u _ I5' r5 (step x H5 y5)) fun _ s6 zz=>?_);obtain ⟨σ6,H6,I6,q6⟩:=zz;refine wpAny_passesOwn hp (thn (hb _ s6 σ6 H6 _ I6 q6) fun f s7 q7=>?_);have again:∀ {σ7:St} {H7:Hp},Inv X (pins++pinsAt fp s5.heap) σ7 H7 s7->N σ7 H7->∃ m,m<n/\∃ i σ' H',Inv X pins σ' H' s7/\tn i s7.heap/\(∀ b∈fp,H' b=none)/\W i m σ' H':=fun {σ7 H7} I7 n7=>by
   obtain ⟨m',hm,w7⟩:=hN σ7 H7 n7;refine ⟨m',hm,i+1,σ7,H7,I7.unpinned,T.keep _ _ _ st5 fun b hb o e=>(I7.pin (b,o) (List.mem_append_right _ (List.mem_append_right _ (ze6 hb e)))).1,fun b hb=>?_,w7⟩;obtain ⟨o,e,d⟩:=T.obj _ _ st5 b hb;exact (I7.pin (b,o) (List.mem_append_right _ (List.mem_append_right _ (ze6 hb e)))).2.1
  cases f with
  |next=>obtain ⟨σ7,H7,I7,n7⟩:=q7;exact again I7 n7
  |cont=>obtain ⟨σ7,H7,I7,n7⟩:=q7;exact again I7 n7
  |brk=>obtain ⟨σ7,H7,I7,q7⟩:=q7;exact ⟨σ7,H7,I7.unpinned,q7⟩
  |ret v=>obtain ⟨x7,σ7,H7,I7,r7,q7⟩:=q7;exact ⟨x7,σ7,H7,I7.unpinned,r7,q7⟩
end
theorem zpl {K:PySem.W.Frag}{a:Addr}{xs:List V}{g:TG}{tb:TS}{D:Ends}{σ:St}{H:Hp}(Pv:Nat->St->Hp->Prop)(h0:Pv 0 σ H)(hl:∀ i σ H,i<=xs.length->Pv i σ H->SqL K H a xs)
  (hs:∀ i x σ H,xs[i]? =some x->Pv i σ H->g x σ H fun σ2 H2=>tb {D with nx:=Pv (i+1),ct:=Pv (i+1),bk:=D.nx} σ2 H2)(hd:∀ σ H,Pv xs.length σ H->D.nx σ H):
  ∃ W:Nat->Nat->St->Hp->Prop,(∃ m,W 0 m σ H)/\∀ i m σ H,W i m σ H->
   ((Itl K a).stop i H/\D.nx σ H)\/((Itl K a).go i H/\∃ N:St->Hp->Prop,(∀ σ' H',N σ' H'->∃ m',m'<m/\W (i+1) m' σ' H')/\∀ x H',(Itl K a).yld i H x H'->g x σ H' fun σ2 H2=>tb {D with nx:=N,ct:=N,bk:=D.nx} σ2 H2):=by
 refine ⟨fun i m σ H=>m=xs.length - i/\i<=xs.length/\Pv i σ H,⟨xs.length,by simp,Nat.zero_le _,h0⟩,?_⟩;rintro i m σ H ⟨rfl,hi,p⟩;have q:=hl i σ H hi p;by_cases hlt:i<xs.length
 ·refine .inr ⟨⟨xs,xs[i],q,by simp [hlt]⟩,Pv (i+1),fun σ' H' p'=>⟨xs.length - (i+1),by omega,rfl,hlt,p'⟩,fun x H' y=>?_⟩;obtain ⟨e,y⟩:=y;subst e;exact hs i x σ _ (y xs q) p
 ·have e:i=xs.length:=by omega
  subst e;exact .inl ⟨⟨xs,q,Nat.le_refl _⟩,hd σ H p⟩
theorem znJ {lo:Int}{n:Nat}{g:TG}{tb:TS}{D:Ends}{σ:St}{H:Hp}(Pv:Nat->St->Hp->Prop)(h0:Pv 0 σ H)
  (hs:∀ i σ H,i<n->Pv i σ H->g (.int (lo+i)) σ H fun σ2 H2=>tb {D with nx:=Pv (i+1),ct:=Pv (i+1),bk:=D.nx} σ2 H2)(hd:∀ σ H,Pv n σ H->D.nx σ H):
  ∃ W:Nat->Nat->St->Hp->Prop,(∃ m,W 0 m σ H)/\∀ i m σ H,W i m σ H->
   ((Itr lo n).stop i H/\D.nx σ H)\/((Itr lo n).go i H/\∃ N:St->Hp->Prop,(∀ σ' H',N σ' H'->∃ m',m'<m/\W (i+1) m' σ' H')/\∀ x H',(Itr lo n).yld i H x H'->g x σ H' fun σ2 H2=>tb {D with nx:=N,ct:=N,bk:=D.nx} σ2 H2):=by
 refine ⟨fun i m σ H=>m=n - i/\i<=n/\Pv i σ H,⟨n,by simp,Nat.zero_le _,h0⟩,?_⟩;rintro i m σ H ⟨rfl,hi,p⟩;by_cases hlt:i<n
 ·refine .inr ⟨hlt,Pv (i+1),fun σ' H' p'=>⟨n - (i+1),by omega,rfl,hlt,p'⟩,fun x H' y=>?_⟩;obtain ⟨e,y⟩:=y;subst e y;exact hs i σ _ hlt p
 ·have e:i=n:=by omega
  subst e;exact .inl ⟨Nat.le_refl _,hd σ H p⟩
end L2
namespace L2
open PySem PySem.Spec PyProof.Rows
noncomputable abbrev R2:=V->V->Hp->VK->Prop
noncomputable def OpR (X:Cx)(f:Value->Value->Sem Value)(r:R2):Prop:=
 ∀ (pins:List (Addr×Obj)) (s:Shared) (σ:St) (H:Hp) (x y:V) (v u:Value) (Q:VK),Inv X pins σ H s->RelV x v->RelV y u->r x y H Q->
  wpAny (model X.prog X.w) X.A (f v u) (EP X pins σ Q) X.xe s
noncomputable def UnR (X:Cx)(f:Value->Sem Value)(r:V->Hp->VK->Prop):Prop:=
 ∀ (pins:List (Addr×Obj)) (s:Shared) (σ:St) (H:Hp) (x:V) (v:Value) (Q:VK),Inv X pins σ H s->RelV x v->r x H Q->
  wpAny (model X.prog X.w) X.A (f v) (EP X pins σ Q) X.xe s
noncomputable def CallR (X:Cx)(f:Value)(r:List V->Hp->VK->Prop):Prop:=
 ∀ (pins:List (Addr×Obj)) (s:Shared) (σ:St) (H:Hp) (xs:List V) (us:List Value) (Q:VK),Inv X pins σ H s->Vals xs us->r xs H Q->
  wpAny (model X.prog X.w) X.A (call f us) (EP X pins σ Q) X.xe s
noncomputable def tOp (r:R2)(ta tb:TE):TE:=fun σ H Q=>ta σ H fun x H1=>tb σ H1 fun y H2=>r x y H2 Q
noncomputable def tUn (r:V->Hp->VK->Prop)(ta:TE):TE:=fun σ H Q=>ta σ H fun x H1=>r x H1 Q
noncomputable def rI (C:Int->Int->Prop)(g:Int->Int->V):R2:=fun x y H Q=>∃ i j,x= .int i/\y= .int j/\C i j/\Q (g i j) H
noncomputable def rI0 (g:Int->Int->V):R2:=fun x y H Q=>∃ i j,x= .int i/\y= .int j/\Q (g i j) H
noncomputable def rU (g:Int->V):V->Hp->VK->Prop:=fun x H Q=>∃ i,x= .int i/\Q (g i) H
section
variable {X:Cx}{a b c:Expr}{ta tb tc:TE}{pos:Pos}
theorem binT (ha:PE X a ta)(hb:PE X b tb){pins:List (Addr×Obj)}{s:Shared}{σ:St}{H:Hp}{R:V->V->Hp->Prop}(I:Inv X pins σ H s)
  (h:ta σ H fun x H1=>tb σ H1 fun y H2=>R x y H2){Q:Value->Shared->Prop}{f:Value->Value->Sem Value}
  (hf:∀ v u s2 x y H2,Inv X pins σ H2 s2->RelV x v->RelV y u->R x y H2->wpAny (model X.prog X.w) X.A (f v u) Q X.xe s2):
  wpAny (model X.prog X.w) X.A (eval a X.env) (fun v s₁=>wpAny (model X.prog X.w) X.A (eval b X.env) (fun u s₂=>wpAny (model X.prog X.w) X.A (f v u) Q X.xe s₂) X.xe s₁) X.xe s:=by
 refine thn (ha pins s σ H _ I h) fun v s1 zz=>?_;obtain ⟨x,H1,I1,r1,q1⟩:=zz;refine thn (hb pins s1 σ H1 _ I1 q1) fun u s2 zz=>?_;obtain ⟨y,H2,I2,r2,q2⟩:=zz;exact hf v u s2 x y H2 I2 r1 r2 q2
theorem zq0 {op:Operator}{r:R2}(ho:OpR X (binaryOp op) r)(ha:PE X a ta)(hb:PE X b tb):PE X (.BinOp a op b pos) (tOp r ta tb):=by
 intro pins s σ H Q I h;exact wpAny_BinOp (binT ha hb I h fun v u s2 x y H2 I2 rx ry q=>ho pins s2 σ H2 x y v u Q I2 rx ry q)
theorem zt7 {op:UnaryOp}{r:V->Hp->VK->Prop}(ho:UnR X (unaryOp op) r)(ha:PE X a ta):PE X (.UnaryOp op a pos) (tUn r ta):=by
 intro pins s σ H Q I h;exact UnaryOp_ (thn (ha pins s σ H _ I h) fun v s1 ⟨x,H1,I1,r1,q1⟩=>ho pins s1 σ H1 x v Q I1 r1 q1)
theorem opI {f:Value->Value->Sem Value}{C:Int->Int->Prop}{g:Int->Int->Int}
  (rule:∀ (i j:Int) (t u:Tok) (s:Shared) (Q:Value->Shared->Prop) (E:Value->Shared->Prop),C i j->Q (.int (g i j) s.toks) {s with toks:=s.toks+1}->wpAny (model X.prog X.w) X.A (f (.int i t) (.int j u)) Q E s):
  OpR X f (rI C fun i j=>.int (g i j)):=by
 intro pins s σ H x y v u Q I rx ry h;obtain ⟨i,j,rfl,rfl,hc,q⟩:=h;obtain ⟨t,rfl⟩:=rx;obtain ⟨t',rfl⟩:=ry;exact rule i j t t' s _ _ hc ⟨.int (g i j),H,I.tok _,⟨_,rfl⟩,q⟩
theorem ztM {f:Value->Value->Sem Value}{g:Int->Int->Int}
  (rule:∀ (i j:Int) (t u:Tok) (s:Shared) (Q:Value->Shared->Prop) (E:Value->Shared->Prop),Q (.int (g i j) s.toks) {s with toks:=s.toks+1}->wpAny (model X.prog X.w) X.A (f (.int i t) (.int j u)) Q E s):
  OpR X f (rI0 fun i j=>.int (g i j)):=by
 intro pins s σ H x y v u Q I rx ry h;obtain ⟨i,j,rfl,rfl,q⟩:=h;obtain ⟨t,rfl⟩:=rx;obtain ⟨t',rfl⟩:=ry;exact rule i j t t' s _ _ ⟨.int (g i j),H,I.tok _,⟨_,rfl⟩,q⟩
theorem ztN {f:Value->Value->Sem Value}{g:Int->Int->Bool}
  (rule:∀ (i j:Int) (t u:Tok) (s:Shared) (Q:Value->Shared->Prop) (E:Value->Shared->Prop),Q (.bool (g i j)) s->wpAny (model X.prog X.w) X.A (f (.int i t) (.int j u)) Q E s):
  OpR X f (rI0 fun i j=>.bl (g i j)):=by
 intro pins s σ H x y v u Q I rx ry h;obtain ⟨i,j,rfl,rfl,q⟩:=h;obtain ⟨t,rfl⟩:=rx;obtain ⟨t',rfl⟩:=ry;exact rule i j t t' s _ _ ⟨.bl (g i j),H,I,rfl,q⟩
noncomputable def ztO (i j:Int):Prop:=0<=j/\j<=1000000/\i.natAbs<2 ^ 64
theorem zna (k:Nat):(0:Int)<=2 ^ k:=by
 rw [two_pow_cast];exact Int.natCast_nonneg _
theorem zsE:OpR X (binaryOp .Add) (rI0 fun i j=>.int (i+j)):=ztM fun _ _ _ _ _ _ _ q=>add_int q
theorem zsF:OpR X (binaryOp .Sub) (rI0 fun i j=>.int (i - j)):=ztM fun _ _ _ _ _ _ _ q=>sub_int q
theorem zsG:OpR X (binaryOp .Mod) (rI (fun _ j=>0<j) fun i j=>.int (i % j)):=opI fun i j _ _ _ _ _ hc q=>by
 have h1:(0:Int)<j:=hc;exact mod_int' (by omega) (by rw [Int.fmod_eq_emod_of_nonneg i (by omega)];exact q)
theorem zsH:OpR X (binaryOp .LShift) (rI ztO fun i j=>.int (i * 2 ^ j.toNat)):=opI fun _ _ _ _ _ _ _ hc q=>lshift_int_small hc.1 hc.2.1 hc.2.2 q
theorem zsI:OpR X (binaryOp .RShift) (rI (fun _ j=>0<=j) fun i j=>.int (i / 2 ^ j.toNat)):=opI fun i j _ _ _ _ _ hc q=>
 rshift_int hc (by rw [Int.fdiv_eq_ediv_of_nonneg i (zna _)];exact q)
theorem zsJ:OpR X (binaryOp .BitAnd) (rI0 fun i j=>.int (Builtin.bitAnd i j)):=ztM fun _ _ _ _ _ _ _ q=>and_int q
theorem zt8:OpR X (binaryOp .BitOr) (rI0 fun i j=>.int (Builtin.bitOr i j)):=ztM fun _ _ _ _ _ _ _ q=>or_int q
theorem unI {f:Value->Sem Value}{g:Int->Int}
  (rule:∀ (i:Int) (t:Tok) (s:Shared) (Q:Value->Shared->Prop) (E:Value->Shared->Prop),Q (.int (g i) s.toks) {s with toks:=s.toks+1}->wpAny (model X.prog X.w) X.A (f (.int i t)) Q E s):
  UnR X f (rU fun i=>.int (g i)):=by
 intro pins s σ H x v Q I rx h;obtain ⟨i,rfl,q⟩:=h;obtain ⟨t,rfl⟩:=rx;exact rule i t s _ _ ⟨.int (g i),H,I.tok _,⟨_,rfl⟩,q⟩
theorem zsK:UnR X (unaryOp .Invert) (rU fun i=>.int (Builtin.bitNot i)):=unI fun _ _ _ _ _ q=>invert_int q
end
section
variable {X:Cx}{a b c:Expr}{ta tb tc:TE}{pos:Pos}
theorem zi9 {pins:List (Addr×Obj)}{σ:St}{H:Hp}{s:Shared}{Q:VK}{k k':Bool}(I:Inv X pins σ H s)(q:Q (.bl k) H)(e:k=k'):EP X pins σ Q (.bool k') s:=by
 subst e;exact ⟨.bl k,H,I,rfl,q⟩
theorem zpm:OpR X (compareOp .Lt) (rI0 fun i j=>.bl (decide (i<j))):=ztN fun _ _ _ _ _ _ _ q=>lt_int q
theorem zsL:OpR X (compareOp .LtE) (rI0 fun i j=>.bl (decide (i<=j))):=ztN fun _ _ _ _ _ _ _ q=>le_int q
theorem zsM:OpR X (compareOp .Gt) (rI0 fun i j=>.bl (decide (j<i))):=ztN fun _ _ _ _ _ _ _ q=>gt_int q
theorem zt9:OpR X (compareOp .GtE) (rI0 fun i j=>.bl (decide (j<=i))):=ztN fun _ _ _ _ _ _ _ q=>ge_int q
theorem OpR.or {f:Value->Value->Sem Value}{r r':R2}(h:OpR X f r)(h':OpR X f r'):OpR X f (fun x y H Q=>r x y H Q\/r' x y H Q):=by
 intro pins s σ H x y v u Q I rx ry q;rcases q with q|q
 ·exact h pins s σ H x y v u Q I rx ry q
 ·exact h' pins s σ H x y v u Q I rx ry q
theorem zhd (b:Expr){op:CmpOp}(h:op≠ .In:=by decide)(h2:op≠ .NotIn:=by decide):behindInMarks op b=false:=by
 have e1:(op==CmpOp.In)=false:=by cases op<;>first|rfl|exact absurd rfl h
 have e2:(op==CmpOp.NotIn)=false:=by cases op<;>first|rfl|exact absurd rfl h2
 cases b<;>simp [behindInMarks,e1,e2]
theorem zq1 {op:CmpOp}{r:R2}(ho:OpR X (compareOp op) r)(ha:PE X a ta)(hb:PE X b tb)(hm:behindInMarks op b=false):PE X (.Compare a [op] [b] pos) (tOp r ta tb):=by
 intro pins s σ H Q I h;exact wpAny_Compare1 (binT ha hb I h fun v u s2 x y H2 I2 rx ry q=>ho pins s2 σ H2 x y v u Q I2 rx ry q) hm
noncomputable def zq2 (t:TE):TT:=fun σ H Q=>t σ H fun x H'=>∃ k,x= .bl k/\Q k H'
theorem zq3 {op:CmpOp}{r:R2}(ho:OpR X (compareOp op) r)(ha:PE X a ta)(hb:PE X b tb)(hm:behindInMarks op b=false):PT X (.Compare a [op] [b] pos) (zq2 (tOp r ta tb)):=by
 intro pins s σ H Q I h;refine wpAny_isTrue_Compare1 (thn (ha pins s σ H _ I h) fun v s1 ⟨x,H1,I1,r1,q1⟩=>thn (hb pins s1 σ H1 _ I1 q1) fun u s2 ⟨y,H2,I2,r2,q2⟩=>
  thn (ho pins s2 σ H2 x y v u _ I2 r1 r2 q2) fun c s3 ⟨z,H3,I3,r3,k,e,q3⟩=>?_) hm
 subst e;cases r3;exact wpAny_truthy_bool ⟨H3,I3,q3⟩
noncomputable def zqx (r r':R2)(ta tb tc:TE):TE:=fun σ H Q=>ta σ H fun x H1=>tb σ H1 fun y H2=>r x y H2 fun z H3=>∃ k,z= .bl k/\
 (if k=true then tc σ H3 fun w' H4=>r' y w' H4 Q else Q (.bl false) H3)
theorem zpn {op op':CmpOp}{r r':R2}(ho:OpR X (compareOp op) r)(ho':OpR X (compareOp op') r')(ha:PE X a ta)(hb:PE X b tb)(hc:PE X c tc)
  (hm:lastMarks [op,op'] [b,c]=false:=by with_unfolding_all rfl):PE X (.Compare a [op,op'] [b,c] pos) (zqx r r' ta tb tc):=by
 intro pins s σ H Q I h;refine Compare_chain (thn (ha pins s σ H _ I h) fun v s1 ⟨x,H1,I1,r1,q1⟩=>chain_link (thn (hb pins s1 σ H1 _ I1 q1) fun u s2 ⟨y,H2,I2,r2,q2⟩=>
  thn (ho pins s2 σ H2 x y v u _ I2 r1 r2 q2) fun d s3 ⟨z,H3,I3,r3,k,e,q3⟩=>?_)) hm
 subst e;cases r3;refine wpAny_truthy_bool ?_;cases k with
 |false=>exact ite_ff ⟨.bl false,H3,I3,rfl,q3⟩
 |true=>exact ite_tt (chain_last (thn (hc pins s3 σ H3 _ I3 q3) fun w' s4 ⟨z',H4,I4,r4,q4⟩=>ho' pins s4 σ H4 y z' u w' Q I4 r2 r4 q4))
theorem zms:(sizeLine:Nat)<2 ^ 63:=by rw [sizeLine_eq];decide
theorem zpo {x:V}{us:List Value}(r:Vals [x] us):∃ u,us=[u]/\RelV x u:=by
 cases r with
 |cons r1 r2=>cases r2;exact ⟨_,rfl,r1⟩
theorem zsN {x y:V}{us:List Value}(r:Vals [x,y] us):∃ u w',us=[u,w']/\RelV x u/\RelV y w':=by
 cases r with
 |cons r1 r2=>
  cases r2 with
  |cons r3 r4=>cases r4;exact ⟨_,_,rfl,r1,r3⟩
theorem znK (hc:X.calm=true):CallR X (.builtin "max") (fun xs H Q=>∃ i j,xs=[.int i,.int j]/\Q (.int (if j>i then j else i)) H):=by
 intro pins s σ H xs us Q I r h;obtain ⟨i,j,rfl,q⟩:=h;obtain ⟨u,w',rfl,⟨t,rfl⟩,⟨t',rfl⟩⟩:=zsN r;refine max_two_ints (I.ok.hd hc) fun h' tk k=>⟨_,H,I.kept k,?_,q⟩;by_cases hj:j>i
 ·rw [if_pos hj,if_pos hj];exact ⟨_,rfl⟩
 ·rw [if_neg hj,if_neg hj];exact ⟨_,rfl⟩
theorem znL (hc:X.calm=true):CallR X (.builtin "min") (fun xs H Q=>∃ i j,xs=[.int i,.int j]/\Q (.int (if j<i then j else i)) H):=by
 intro pins s σ H xs us Q I r h;obtain ⟨i,j,rfl,q⟩:=h;obtain ⟨u,w',rfl,⟨t,rfl⟩,⟨t',rfl⟩⟩:=zsN r;refine min_two_ints (I.ok.hd hc) fun h' tk k=>⟨_,H,I.kept k,?_,q⟩;by_cases hj:j<i
 ·rw [if_pos hj,if_pos hj];exact ⟨_,rfl⟩
 ·rw [if_neg hj,if_neg hj];exact ⟨_,rfl⟩
theorem znM:CallR X (.type "int") (fun xs H Q=>(∃ i,xs=[.int i]/\Q (.int i) H)\/∃ k,xs=[.bl k]/\Q (.int (if k then 1 else 0)) H):=by
 intro pins s σ H xs us Q I r h;rcases h with ⟨i,rfl,q⟩|⟨k,rfl,q⟩
 ·obtain ⟨u,rfl,t,rfl⟩:=zpo r;exact call_int_int ⟨.int i,H,I,⟨_,rfl⟩,q⟩
 ·obtain ⟨u,rfl,r1⟩:=zpo r;cases r1;exact call_int_bool ⟨.int (if k then 1 else 0),H,I.tok _,⟨_,rfl⟩,q⟩
end
end L2
namespace L2
open PySem PySem.Spec PyProof.Rows
structure ObjM (h:Heap)(x dx C:Addr)(mA:Str->Option Value):Prop where
 obj:h.get? x=some (PySem.W.instObj C dx)
 ns:h.Ns1 dx mA
 ne:dx≠x
theorem znN {h:Heap}{dx:Addr}{mA:Str->Option Value}(n:h.Ns1 dx mA):∃ od,h.get? dx=some od/\∀ name,PySem.W.lookIn name od=some (mA name):=by
 obtain ⟨o,es,ep,ho,hd,hk,_,hm⟩:=n;refine ⟨o,ho,fun name=>?_⟩;have e:=hm name;unfold nsFind findBy at e;rw [<-Array.find?_toList] at e;unfold PySem.W.lookIn;rw [hd];dsimp only;split
 ·rename_i y q;rw [q] at e;exact congrArg some e
 ·rename_i q;rw [q] at e;have a:es.toList.any (·.refKey)=false:=by
   rw [List.any_eq_false];intro y hy;obtain ⟨z,t,hkey⟩:=hk y (Array.mem_toList_iff.mp hy);simp [DictEntry.refKey,hkey]
  have a':¬ es.toList.any (·.refKey)=true:=by rw [a];exact Bool.false_ne_true
  rw [if_neg a'];exact congrArg some e
theorem ObjM.look {h:Heap}{x dx C:Addr}{mA:Str->Option Value}(I:ObjM h x dx C mA):∃ od,PySem.W.InstAt h x (PySem.W.instObj C dx) C (some od)/\∀ name,PySem.W.lookIn name od=some (mA name):=
 let ⟨od,ho,hl⟩:=znN I.ns
 ⟨od,⟨I.obj,rfl,rfl,ho⟩,hl⟩
section
variable {prog:Program}{w:World}{A:Around}{E:Value->Shared->Prop}{s:Shared}{K:PySem.W.Frag}{x dx C f:Addr}{mA:Str->Option Value}{name:Str}{v:Value}
end
section
variable {P:Program}{w:World}{H H':Hp}{h h':Heap}{a C dx:Addr}{fs fs':List (Str×V)}
theorem zq4 (hok:HOk P w H h)(e:H a=some (.ins C dx fs)):∃ mA,ObjM h a dx C mA/\(∀ f,RelO (fs.lookup f) (mA f))/\PySem.Within mA (fs.map (·.1))/\fs.length<=1000/\H dx=some (.own a):=by
 obtain ⟨d,z,ne,ob,mA,n,r,q⟩:=(show ObjOk P w H h a (.ins C dx fs) from hok a _ e);exact ⟨mA,⟨ob,n,ne⟩,r,q,z,d⟩
end
structure Cls (K:PySem.W.Frag)(C:Addr):Prop where
 pg:PySem.W.plainGet K C Str.empty=true
 hd:PySem.W.hasDictIn K C=true
 po:PySem.W.plainOver K C=true
 sa:PySem.W.findIn K (.ref C) "__setattr__"=some (some (.builtin "object.__setattr__"))
theorem Cls.get {K:PySem.W.Frag}{C:Addr}(c:Cls K C)(f:Str):PySem.W.plainGet K C f=true:=c.pg
section
variable {X:Cx}{pins:List (Addr×Obj)}{σ:St}{H:Hp}{s:Shared}{a C dx:Addr}{fs:List (Str×V)}{f:Str}{v:V}{A:Around}{E:Value->Shared->Prop}
end
section
variable {X:Cx}{o e value:Expr}{f:Str}{pos pos' tpos:Pos}{ta tv:TE}
end
section
variable {X:Cx}{pins:List (Addr×Obj)}{σ:St}{H:Hp}{s:Shared}{A:Around}{E:Value->Shared->Prop}{Q:Value->Shared->Prop}{c:Value}{b:Bool}
inductive TyOf (K:PySem.W.Frag)(H:Hp):V->Value->Prop where
 |non:TyOf K H .non (.type "NoneType")
 |bl (x:Bool):TyOf K H (.bl x) (.type "bool")
 |int (i:Int):TyOf K H (.int i) (.type "int")
 |str (x:Str):TyOf K H (.str x) (.type "str")
 |flt (x:UInt64):TyOf K H (.flt x) (.type "float")
 |lst {a:Addr} {xs:List V} (e:H a=some (.lst xs)):TyOf K H (.ref a) (.type "list")
 |frz {a:Addr} {o:Obj} {xs:List V} (e:H a=some (.frz o (.lst xs))):TyOf K H (.ref a) (.type "list")
 |tup {a:Addr} {xs:List V} (e:H a=some (.tup xs)):TyOf K H (.ref a) (.type "tuple")
 |dK {a:Addr} {kvs:List (Key×V)} (e:H a=some (.dK kvs)):TyOf K H (.ref a) (.type "dict")
 |dT {a:Addr} {kvs:List (List Key×V)} (e:H a=some (.dT kvs)):TyOf K H (.ref a) (.type "dict")
 |ins {a C dx:Addr} {fs:List (Str×V)} (e:H a=some (.ins C dx fs)) (cl:Cls K C) (ha:PySem.W.findIn K (.ref C) "__class__"=some (some (.builtin "object.__class__")))
   (hn:PySem.W.specialIn K (.builtin "object.__class__") "__get__"=some (some (.builtin "getset_descriptor.__get__"))) (htk:PySem.W.takesIn K (.builtin "object.__class__")=some true)
   (hm:PySem.W.mroIn K C (.type "object")=some true):TyOf K H (.ref a) (.ref C)
theorem zfT {x:V}{u t:Value}(I:Inv X pins σ H s)(rx:RelV x u)(ty:TyOf X.K H x t)(e:PySem.W.kitOne X.K t c=some b)(h:∀ tk,Q (.bool b) {s with toks:=tk}):
  wpAny (model X.prog X.w) A (call (.builtin "isinstance") [u,c]) Q E s:=by
 cases ty with
 |non=>cases (show u=Value.none from rx);exact PySem.W.kia_one PySem.W.kitx_none I.kIn True.intro e (fun z=>nomatch z) h
 |bl y=>cases (show u=Value.bool y from rx);exact PySem.W.kia_one PySem.W.kitx_bool I.kIn True.intro e (fun z=>nomatch z) h
 |int i=>obtain ⟨t,q⟩:=(show ∃ t,u=Value.int i t from rx);cases q;exact PySem.W.kia_one PySem.W.kitx_int I.kIn True.intro e (fun z=>nomatch z) h
 |str y=>obtain ⟨t,q⟩:=(show ∃ t,u=Value.str y t from rx);cases q;exact PySem.W.kia_one PySem.W.kitx_str I.kIn True.intro e (fun z=>nomatch z) h
 |flt y=>obtain ⟨t,q⟩:=(show ∃ t,u=Value.float y t from rx);cases q;exact PySem.W.kia_one PySem.W.kitx_float I.kIn True.intro e (fun z=>nomatch z) h
 | @lst a xs ea=>
  cases (show u=Value.ref a from rx);obtain ⟨_,_,n,_,h1⟩:=(show ObjOk X.prog X.w H s.heap a (.lst xs) from I.hok a _ ea);exact PySem.W.kia_one PySem.W.kitx_list I.kIn ⟨_,h1,rfl⟩ e (fun z=>nomatch z) h
 | @frz a ob xs ea=>
  cases (show u=Value.ref a from rx);obtain ⟨_,_,_,n,_,h1⟩:=(show ObjOk X.prog X.w H s.heap a (.frz ob (.lst xs)) from I.hok a _ ea);exact PySem.W.kia_one PySem.W.kitx_list I.kIn ⟨_,h1,rfl⟩ e (fun z=>nomatch z) h
 | @tup a xs ea=>
  cases (show u=Value.ref a from rx);obtain ⟨_,_,_,p⟩:=(show ObjOk X.prog X.w H s.heap a (.tup xs) from I.hok a _ ea);obtain ⟨o,h1,h2,_⟩:=p;exact PySem.W.kia_one PySem.W.kitx_tuple I.kIn ⟨o,h1,h2⟩ e (fun z=>nomatch z) h
 | @dK a kvs ea=>
  cases (show u=Value.ref a from rx);obtain ⟨_,_,vs,_,p⟩:=(show ObjOk X.prog X.w H s.heap a (.dK kvs) from I.hok a _ ea);obtain ⟨o,es,ep,h1,h2,_⟩:=p;exact PySem.W.kia_one PySem.W.kitx_dict I.kIn ⟨o,h1,h2.1⟩ e (fun z=>nomatch z) h
 | @dT a kvs ea=>
  cases (show u=Value.ref a from rx);obtain ⟨_,_,xs,_,o,es,ep,h1,h2,_⟩:=(show ObjOk X.prog X.w H s.heap a (.dT kvs) from I.hok a _ ea);exact PySem.W.kia_one PySem.W.kitx_dict I.kIn ⟨o,h1,h2.1⟩ e (fun z=>nomatch z) h
 | @ins a C dx fs ea cl ha hn htk hm=>
  cases (show u=Value.ref a from rx);obtain ⟨mA,O,_⟩:=zq4 I.hok ea;obtain ⟨od,J,_⟩:=O.look;exact PySem.W.kia_one (PySem.W.kitx_own (cl.get _) cl.hd ha hn htk hm) I.kIn J e (fun z=>nomatch z) h
end
end L2
namespace L2
open PySem PySem.Spec PyProof.Rows
structure Room (k:Nat)(A:Around):Prop where
 hd:A.handled=none
 dp:A.depth+3 * k+5<recursionLimit
 un:A.units+16 * k+200<cLine
theorem Room.mono {j k:Nat}{A:Around}(r:Room k A)(h:j<=k):Room j A:=⟨r.hd,by have:=r.dp;omega,by have:=r.un;omega⟩
theorem Room.deeper {k:Nat}{A:Around}(r:Room (k+1) A)(env:Env):Room k (A.deeper env):=
 ⟨r.hd,by have:=r.dp;show A.depth+1+3 * k+5<_;omega,by have:=r.un;show A.units+3+16 * k+200<_;omega⟩
theorem Room.in1 {k:Nat}{A:Around}(r:Room (k+1) A):Room k A.in1:=
 ⟨r.hd,by have:=r.dp;show A.depth+3 * k+5<_;omega,by have:=r.un;show A.units+1+16 * k+200<_;omega⟩
theorem Room.depth {k:Nat}{A:Around}(r:Room k A):A.depth<recursionLimit:=by have:=r.dp;omega
theorem Room.units {k:Nat}{A:Around}(r:Room k A):A.units+64<cLine:=by have:=r.un;omega
noncomputable def zu0:TA:=fun _ H Q=>Q [] H
noncomputable def zua (ta:TE)(tr:TA):TA:=fun σ H Q=>ta σ H fun x H1=>tr σ H1 fun xs H2=>Q (x::xs) H2
section
variable {X:Cx}{e:Expr}{es:List Expr}{te:TE}{t:TA}{pos:Pos}
theorem zfU:PA X [] zu0:=fun _ _ _ _ H Q I h=>Calls.spliced_nil ⟨[],H,I,.nil,h⟩
theorem zcm (ha:PE X e te)(hr:PA X es t)(hs:starEach (e::es) X.env=(false,eval e X.env)::starEach es X.env:=by rfl):PA X (e::es) (zua te t):=by
 intro pos pins s σ H Q I h;rw [hs];show wpAny _ _ (spliced ((false,eval e X.env)::backTo pos (starEach es X.env))) _ _ s;refine Calls.spliced_cons (thn (ha pins s σ H _ I h) fun u s1 zz=>?_);obtain ⟨x,H1,I1,r1,q1⟩:=zz;exact thn (hr pos pins s1 σ H1 _ I1 q1) fun us s2 ⟨xs,H2,I2,r2,q2⟩=>⟨x::xs,H2,I2,.cons r1 r2,q2⟩
noncomputable def zu1 (t:TA):TE:=fun σ H Q=>t σ H fun xs H1=>xs.length<=sizeLine/\∀ p,H1 p=none->Q (.ref p) (upd H1 p (.tup xs))
noncomputable def zu2 (t:TA):TE:=fun σ H Q=>t σ H fun xs H1=>xs.length<=sizeLine/\∀ p,H1 p=none->Q (.ref p) (upd H1 p (.lst xs))
theorem zsO {x1}(h:PA X es t):PE X (.Tuple es x1 pos) (zu1 t):=by
 intro pins s σ H Q I hq;refine wpAny_Tuple_spliced (thn (h pos pins s σ H _ I hq) fun us s1 ⟨xs,H1,I1,r,z,q⟩=>⟨by rw [<-r.length];exact z,?_⟩);have hf:H1 s1.heap.objs.size=none:=I1.hok.fresh (Nat.le_refl _);refine ⟨.ref s1.heap.objs.size,upd H1 s1.heap.objs.size (.tup xs),I1.laid (t':=s1.toks) (fun b u e=>Heap.get?_push_of_some _ e) (Nat.le_refl _) ?_,rfl,q _ hf⟩;exact ⟨z,us,r,⟨_,Heap.get?_push_size _ rfl,rfl,_,rfl⟩⟩
theorem znO (h:PA X es t):PE X (.List es pos) (zu2 t):=by
 intro pins s σ H Q I hq;refine wpAny_List_spliced (thn (h pos pins s σ H _ I hq) fun us s1 ⟨xs,H1,I1,r,z,q⟩=>⟨by rw [<-r.length];exact z,?_⟩);have hf:H1 s1.heap.objs.size=none:=I1.hok.fresh (Nat.le_refl _);refine ⟨.ref s1.heap.objs.size,upd H1 s1.heap.objs.size (.lst xs),I1.laid (t':=s1.toks) (fun b u e=>Heap.get?_push_of_some _ e) (Nat.le_refl _) ?_,rfl,q _ hf⟩;exact ⟨z,us,0,r,Heap.get?_push_size _ rfl⟩
end
noncomputable abbrev Sp:=List V->Hp->VK->XK->Prop
noncomputable abbrev CXT:=List Env->Hp->Shared->XK->Value->Shared->Prop
structure Env0 (P:Program)(w:World)(K:PySem.W.Frag)(mg:Str->Option Value)(base:Heap)(A:Around)(outer:List Env)(s:Shared)(H:Hp):Prop where
 frames:A.frames=some outer
 mod:Mod K mg base
 bs:∀ b o,base.get? b=some o->s.heap.get? b=some o/\H b=none
 bsz:base.objs.size<=s.heap.objs.size
 funs:s.heap.FunFrames base outer
 frf:∀ b∈frs outer,H b=none
 hok:HOk P w H s.heap
 bare:AllBare s.gens
noncomputable def CE (outer:List Env)(P:Program)(w:World)(H:Hp)(s:Shared)(Q:VK)(u:Value)(s':Shared):Prop:=
 ∃ v H',s'.os=s.os/\AllBare s'.gens/\Un (frs outer) [] H H' s.heap s'.heap/\HOk P w H' s'.heap/\RelV v u/\Q v H'
noncomputable def CR (CX:CXT)(outer:List Env)(P:Program)(w:World)(H:Hp)(s:Shared)(Q:VK)(E:XK)(r:Result)(s':Shared):Prop:=
 match r with
 | .ok (.ret u)=>CE outer P w H s Q u s'
 | .ok _=>False
 | .error e=>CX outer H s E e s'
structure FnOk (P:Program)(w:World)(K:PySem.W.Frag)(mg:Str->Option Value)(base:Heap)(CX:CXT)(k:Nat)(f:Addr)(fd:FuncData)(ps:List Str)(sp:Sp):Prop where
 len:∀ vs H Q E,sp vs H Q E->vs.length=ps.length
 run:∀ (A:Around) (outer:List Env) (s:Shared) (H:Hp) (args:Args) (us:List Value) (vs:List V) (Q:VK) (E:XK),Room k A->Env0 P w K mg base A outer s H->BindsTo s fd args (ps.zip us)->Vals vs us->sp vs H Q E->
  codeAny (model P w) A (.call (.ref f) args) (CR CX outer P w H s Q E) s
theorem FnOk.mono {P:Program}{w:World}{K:PySem.W.Frag}{mg:Str->Option Value}{base:Heap}{CX:CXT}{j k:Nat}{f:Addr}{fd:FuncData}{ps:List Str}{sp:Sp}(F:FnOk P w K mg base CX j f fd ps sp)(h:j<=k):
  FnOk P w K mg base CX k f fd ps sp:=⟨F.len,fun A outer s H args us vs Q E hr=>F.run A outer s H args us vs Q E (hr.mono h)⟩
theorem Env0.in1 {P:Program}{w:World}{K:PySem.W.Frag}{mg:Str->Option Value}{base:Heap}{A:Around}{outer:List Env}{s:Shared}{H:Hp}(e:Env0 P w K mg base A outer s H):
  Env0 P w K mg base A.in1 outer s H:=⟨e.frames,e.mod,e.bs,e.bsz,e.funs,e.frf,e.hok,e.bare⟩
section
variable {X:Cx}{pins:List (Addr×Obj)}{σ:St}{H:Hp}{s s':Shared}
theorem Inv.env0 (I:Inv X pins σ H s):Env0 X.prog X.w X.K X.mg X.base X.A X.stack s H:=
 ⟨I.ok.frames,I.ok.mod,I.bs,Nat.le_trans I.ok.bsz I.sz,I.stack,I.stkFree,I.hok,I.bare⟩
theorem Inv.after {Q:VK}{u:Value}(I:Inv X pins σ H s)(h:CE X.stack X.prog X.w H s Q u s'):EP X pins σ Q u s':=by
 obtain ⟨v,H',os,bare,un,hok,r,q⟩:=h;obtain ⟨hh,g,d,t,os'⟩:=s';obtain rfl:os'=s.os:=os;exact ⟨v,H',I.call (h':=hh) (g':=g) (d':=d) (t':=t) (ch:=[]) un hok bare (fun b z=>absurd z (by simp)),r,q⟩
end
noncomputable def zub (sp:Sp)(dvs:List V)(E:XK)(t:TA):TE:=fun σ H Q=>t σ H fun vs H1=>sp (vs++dvs) H1 Q E
noncomputable def Binds (K:PySem.W.Frag)(fd:FuncData)(ps:List Str)(ds:List Value):Prop:=
 ∀ (s:Shared) (us:List Value),K.In s.heap->(us++ds).length=ps.length->BindsTo s fd ⟨us,[]⟩ (ps.zip (us++ds))
theorem Binds.all {K:PySem.W.Frag}{fd:FuncData}{ps:List Str}(h:∀ us:List Value,us.length=ps.length->bindArgs fd ⟨us,[]⟩=pure (ps.zip us)):Binds K fd ps []:=fun s us _ hl=>by
 rw [List.append_nil] at hl ⊢;exact .of_eq (h us hl)
noncomputable def znP (CX:CXT)(X:Cx)(E:XK):Prop:=∀ (pins:List (Addr×Obj)) (σ:St) (H:Hp) (s:Shared) (e:Value) (s':Shared),Inv X pins σ H s->CX X.stack H s E e s'->X.xe e s'
section
variable {X:Cx}{CX:CXT}{k:Nat}{f C:Addr}{fd:FuncData}{ps:List Str}{sp:Sp}{dvs:List V}{ds:List Value}{E:XK}{x m:Str}{p pos apos:Pos}{e o:Expr}{es:List Expr}{ta:TE}{t:TA}
theorem zqy {pins:List (Addr×Obj)}{σ:St}{H:Hp}{s:Shared}{Q:VK}{us:List Value}{vs:List V}(F:FnOk X.prog X.w X.K X.mg X.base CX k f fd ps sp)(hr:Room k X.A)(hb:Binds X.K fd ps ds)(hd:Vals dvs ds)(hx:znP CX X E)
  (I:Inv X pins σ H s)(r:Vals vs us)(h:sp (vs++dvs) H Q E):wpAny (model X.prog X.w) X.A (call (.ref f) us) (EP X pins σ Q) X.xe s:=by
 have r2:Vals (vs++dvs) (us++ds):=r.append hd;have hl:(us++ds).length=ps.length:=by rw [<-r2.length];exact F.len _ _ _ _ h
 refine wpAny_call (codeAny_mono (F.run X.A X.stack s H ⟨us,[]⟩ (us++ds) (vs++dvs) Q E hr I.env0 (hb s us I.kIn hl) r2 h) fun r s' hq=>?_);cases r with
 |error e=>exact hx pins σ H s e s' I hq
 |ok fl=>
  cases fl with
  |ret u=>exact I.after hq
  |next=>exact False.elim hq
  |brk=>exact False.elim hq
  |cont=>exact False.elim hq
theorem zlH (F:FnOk X.prog X.w X.K X.mg X.base CX k f fd ps sp)(hr:Room k X.A)(hg:Gl X x)(hm:X.mg x=some (.ref f))(hk:PySem.W.keepIn X.K (.ref f)=true)(hb:Binds X.K fd ps ds)(hd:Vals dvs ds)(hx:znP CX X E)
  (ha:PA X (e::es) t)(hdb:(x==("__debug__":Str))=false:=by decide)(he:starEach (e::es) X.env=(false,eval e X.env)::starEach es X.env:=by rfl)(hpl:(backTo pos (starEach es X.env)).any (·.1)=false:=by rfl):
  PE X (.Call (.Name x p) (e::es) [] pos) (zub sp dvs E t):=by
 intro pins s σ H Q I h;refine wpAny_Call_Name_kw (ld_glob I hg hm ?_ hdb);refine PySem.W.callWith_K (h₀:=X.base) I.ok.mod.kin hk (thn (ha pos pins s σ H _ I h) fun us s1 ⟨vs,H1,I1,r,q⟩=>⟨I1.kIn,?_⟩) he hpl;exact zqy F hr hb hd hx I1 r q
end
section
variable {X:Cx}{CX:CXT}{k:Nat}{f C:Addr}{fd:FuncData}{ps ks:List Str}{sp:Sp}{E:XK}{x m:Str}{p pos apos kpos:Pos}{e o:Expr}{es:List Expr}{kws:List Keyword}{te ta:TE}{t tk:TA}{nm:Option Str}
variable {g:List Value->List Value->List Value}{gV:List V->List V->List V}
end
structure FnScope (N P:List Str)(sc:Scope):Prop where
 kind:sc.kind= .function
 co:sc.isCoroutine=false
 gen:sc.isGenerator=false
 nd:N.Nodup
 pre:N.take P.length=P
 par:∀ x∈P,sc.names.lookup x=some .local\/sc.names.lookup x=some .cell
 nofree:∀ y∈sc.names,y.2≠ .free
theorem zko {kindOf:Str->Option NameKind}{x:Str}:∀ {binds:List (Str×Value)} {m:Str->Option Value},(∀ v,(x,v)∉binds)->bindL kindOf binds m x=m x
 | [],_,_=>rfl
 | (n,v)::r,m,h=>by
  unfold bindL;rw [zko fun w hw=>h w (List.mem_cons_of_mem _ hw)];split
  ·have:x≠n:=by rintro rfl;exact h v List.mem_cons_self
   simp [this]
  ·rfl
theorem zkp {kindOf:Str->Option NameKind}{x:Str}:∀ {binds:List (Str×Value)} {m:Str->Option Value},(∀ v,(x,v)∉binds)->bindC kindOf binds m x=m x
 | [],_,_=>rfl
 | (n,v)::r,m,h=>by
  unfold bindC;rw [zkp fun w hw=>h w (List.mem_cons_of_mem _ hw)];split
  ·rfl
  ·have:x≠n:=by rintro rfl;exact h v List.mem_cons_self
   simp [this]
theorem zkq {kindOf:Str->Option NameKind}{x:Str}{v:Value}:∀ {P:List Str} {vs:List Value} {i:Nat} {m:Str->Option Value},P.Nodup->P[i]? =some x->vs[i]? =some v->kindOf x=some .local->
  bindL kindOf (P.zip vs) m x=some v
 | [],_,_,_,_,h,_,_=>by simp at h
 |_::_,[],_,_,_,_,h,_=>by simp at h
 |p::P,w::vs,0,m,nd,h1,h2,hk=>by
  simp at h1 h2;subst h1;subst h2;show bindL kindOf ((p,w)::P.zip vs) m p=_;unfold bindL;rw [zko fun v hv=>(List.nodup_cons.mp nd).1 (List.of_mem_zip hv).1,if_pos hk];simp
 |p::P,w::vs,i+1,m,nd,h1,h2,hk=>by
  show bindL kindOf ((p,w)::P.zip vs) m x=_;unfold bindL;exact zkq (i:=i) (List.nodup_cons.mp nd).2 (by simpa using h1) (by simpa using h2) hk
theorem zkr {kindOf:Str->Option NameKind}{x:Str}{v:Value}:∀ {P:List Str} {vs:List Value} {i:Nat} {m:Str->Option Value},P.Nodup->P[i]? =some x->vs[i]? =some v->kindOf x≠some .local->
  bindC kindOf (P.zip vs) m x=some v
 | [],_,_,_,_,h,_,_=>by simp at h
 |_::_,[],_,_,_,_,h,_=>by simp at h
 |p::P,w::vs,0,m,nd,h1,h2,hk=>by
  simp at h1 h2;subst h1;subst h2;show bindC kindOf ((p,w)::P.zip vs) m p=_;unfold bindC;rw [zkp fun v hv=>(List.nodup_cons.mp nd).1 (List.of_mem_zip hv).1,if_neg hk];simp
 |p::P,w::vs,i+1,m,nd,h1,h2,hk=>by
  show bindC kindOf ((p,w)::P.zip vs) m x=_;unfold bindC;exact zkr (i:=i) (List.nodup_cons.mp nd).2 (by simpa using h1) (by simpa using h2) hk
noncomputable def zfV (N:List Str)(vs:List V):St:=vs.map some++List.replicate (N.length - vs.length) none
noncomputable def zpp (CX:CXT)(P:Program)(w:World)(K:PySem.W.Frag)(mg:Str->Option Value)(base:Heap)(N:List Str)(qual:Str)(scope:Scope)(f:Addr)(cd:Value)(A:Around)(outer:List Env)(s:Shared)(H:Hp)(E:XK):Cx where
 prog:=P
 w:=w
 K:=K
 mg:=mg
 base:=base
 A:=A.deeper (envOfC qual scope s.heap.objs.size f cd)
 N:=N
 s₀:=s
 H₀:=H
 env:=envOfC qual scope s.heap.objs.size f cd
 outer:=outer
 stack:=envOfC qual scope s.heap.objs.size f cd::outer
 ex:=[]
 calm:=true
 fn:=fun _=>true
 pn:=[]
 xe:=fun e s'=>wpAny (model P w) (A.deeper (envOfC qual scope s.heap.objs.size f cd)) (leaving (envOfC qual scope s.heap.objs.size f cd) e) (fun _ s''=>CX outer H s E e s'') (fun e' s''=>CX outer H s E e' s'') s'
theorem zmt {sc:Scope}{n:Nat}{x:Str}(h:sc.names.lookup x=some .cell):∃ c,(cellsFrom n sc.names []).lookup x=some c:=by
 have q:=PySem.W.cellsFrom_some sc.names n [] (.inl h);exact Option.isSome_iff_exists.mp q
theorem znQ {CX:CXT}{P:Program}{w:World}{K:PySem.W.Frag}{mg:Str->Option Value}{base:Heap}{N ps:List Str}{qual:Str}{scope:Scope}{f:Addr}{cd:Value}{A:Around}{outer:List Env}{s s1:Shared}{H:Hp}{E:XK}{us:List Value}{vs:List V}
  (S:FnScope N ps scope)(hd:A.handled=none)(e0:Env0 P w K mg base A outer s H)(hl:vs.length=ps.length)(r:Vals vs us)
  (x:InCallC s s.heap.objs.size (bindL (envOfC qual scope s.heap.objs.size f cd).kindOf (ps.zip us) fun _=>none) (cellsFrom (s.heap.objs.size+1) scope.names []) (bindC (envOfC qual scope s.heap.objs.size f cd).kindOf (ps.zip us) fun _=>none) s1):
  Inv (zpp CX P w K mg base N qual scope f cd A outer s H E) [] (zfV N vs) H s1:=by
 have hpl:ps.length<=N.length:=by have:=congrArg List.length S.pre;rw [List.length_take] at this;omega
 obtain ⟨h1,tk,rfl,hk⟩:=x.done;have noA:∀ b:Addr,b∉(zpp CX P w K mg base N qual scope f cd A outer s H E).ex:=fun b z=>absurd (show b∈([]:List Addr) from z) (by simp)
 refine ⟨⟨e0.mod,S.kind,rfl,rfl,Nat.le_refl _,fun y z c h1 h2=>?_,fun y hy=>?_,fun y c _ h=>?_,fun _=>hd,Around.frames_deeper e0.frames,.inr ⟨rfl,rfl⟩,fun b z=>absurd z (noA b),e0.bs,e0.bsz,fun b _ _=>noA b,fun b z=>absurd z (noA b),e0.funs,e0.frf⟩,
  rfl,e0.bare,Un.kept hk,⟨_,x.toInCall.ns,fun i y v h1 h2 h3=>?_⟩,fun y c h=>⟨_,x.cell y c h⟩,e0.hok.fresh (Nat.le_refl _),fun y c h=>?_,fun p hp=>absurd (show p∈([]:List (Addr×Obj)) from hp) (by simp),e0.hok.kept hk,?_⟩
 ·exact name_of_addr x.apart (PySem.mem_of_lookup h1) (PySem.mem_of_lookup h2)
 ·have hy:scope.names.lookup y=some .cell\/scope.names.lookup y=some .free:=hy;rcases hy with hy|hy
  ·exact zmt hy
  ·exact absurd rfl (S.nofree _ (PySem.mem_of_lookup hy))
 ·exact Nat.le_of_lt (x.above y c (PySem.mem_of_lookup h))
 ·have hi:i<vs.length:=by
   unfold zfV at h2;by_cases hi:i<vs.length
   ·exact hi
   ·rw [List.getElem?_append_right (by simpa using hi)] at h2;rw [List.getElem?_replicate] at h2;split at h2<;>cases h2
  have ha:vs[i]? =some v:=by
   unfold zfV at h2;rw [List.getElem?_append_left (by simpa using hi),List.getElem?_map] at h2;cases e:vs[i]? with
   |none=>rw [e] at h2;cases h2
   |some a=>rw [e] at h2;cases h2;rfl
  obtain ⟨u,hu,rv⟩:=r.get ha;have hp:ps[i]? =some y:=by
   rw [<-S.pre,List.getElem?_take_of_lt (by omega)];exact h1
  have ndP:ps.Nodup:=by rw [<-S.pre];exact S.nd.sublist (List.take_sublist _ _)
  refine ⟨u,rv,?_⟩;rcases S.par y (List.mem_of_getElem? hp) with k|k
  ·exact .inl ⟨k,zkq ndP hp hu k⟩
  ·obtain ⟨c,e⟩:=zmt (n:=s.heap.objs.size+1) k;refine .inr ⟨.inl k,c,e,?_⟩;have q:=x.cell y c e;rw [zkr ndP hp hu (by show scope.names.lookup y≠_;rw [k];decide)] at q;exact q
 ·exact e0.hok.fresh (Nat.le_of_lt (x.above y c (PySem.mem_of_lookup h)))
 ·unfold zfV;show _=N.length
  rw [List.length_append,List.length_map,List.length_replicate];omega
theorem zuc {CX:CXT}{P:Program}{w:World}{K:PySem.W.Frag}{mg:Str->Option Value}{base:Heap}{k:Nat}{f:Addr}{name qual:Str}{params:Arguments}{body:List Stmt}{scope:Scope}{dV kV doc pm cdv ct oc:Value}{an od:Option Addr}
  {osl:Array (Option Value)}{N ps:List Str}{sp:Sp}(lk:K.lookup f=some ⟨oc,od,.func (PySem.W.fnOf name qual params body scope dV kV doc pm an cdv ct),osl⟩)(hcd:PySem.W.codeIn K cdv qual=true)(S:FnScope N ps scope)
  (len:∀ vs H Q E,sp vs H Q E->vs.length=ps.length)
  (hbody:∀ (A:Around) (outer:List Env) (s:Shared) (H:Hp) (vs:List V) (Q:VK) (E:XK),Room k (A.deeper (envOfC qual scope s.heap.objs.size f cdv))->sp vs H Q E->
   ∃ t,PSs (zpp CX P w K mg base N qual scope f cdv A outer s H E) body t/\t {nx:=fun _ H'=>Q .non H',rt:=Q} (zfV N vs) H):
  FnOk P w K mg base CX (k+1) f (PySem.W.fnOf name qual params body scope dV kV doc pm an cdv ct) ps sp:=by
 refine ⟨len,fun A outer s H args us vs Q E hr e0 hb r hsp=>?_⟩;have hl:=len _ _ _ _ hsp;have KX:K.In s.heap:=e0.mod.kin.keeps fun b o e=>(e0.bs b o e).1;have lim:s.heap.NoLimit:=e0.mod.nolimit.keeps fun b o e=>(e0.bs b o e).1;have hkind:∀ y∈ps.zip us,scope.names.lookup y.1=some .local\/(scope.names.lookup y.1=some .cell/\((cellsFrom (s.heap.objs.size+1) scope.names []).lookup y.1).isSome=true):=fun ⟨n,v⟩ hy=>by
  rcases S.par n (List.of_mem_zip hy).1 with q|q
  ·exact .inl q
  ·exact .inr ⟨q,PySem.W.cellsFrom_some _ _ _ (.inl q)⟩
 refine codeAny_call_function hr.depth (KX _ _ lk) rfl S.co S.gen rfl (PySem.W.codeRec_of KX hcd) (hb _ _ _ _ ?_);refine wpAny_newFunctionEnv_cells S.kind hkind fun env he s1 x=>?_;subst he;refine ⟨lim.keeps x.toInCall.keep,codeAny_func ?_⟩;obtain ⟨t,ht,hq⟩:=hbody A outer s H vs Q E (hr.deeper _) hsp;have I:Inv (zpp CX P w K mg base N qual scope f cdv A outer s H E) [] (zfV N vs) H s1:=znQ S hr.hd e0 hl r x;refine wpAny_mono (ht [] s1 (zfV N vs) H _ I hq) (fun fl s' hs=>?_) fun e s' hs=>hs
 have fin:∀ {σ':St} {H':Hp} {v:V} {u:Value},Inv (zpp CX P w K mg base N qual scope f cdv A outer s H E) [] σ' H' s'->RelV v u->Q v H'->CE outer P w H s Q u s':=
  fun {σ' H' v u} J rv q=>⟨v,H',J.os,J.bare,J.base,J.hok,rv,q⟩
 cases fl with
 |ret u=>
  obtain ⟨v,σ',H',J,rv,q⟩:=hs;exact fin J rv q
 |next=>
  obtain ⟨σ',H',J,q⟩:=hs;exact fin (v:=V.non) (u:=Value.none) J rfl q
 |brk=>
  obtain ⟨_,_,_,q⟩:=hs;exact False.elim q
 |cont=>
  obtain ⟨_,_,_,q⟩:=hs;exact False.elim q
end L2
namespace L2
open PySem PySem.Spec PyProof.Rows
section
variable {X:Cx}{x:Str}{p pos:Pos}{e:Expr}{es:List Expr}{t:TA}{id T:String}{r:List V->Hp->VK->Prop}
noncomputable def tCB (r:List V->Hp->VK->Prop)(t:TA):TE:=fun σ H Q=>t σ H fun vs H1=>r vs H1 Q
theorem zmu (hc:CallR X (.builtin id) r)(hg:Gl X x)(hm:X.mg x=none)(hv:bootBuiltins x=some (.builtin id))(ha:PA X (e::es) t)(hn:x≠"__name__":=by decide)(hdb:(x==("__debug__":Str))=false:=by decide)
  (he:starEach (e::es) X.env=(false,eval e X.env)::starEach es X.env:=by rfl)(hpl:(backTo pos (starEach es X.env)).any (·.1)=false:=by rfl):PE X (.Call (.Name x p) (e::es) [] pos) (tCB r t):=by
 intro pins s σ H Q I h;refine wpAny_Call_Name_kw (ld_blt I hg hm hv ?_ hn hdb);exact PyProof.Rows.callWith_builtin1 (thn (ha pos pins s σ H _ I h) fun us s1 ⟨vs,H1,I1,r1,q1⟩=>hc pins s1 σ H1 vs us Q I1 r1 q1) he hpl
theorem zks (hc:CallR X (.type T) r)(hg:Gl X x)(hm:X.mg x=none)(hv:bootBuiltins x=some (.type T))(ha:PA X (e::es) t)(hn:x≠"__name__":=by decide)(hdb:(x==("__debug__":Str))=false:=by decide)
  (he:starEach (e::es) X.env=(false,eval e X.env)::starEach es X.env:=by rfl)(hpl:(backTo pos (starEach es X.env)).any (·.1)=false:=by rfl):PE X (.Call (.Name x p) (e::es) [] pos) (tCB r t):=by
 intro pins s σ H Q I h;refine wpAny_Call_Name_kw (ld_blt I hg hm hv ?_ hn hdb);exact PyProof.Rows.callWith_type1 (thn (ha pos pins s σ H _ I h) fun us s1 ⟨vs,H1,I1,r1,q1⟩=>hc pins s1 σ H1 vs us Q I1 r1 q1) he hpl
end
end L2
namespace HT
open PySem PyProof.Rows
section
open PySem.SeqAt
open PySem.AutoSeq1 (wpAny_loadPart')
open PySem.MeetsSeq PySem.MeetsSeq2 PySem.MeetsSeq3
end
section
variable {prog:Program}{w:World}{A:Around}{E:Value->Shared->Prop}{s:Shared}
noncomputable def sIx (n d:Nat):Option Int->Nat
 |none=>d
 |some v=>if v<0 then (v+(n:Int)).toNat else min v.toNat n
theorem sIx_none (n d:Nat):sIx n d none=d:=rfl
theorem sIx_nat (n d k:Nat):sIx n d (some (k:Int))=min k n:=by
 show (if (k:Int)<0 then ((k:Int)+(n:Int)).toNat else min (k:Int).toNat n)=min k n;rw [if_neg (by omega),Int.toNat_natCast]
end
end HT
namespace L2
open PySem PySem.Spec PyProof.Rows
noncomputable abbrev TO:=St->Hp->(Option Int->Hp->Prop)->Prop
noncomputable def PO (X:Cx)(e:Option Expr)(t:TO):Prop:=
 ∀ (pins:List (Addr×Obj)) (s:Shared) (σ:St) (H:Hp) (Q:Option Int->Hp->Prop),Inv X pins σ H s->t σ H Q->
  wpAny (model X.prog X.w) X.A (evalPart e X.env) (fun u s'=>∃ o H',Inv X pins σ H' s'/\IsPart u o/\Q o H') X.xe s
noncomputable def zq5:TO:=fun _ H Q=>Q none H
noncomputable def zud (t:TE):TO:=fun σ H Q=>t σ H fun x H1=>∃ i,x= .int i/\Q (some i) H1
theorem znb {ns:List Int}:∀ {us:List Value},Vals (ns.map V.int) us->IntsAre us ns:=by
 induction ns with
 |nil=>intro us r;rw [List.map_nil] at r;cases r;exact .nil
 |cons n ns ih=>
  intro us r;rw [List.map_cons] at r;cases r with
  |cons r1 r2=>
   obtain ⟨t,e⟩:=r1;subst e;exact .cons n t (ih r2)
section
variable {X:Cx}{e:Expr}{te:TE}{lo hi:Option Expr}{tl th:TO}{pos p2:Pos}
theorem zq6:PO X none zq5:=by
 intro pins s σ H Q I h;rw [evalPart_none];exact wpAny_pure ⟨none,H,I,.none,h⟩
theorem zq7 (h:PE X e te):PO X (some e) (zud te):=by
 intro pins s σ H Q I hw;rw [evalPart_some];refine thn (h pins s σ H _ I hw) fun u s1 zz=>?_;obtain ⟨x,H1,I1,r1,q1⟩:=zz;obtain ⟨i,rfl,q⟩:=q1;obtain ⟨t,rfl⟩:=r1;exact ⟨some i,H1,I1,.int i t,q⟩
noncomputable def SlR (X:Cx)(r:V->Option Int->Option Int->Hp->VK->Prop):Prop:=
 ∀ (pins:List (Addr×Obj)) (s:Shared) (σ:St) (H:Hp) (x:V) (v vl vu:Value) (lo hi:Option Int) (sl:Addr) (Q:VK),Inv X pins σ H s->RelV x v->s.heap.IsSliceOf sl vl vu .none->IsPart vl lo->IsPart vu hi->r x lo hi H Q->
  ∃ T id,typeLookup (.type T) "__getitem__"=pure (some (.builtin id))/\s.TypeIs v T/\wpAny (model X.prog X.w) X.A (getItem v (.ref sl)) (EP X pins σ Q) X.xe s
theorem SlR.or {r r':V->Option Int->Option Int->Hp->VK->Prop}(h:SlR X r)(h':SlR X r'):SlR X (fun x lo hi H Q=>r x lo hi H Q\/r' x lo hi H Q):=by
 intro pins s σ H x v vl vu lo hi sl Q I rx hs pl pu q;rcases q with q|q
 ·exact h pins s σ H x v vl vu lo hi sl Q I rx hs pl pu q
 ·exact h' pins s σ H x v vl vu lo hi sl Q I rx hs pl pu q
noncomputable def tSl (r:V->Option Int->Option Int->Hp->VK->Prop)(te:TE)(tl th:TO):TE:=fun σ H Q=>te σ H fun x H1=>tl σ H1 fun l H2=>th σ H2 fun u H3=>r x l u H3 Q
theorem zpq {r:V->Option Int->Option Int->Hp->VK->Prop}(hr:SlR X r)(he:PE X e te)(hl:PO X lo tl)(hu:PO X hi th):PE X (.Subscript e (.Slice lo hi none p2) pos) (tSl r te tl th):=by
 intro pins s σ H Q I h;refine Subscript_ (thn (he pins s σ H _ I h) fun v s1 zz=>?_);obtain ⟨x,H1,I1,r1,q1⟩:=zz;refine wpAny_Slice (thn (hl pins s1 σ H1 _ I1 q1) fun vl s2 ⟨l,H2,I2,pl,q2⟩=>thn (hu pins s2 σ H2 _ I2 q2) fun vu s3 zz=>?_);obtain ⟨u,H3,I3,pu,q3⟩:=zz;rw [evalPart_none];refine wpAny_pure ?_;have I4:Inv X pins σ H3 {s3 with heap:=s3.heap.push {cls:=.type "slice",data:=.fields #[vl,vu,.none]}}:=I3.kept (t':=s3.toks) fun b ob q=>Heap.get?_push_of_some _ q;obtain ⟨T,id,hT,ht,hg⟩:=hr pins {s3 with heap:=s3.heap.push {cls:=.type "slice",data:=.fields #[vl,vu,.none]}} σ H3 x v vl vu l u s3.heap.objs.size Q I4 r1 (Heap.IsSliceOf.new ..) pl pu q3;show wpAny (model X.prog X.w) X.A (subscriptTail e (.Slice lo hi none p2) v (.ref s3.heap.objs.size)) (EP X pins σ Q) X.xe {s3 with heap:=s3.heap.push {cls:=.type "slice",data:=.fields #[vl,vu,.none]}};exact tail_any (ops:=[.ref s3.heap.objs.size,v]) ht hT hg (by with_unfolding_all rfl)
noncomputable def zsP (xs:List V)(lo hi:Option Int):List V:=(xs.drop (HT.sIx xs.length 0 lo)).take (HT.sIx xs.length xs.length hi - HT.sIx xs.length 0 lo)
theorem zlI (xs:List V)(lo hi:Option Int):(zsP xs lo hi).length<=xs.length:=by
 unfold zsP;rw [List.length_take,List.length_drop];omega
end
end L2
namespace L2
open PySem PySem.Spec PyProof.Rows
noncomputable def ixN (n:Nat)(i:Int):Option Nat:=if 0<=i then (if i<n then some i.toNat else none) else if -(n:Int)<=i then some (i+n).toNat else none
noncomputable def atI {α:Type}(xs:List α)(i:Int):Option α:=(ixN xs.length i).bind fun j=>xs[j]?
theorem zlJ {n:Nat}{i:Int}{j:Nat}(h:ixN n i=some j):seqIndex? i n=some j/\j<n/\ -(n:Int)<=i/\i<n:=by
 unfold ixN at h;by_cases h0:0<=i
 ·rw [if_pos h0] at h;by_cases h1:i<n
  ·rw [if_pos h1] at h;have e:i.toNat=j:=Option.some.inj h;exact ⟨by rw [seqIndex_of h0 h1,e],by omega,by omega,h1⟩
  ·rw [if_neg h1] at h;cases h
 ·rw [if_neg h0] at h;by_cases h1: -(n:Int)<=i
  ·rw [if_pos h1] at h;have e:(i+n).toNat=j:=Option.some.inj h;exact ⟨by rw [seqIndex_neg (by omega) h1,e],by omega,h1,by omega⟩
  ·rw [if_neg h1] at h;cases h
theorem znR {α:Type}{xs:List α}{i:Int}{v:α}(h:atI xs i=some v):∃ j,seqIndex? i xs.length=some j/\xs[j]? =some v/\j<xs.length/\ -(xs.length:Int)<=i/\i<xs.length:=by
 unfold atI at h;cases e:ixN xs.length i with
 |none=>rw [e] at h;cases h
 |some j=>
  rw [e] at h;obtain ⟨h1,h2,h3,h4⟩:=zlJ e;exact ⟨j,h1,h,h2,h3,h4⟩
theorem zaW {α:Type}{xs:List α}{j:Nat}{v:α}(h:xs[j]? =some v):atI xs (j:Int)=some v:=by
 have hj:j<xs.length:=(List.getElem?_eq_some_iff.mp h).1;have e:ixN xs.length (j:Int)=some j:=by
  unfold ixN;rw [if_pos (by omega),if_pos (by omega)];simp
 unfold atI;rw [e];exact h
noncomputable def zgO (b:Expr):Prop:=∀ o i,subscripted b false o i=operate [o,i] (getItem o i)
noncomputable def IxR (X:Cx)(r:R2):Prop:=
 ∀ (value slice:Expr) (pins:List (Addr×Obj)) (s:Shared) (σ:St) (H:Hp) (x y:V) (v u:Value) (Q:VK),Inv X pins σ H s->RelV x v->RelV y u->r x y H Q->
  subscripted slice false v u=operate [v,u] (getItem v u)->wpAny (model X.prog X.w) X.A (subscriptTail value slice v u) (EP X pins σ Q) X.xe s
noncomputable def MtR (X:Cx)(id:String)(r:V->List V->Hp->VK->Prop):Prop:=
 ∀ (pins:List (Addr×Obj)) (s:Shared) (σ:St) (H:Hp) (x:V) (xs:List V) (v:Value) (us:List Value) (Q:VK),Inv X pins σ H s->RelV x v->Vals xs us->r x xs H Q->
  wpAny (model X.prog X.w) X.A (call (.builtin id) (v::us)) (EP X pins σ Q) X.xe s
section
variable {X:Cx}{a b:Expr}{ta tb:TE}{pos:Pos}
theorem IxR.or {r r':R2}(h:IxR X r)(h':IxR X r'):IxR X (fun x y H Q=>r x y H Q\/r' x y H Q):=by
 intro value slice pins s σ H x y v u Q I rx ry q hs;rcases q with q|q
 ·exact h value slice pins s σ H x y v u Q I rx ry q hs
 ·exact h' value slice pins s σ H x y v u Q I rx ry q hs
theorem MtR.or {id:String}{r r':V->List V->Hp->VK->Prop}(h:MtR X id r)(h':MtR X id r'):MtR X id (fun x xs H Q=>r x xs H Q\/r' x xs H Q):=by
 intro pins s σ H x xs v us Q I rx rs q;rcases q with q|q
 ·exact h pins s σ H x xs v us Q I rx rs q
 ·exact h' pins s σ H x xs v us Q I rx rs q
theorem znS {r:R2}(hr:IxR X r)(ha:PE X a ta)(hb:PE X b tb)(hs:zgO b):PE X (.Subscript a b pos) (tOp r ta tb):=by
 intro pins s σ H Q I h;exact Subscript_ (binT ha hb I h fun v u s2 x y H2 I2 rx ry q=>hr a b pins s2 σ H2 x y v u Q I2 rx ry q (hs _ _))
noncomputable def zuB (K:PySem.W.Frag):R2:=fun x y H Q=>∃ p xs i v,x= .ref p/\y= .int i/\SqL K H p xs/\atI xs i=some v/\Q v H
noncomputable def zuC (K:PySem.W.Frag):R2:=fun x y H Q=>∃ p xs i v,x= .ref p/\y= .int i/\SqT K H p xs/\atI xs i=some v/\Q v H
theorem ix_list:IxR X (zuB X.K):=by
 intro value slice pins s σ H x y v u Q I rx ry h hs;obtain ⟨p,xs,i,z,rfl,rfl,hq,he,q⟩:=h;cases rx;obtain ⟨t,rfl⟩:=ry;obtain ⟨its,r,pl,hz⟩:=I.list hq;obtain ⟨j,h1,h2,h3,h4,h5⟩:=znR he;obtain ⟨w,ew,rw'⟩:=r.get h2;have hl:=r.length;have hn:=zms;have fin:EP X pins σ Q w s:=⟨z,H,I,rw',q⟩;by_cases h0:0<=i
 ·have hj:i.toNat=j:=by
   rw [seqIndex_of h0 h5] at h1;exact Option.some.inj h1
  exact item_listR pl.isList h0 (by omega) (by rw [hj];simpa using ew) fin hs
 ·have hj:(i+(its.toArray.size:Int)).toNat=j:=by
   rw [seqIndex_neg (by omega) h4] at h1;rw [List.size_toArray,<-hl];exact Option.some.inj h1
  exact subscriptTail_builtinR (x:=w) pl.isList.typeIs slot_list_getitem.lookup
   (wpAny_getItem_list_neg (Q:=fun r s'=>r=w/\EP X pins σ Q r s') pl.isList (by omega) (by rw [List.size_toArray]<;>omega) (by omega) (by rw [hj];simpa using ew) ⟨rfl,fin⟩) hs
theorem zsQ:IxR X (zuC X.K):=by
 intro value slice pins s σ H x y v u Q I rx ry h hs;obtain ⟨p,xs,i,z,rfl,rfl,hq,he,q⟩:=h;cases rx;obtain ⟨t,rfl⟩:=ry;obtain ⟨its,r,pl,hz⟩:=I.tuple hq;obtain ⟨j,h1,h2,h3,h4,h5⟩:=znR he;obtain ⟨w,ew,rw'⟩:=r.get h2;have hl:=r.length;have hn:=zms;have fin:EP X pins σ Q w s:=⟨z,H,I,rw',q⟩
 exact subscriptTail_builtinR (x:=w) pl.typeIs slot_tuple_getitem.lookup
  (getItem_tuple (j:=j) (Q:=fun r s'=>r=w/\EP X pins σ Q r s') pl (by omega) (by omega) (by rw [List.size_toArray,<-hl];exact h1) (by simpa using ew) ⟨rfl,fin⟩) hs
theorem znc (its:List Value)(n j:Nat)(u:Value):Obj.mapSeq (·.setIfInBounds j u) {cls:=.type "list",data:=.seq its.toArray n}= {cls:=.type "list",data:=.seq (its.set j u).toArray n}:=by
 simp [Obj.mapSeq]
theorem Inv.lst {pins:List (Addr×Obj)}{σ:St}{H:Hp}{s:Shared}{p:Addr}{xs:List V}(I:Inv X pins σ H s)(h:H p=some (.lst xs)):
  ∃ (its:List Value) (n:Nat),Vals xs its/\s.heap.get? p=some {cls:=.type "list",data:=.seq its.toArray n}/\xs.length<=sizeLine:=by
 obtain ⟨z,its,n,r,e⟩:=I.hok p _ h;exact ⟨its,n,r,e,z⟩
theorem Inv.lstUpd {pins:List (Addr×Obj)}{σ:St}{H:Hp}{s:Shared}{p:Addr}{xs ys:List V}{its its':List Value}{n n':Nat}{f:Obj->Obj}(I:Inv X pins σ H s)(h:H p=some (.lst xs))
  (ho:s.heap.get? p=some {cls:=.type "list",data:=.seq its.toArray n})(hf:f {cls:=.type "list",data:=.seq its.toArray n}= {cls:=.type "list",data:=.seq its'.toArray n'})(r:Vals ys its')(hz:ys.length<=sizeLine)(t:Nat):
  Inv X pins σ (upd H p (.lst ys)) {s with heap:=s.heap.update p f,toks:=t}:=by
 have e:(s.heap.update p f).get? p=some {cls:=.type "list",data:=.seq its'.toArray n'}:=by
  rw [Heap.get?_update_self f ho (by rw [hf]<;>rfl),hf]
 refine I.write (x:=p) (e:=p) (by rw [h];trivial) (.inl rfl) (fun b u hb q=>(Heap.get?_update_other _ _ (Ne.symm hb)).trans q) ⟨_,e⟩ ?_;exact ⟨hz,its',n',r,e⟩
noncomputable def zue:V->V->V->Hp->(Hp->Prop)->Prop:=fun o i v H Q=>∃ p xs k j,o= .ref p/\i= .int k/\H p=some (.lst xs)/\ixN xs.length k=some j/\Q (upd H p (.lst (xs.set j v)))
theorem zmv:zuA X zue:=by
 intro pins s σ H o i v ov iv u Q I ro ri rv h;obtain ⟨p,xs,k,j,rfl,rfl,hp,hj,q⟩:=h;cases ro;obtain ⟨t,rfl⟩:=ri;obtain ⟨its,n,r,ho,hz⟩:=I.lst hp;obtain ⟨h1,h2,h3,h4⟩:=zlJ hj;have hl:=r.length;have hn:=zms
 have I':Inv X pins σ (upd H p (.lst (xs.set j v))) {s with heap:=s.heap.update p (Obj.mapSeq (·.setIfInBounds j u))}:=
  I.lstUpd hp ho (znc its n j u) (r.set rv j) (by rw [List.length_set];exact hz) s.toks
 by_cases h0:0<=k
 ·have hk:k.toNat=j:=by
   rw [seqIndex_of h0 h4] at h1;exact Option.some.inj h1
  exact PySem.W.ki_setAt ho h0 (by omega) (by rw [List.size_toArray,<-hl];exact h4) (by rw [hk];exact ⟨_,I',q⟩)
 ·have hk:(k+(its.toArray.size:Int)).toNat=j:=by
   rw [seqIndex_neg (by omega) h3] at h1;rw [List.size_toArray,<-hl];exact Option.some.inj h1
  exact PySem.W.ki_setBack ho (by omega) (by rw [List.size_toArray,<-hl];exact h3) (by omega) (by rw [hk];exact ⟨_,I',q⟩)
theorem zkt (lo hi:Option Int)(n:Nat):(sliceBounds lo hi none n).1=((HT.sIx n 0 lo:Nat):Int)/\(sliceBounds lo hi none n).2.1=((HT.sIx n n hi:Nat):Int)/\(sliceBounds lo hi none n).2.2=1:=by
 refine ⟨?_,?_,rfl⟩
 ·cases lo with
  |none=>simp [sliceBounds,HT.sIx]
  |some i=>
   simp only [sliceBounds,HT.sIx,Option.getD_none,show (1:Int)>0 by decide,if_true];by_cases h:i<0
   ·simp only [h,if_true]<;>omega
   ·simp only [h,if_false]<;>omega
 ·cases hi with
  |none=>simp [sliceBounds,HT.sIx]
  |some i=>
   simp only [sliceBounds,HT.sIx,Option.getD_none,show (1:Int)>0 by decide,if_true];by_cases h:i<0
   ·simp only [h,if_true]<;>omega
   ·simp only [h,if_false]<;>omega
theorem zjt (its:List Value)(lo hi:Option Int):slicePick its.toArray lo hi none=((its.drop (HT.sIx its.length 0 lo)).take (HT.sIx its.length its.length hi - HT.sIx its.length 0 lo)).toArray:=by
 obtain ⟨h1,h2,h3⟩:=zkt lo hi its.toArray.size;unfold slicePick;rw [h1,h2,h3];simp only [sliceRange_one,pick_run,List.size_toArray]<;>rfl
noncomputable def zu3 (K:PySem.W.Frag):V->Option Int->Option Int->Hp->VK->Prop:=fun x lo hi H Q=>∃ a xs,x= .ref a/\SqL K H a xs/\∀ p,H p=none->Q (.ref p) (upd H p (.lst (zsP xs lo hi)))
theorem zq8:SlR X (zu3 X.K):=by
 intro pins s σ H x v vl vu lo hi sl Q I rx hs pl pu h;obtain ⟨a,xs,rfl,hx,q⟩:=h;cases rx;obtain ⟨its,r,ht,hz⟩:=I.list hx;have hlen:=r.length;refine ⟨"list",_,slot_list_getitem.lookup,ht.isList.typeIs,?_⟩;refine wpAny_getItem_list_slice ht.isList hs pl pu .none (by simp) ?_ (by rw [List.size_toArray]<;>omega);rw [zjt,<-hlen];refine ⟨.ref s.heap.objs.size,_,I.laid (t':=s.toks) (o:=.lst (zsP xs lo hi)) (fun b ob q=>Heap.get?_push_of_some _ q) (Nat.le_refl _) ?_,rfl,q _ (I.hok.fresh (Nat.le_refl _))⟩;exact ⟨Nat.le_trans (zlI xs lo hi) hz,_,0,(r.drop (HT.sIx xs.length 0 lo)).take (HT.sIx xs.length xs.length hi - HT.sIx xs.length 0 lo),Heap.get?_push_size _ rfl⟩
theorem zku:CallR X (.builtin "len") (fun xs H Q=>∃ p ys,xs=[.ref p]/\(SqL X.K H p ys\/SqT X.K H p ys)/\Q (.int ys.length) H):=by
 intro pins s σ H xs us Q I r h;obtain ⟨p,ys,rfl,hq,q⟩:=h;obtain ⟨u,rfl,rx⟩:=zpo r;cases rx;have hn:=zms;rcases hq with hq|hq
 ·obtain ⟨its,r',pl,hz⟩:=I.list hq;have hlen:=r'.length;exact Calls.call_len_list pl.isList (by simp only [List.size_toArray]<;>omega) ⟨.int ys.length,H,I.tok _,⟨s.toks+1,by rw [List.size_toArray,hlen]⟩,q⟩
 ·obtain ⟨its,r',pl,hz⟩:=I.tuple hq;have hlen:=r'.length;exact len_tuple pl (by simp only [List.size_toArray]<;>omega) ⟨.int ys.length,H,I.tok _,⟨s.toks+1,by rw [List.size_toArray,hlen]⟩,q⟩
theorem CallR.or {f:Value}{r r':List V->Hp->VK->Prop}(h:CallR X f r)(h':CallR X f r'):CallR X f (fun xs H Q=>r xs H Q\/r' xs H Q):=by
 intro pins s σ H xs us Q I rs q;rcases q with q|q
 ·exact h pins s σ H xs us Q I rs q
 ·exact h' pins s σ H xs us Q I rs q
theorem zkv:CallR X (.type "list") (fun xs H Q=>∃ p ys,xs=[.ref p]/\(SqL X.K H p ys\/SqT X.K H p ys)/\∀ l,H l=none->Q (.ref l) (upd H l (.lst ys))):=by
 intro pins s σ H xs us Q I r h;obtain ⟨p,ys,rfl,hq,q⟩:=h;obtain ⟨u,rfl,rx⟩:=zpo r;cases rx
 have fin:∀ (its:List Value),Vals ys its->ys.length<=sizeLine->∀ (h':Heap) (c':Nat),(∀ b o',s.heap.get? b=some o'->h'.get? b=some o')->
   h'.get? s.heap.objs.size=some {cls:=.type "list",dict:=none,data:=.seq its.toArray c',slots:= #[]}->EP X pins σ Q (.ref s.heap.objs.size) {s with heap:=h'}:=fun its r' hz h' c' kp e=>
  ⟨.ref s.heap.objs.size,_,I.laid (t':=s.toks) kp (Nat.le_refl _) (show ObjOk X.prog X.w _ h' _ (.lst ys) from ⟨hz,its,c',r',e⟩),rfl,q _ (I.hok.fresh (Nat.le_refl _))⟩
 rcases hq with hq|hq
 ·obtain ⟨its,r',pl,hz⟩:=I.list hq;have hlen:=r'.length;obtain ⟨o,ho,hc,n,hd⟩:=pl.isList;exact call_list_seq p (.inl rfl) ho hc hd (fun h' c' kp e=>fin its r' hz h' c' kp e) (by simp only [List.size_toArray]<;>omega)
 ·obtain ⟨its,r',pl,hz⟩:=I.tuple hq;have hlen:=r'.length;obtain ⟨o,ho,hc,n,hd⟩:=pl;exact call_list_seq p (.inr rfl) ho hc hd (fun h' c' kp e=>fin its r' hz h' c' kp e) (by simp only [List.size_toArray]<;>omega)
noncomputable def tyV (K:PySem.W.Frag)(T:String)(x:V)(H:Hp):Prop:=match x with
 | .str _=>T="str"
 | .int _=>T="int"
 | .ref p=>(T="list"/\∃ xs,SqL K H p xs)\/(T="tuple"/\∃ o,K.lookup p=some o/\o.cls= .type "tuple"/\o.dict=none)\/
   (T="dict"/\((∃ kvs,H p=some (.dK kvs))\/∃ kvs,H p=some (.dT kvs)))\/(T="set"/\∃ S n,H p=some (.set S n))
 |_=>False
theorem zsR {pins:List (Addr×Obj)}{σ:St}{H:Hp}{s:Shared}{T:String}{x:V}{v:Value}(I:Inv X pins σ H s)(r:RelV x v)(ty:tyV X.K T x H):
  s.TypeIs v T/\∀ a,v= .ref a->∃ ob,s.heap.get? a=some ob/\ob.dict=none:=by
 cases x with
 |str z=>
  obtain ⟨t,rfl⟩:=r;cases (show T="str" from ty);exact ⟨typeIs_str s z t,fun _ e=>nomatch e⟩
 |int i=>
  obtain ⟨t,rfl⟩:=r;cases (show T="int" from ty);exact ⟨typeIs_int s i t,fun _ e=>nomatch e⟩
 |ref p=>
  cases r;rcases ty with ⟨rfl,xs,hq⟩|⟨rfl,o,hk,hc,hd⟩|⟨rfl,hk⟩|⟨rfl,S,n,hk⟩
  ·obtain ⟨its,_,pl,_⟩:=I.list hq;refine ⟨pl.isList.typeIs,fun a e=>?_⟩;cases e;obtain ⟨o,n,e,c,hd,_⟩:=pl;exact ⟨o,e,hd⟩
  ·refine ⟨⟨o,I.kIn p o hk,hc⟩,fun a e=>?_⟩;cases e;exact ⟨o,I.kIn _ o hk,hd⟩
  ·have z:∃ o,s.heap.get? p=some o/\o.ExactDict:=by
    rcases hk with ⟨kvs,hk⟩|⟨kvs,hk⟩
    ·obtain ⟨_,_,_,_,o,_,_,e,ex,_⟩:=I.hok p _ hk;exact ⟨o,e,ex⟩
    ·obtain ⟨_,_,_,_,o,_,_,e,ex,_⟩:=I.hok p _ hk;exact ⟨o,e,ex⟩
   obtain ⟨o,e,ex⟩:=z;refine ⟨⟨o,e,ex.1⟩,fun a e2=>?_⟩;cases e2;exact ⟨o,e,ex.2.1⟩
  ·obtain ⟨o,_,_,_,e,ex,_⟩:=I.hok p _ hk;refine ⟨⟨o,e,ex.1⟩,fun a e2=>?_⟩;cases e2;exact ⟨o,e,ex.2.1⟩
 |_=>exact False.elim ty
noncomputable def tBM (K:PySem.W.Frag)(T:String)(r:V->List V->Hp->VK->Prop)(to:TE)(t:TA):TE:=fun σ H Q=>to σ H fun x H1=>tyV K T x H1/\t σ H1 fun xs H2=>r x xs H2 Q
variable {o e:Expr}{es:List Expr}{to:TE}{t:TA}{name:Str}{apos cpos:Pos}{T id:String}{r:V->List V->Hp->VK->Prop}
theorem znT (pa:PlainAttrs T)(slot:Slot T name id)(hty:typeOf (.builtin id)=pure (.type "method_descriptor"))(hm:MtR X id r)(ho:PE X o to)(ha:PA X (e::es) t)
  (hbase:attributeBase o name X.env (eval o X.env)=eval o X.env:=by rfl)
  (hfew:((backTo cpos (starEach (e::es) X.env)).all (fun x=> !x.1)&&(backToKw cpos (keywordEach [] X.env)).all (fun x=>x.1.isSome)
   &&decide ((e::es).length+([]:List Keyword).length+(if ([]:List Keyword).isEmpty then 0 else 1)<30))=true:=by rfl)
  (hline:(apos.endLine==cpos.line)=true:=by rfl)(hs:starEach (e::es) X.env=(false,eval e X.env)::starEach es X.env:=by rfl)(hplain:(backTo cpos (starEach es X.env)).any (·.1)=false:=by rfl):
  PE X (.Call (.Attribute o name apos) (e::es) [] cpos) (tBM X.K T r to t):=by
 intro pins s σ H Q I h;refine wpAny_Call_method_late hbase hfew hline rfl (thn (ho pins s σ H _ I h) fun v s1 zz=>?_);obtain ⟨x,H1,I1,r1,ty,q1⟩:=zz;obtain ⟨h1,h2⟩:=zsR I1 r1 ty;refine ⟨T,id,pa,slot,hty,h1,h2,?_⟩;have hA:=ha cpos pins s1 σ H1 _ I1 q1;rw [hs] at hA ⊢;refine Calls.callWith_builtin (by show (false||(backTo cpos (starEach es X.env)).any (·.1))=false;rw [hplain]<;>rfl) (Calls.evalArgs_plain ?_);exact thn hA fun us s2 ⟨vs,H2,I2,r2,q2⟩=>hm pins s2 σ H2 x vs v us Q I2 r1 r2 q2
end
end L2
namespace L2
open PySem PySem.Spec PyProof.Rows
noncomputable def MtM (X:Cx)(id:String)(r:V->List V->Hp->VK->Prop):Prop:=
 ∀ (pins:List (Addr×Obj)) (s:Shared) (σ:St) (H:Hp) (x:V) (xs:List V) (v:Value) (us:List Value) (Q:VK),Inv X pins σ H s->RelV x v->Vals xs us->r x xs H Q->
  wpAny (model X.prog X.w) X.A (call (.builtin id) (v::us)) (EP X pins σ Q) X.xe s
theorem Vals.one:∀ {x:V} {us:List Value},Vals [x] us->∃ u,us=[u]/\RelV x u
 :=by
 intro x us h;cases h with
 |cons r t=>
  cases t;exact ⟨_,rfl,r⟩
theorem Vals.two:∀ {x y:V} {us:List Value},Vals [x,y] us->∃ u v,us=[u,v]/\RelV x u/\RelV y v
 :=by
 intro x y us h;cases h with
 |cons r t=>
  cases t with
  |cons q t=>
   cases t;exact ⟨_,_,rfl,r,q⟩
theorem Vals.zero:∀ {us:List Value},Vals [] us->us=[]
 |_,.nil=>rfl
theorem Vals.eraseIdx:∀ {xs:List V} {us:List Value} (i:Nat),Vals xs us->Vals (xs.eraseIdx i) (us.eraseIdx i)
 |_,_,_,.nil=>.nil
 |_,_,0,.cons _ t=>t
 |_,_,i+1,.cons r t=>.cons r (Vals.eraseIdx i t)
theorem Vals.reverse {xs:List V}{us:List Value}(h:Vals xs us):Vals xs.reverse us.reverse:=by
 induction h with
 |nil=>exact .nil
 |cons r t ih=>rw [List.reverse_cons,List.reverse_cons];exact Vals.append ih (.cons r .nil)
theorem Vals.rep {xs:List V}{us:List Value}(h:Vals xs us):∀ k:Nat,Vals (List.replicate k xs).flatten (List.replicate k us).flatten
 |0=>.nil
 |k+1=>by
  rw [List.replicate_succ,List.replicate_succ,List.flatten_cons,List.flatten_cons];exact Vals.append h (Vals.rep h k)
theorem zkw {α:Type}:∀ (l:List α) (i:Nat),(l.eraseIdx i).length<=l.length
 | [],_=>Nat.le_refl _
 |_::_,0=>Nat.le_succ _
 |_::r,i+1=>Nat.succ_le_succ (zkw r i)
theorem zkx (its:List Value):∀ (k:Nat) (acc:List Value),
  List.foldl (fun x1 x2=>x1++x2) acc.toArray (List.replicate k its.toArray)=(acc++(List.replicate k its).flatten).toArray
 |0,acc=>by simp
 |k+1,acc=>by
  have e:acc.toArray++its.toArray=(acc++its).toArray:=by simp
  have e2:(acc++its)++(List.replicate k its).flatten=acc++(List.replicate (k+1) its).flatten:=by
   rw [List.replicate_succ,List.flatten_cons,List.append_assoc]
  rw [<-e2,<-zkx its k (acc++its),<-e,List.replicate_succ,List.foldl_cons]
section
variable {X:Cx}{pins:List (Addr×Obj)}{σ:St}{H:Hp}{s:Shared}{l b:Addr}{xs ys zs:List V}
theorem Inv.lset {its its':List Value}{n:Nat}{f:Array Value->Array Value}{t':Nat}(I:Inv X pins σ H s)(hH:H l=some (.lst xs))
  (e:s.heap.get? l=some {cls:=.type "list",data:=.seq its.toArray n})(hf:f its.toArray=its'.toArray)(hv:Vals ys its')(hz:ys.length<=sizeLine):
  Inv X pins σ (upd H l (.lst ys)) {s with heap:=s.heap.update l (Obj.mapSeq f),toks:=t'}:=by
 have q:=PySem.IsL.update e f;rw [hf] at q;refine I.write (x:=l) (e:=l) (by rw [hH];exact trivial) (.inl rfl) (fun b' u hb hu=>(Heap.get?_update_other s.heap (Obj.mapSeq f) (Ne.symm hb)).trans hu) ⟨_,q⟩ ?_;exact ⟨hz,its',_,hv,q⟩
theorem Inv.lnew {its:List Value}{t':Nat}(I:Inv X pins σ H s)(hv:Vals ys its)(hz:ys.length<=sizeLine):
  Inv X pins σ (upd H s.heap.objs.size (.lst ys)) {s with heap:=s.heap.push {cls:=.type "list",data:=.seq its.toArray},toks:=t'}:=
 I.laid (fun _ _ q=>Heap.get?_push_of_some _ q) (Nat.le_refl _) ⟨hz,its,0,hv,Heap.get?_push_size _ rfl⟩
theorem Inv.fresh (I:Inv X pins σ H s):H s.heap.objs.size=none:=I.hok.fresh (Nat.le_refl _)
theorem Inv.lstM (I:Inv X pins σ H s)(hH:H l=some (.lst xs)):xs.length<=sizeLine/\∃ (its:List Value) (n:Nat),Vals xs its/\xs.length=its.length/\s.heap.get? l=some {cls:=.type "list",data:=.seq its.toArray n}:=by
 obtain ⟨z,its,n,r,e⟩:=I.hok l _ hH;exact ⟨z,its,n,r,r.length,e⟩
theorem zmw {n:Nat}(h:n<=sizeLine):Builtin.List.listTooLong n=false:=by
 unfold Builtin.List.listTooLong;exact decide_eq_false (by omega)
end
section
variable {X:Cx}
noncomputable def zq9:V->List V->Hp->VK->Prop:=fun x vs H Q=>∃ l xs y,x= .ref l/\vs=[y]/\H l=some (.lst xs)/\xs.length<sizeLine/\Q .non (upd H l (.lst (xs++[y])))
theorem zky:MtM X "list.append" zq9:=by
 intro pins s σ H x vs v us Q I rx rv h;obtain ⟨l,xs,y,rfl,rfl,hH,hz,q⟩:=h;cases rx;obtain ⟨u,rfl,ru⟩:=rv.one;obtain ⟨z,its,n,r,hl,e⟩:=I.lstM hH;refine call_meets F.slot_list_append ⟨_,e,rfl⟩ F.entry_list_append (F.args_list_append_2 _ _) (PySem.list_append l its.toArray n u (by rw [List.size_toArray];omega)) ⟨e,?_⟩;refine ⟨.non,_,I.lset (its':=its++[u]) hH e (by simp) (r.append (.cons ru .nil)) ?_,rfl,q⟩;rw [List.length_append,List.length_singleton];omega
noncomputable def zra:V->List V->Hp->VK->Prop:=fun x vs H Q=>∃ l b xs zs,x= .ref l/\vs=[.ref b]/\H l=some (.lst xs)/\H b=some (.lst zs)/\xs.length+zs.length<=sizeLine/\Q .non (upd H l (.lst (xs++zs)))
theorem znU:MtM X "list.extend" zra:=by
 intro pins s σ H x vs v us Q I rx rv h;obtain ⟨l,b,xs,zs,rfl,rfl,hH,hB,hz,q⟩:=h;cases rx;obtain ⟨u,rfl,ru⟩:=rv.one;cases ru;obtain ⟨z,its,n,r,hl,e⟩:=I.lstM hH;obtain ⟨z2,its2,n2,r2,hl2,e2⟩:=I.lstM hB;have hsz:its.toArray.size+its2.toArray.size<=sizeLine:=by rw [List.size_toArray,List.size_toArray];omega
 have hlong:¬ (!its.toArray.isEmpty&&Builtin.List.listTooLong (its.toArray.size+its2.toArray.size))=true:=by
  rw [zmw hsz,Bool.and_false];exact Bool.false_ne_true
 refine call_meets F.slot_list_extend ⟨_,e,rfl⟩ F.entry_list_extend (F.args_list_extend_2 _ _)
  (AutoSeq1.list_extend_list_list_0 l its.toArray n b its2.toArray n2 hlong (by rw [List.size_toArray];omega) (by omega)) ⟨e,e2,?_⟩
 refine ⟨.non,_,I.lset (its':=its++its2) hH e (by simp) (r.append r2) ?_,rfl,q⟩;rw [List.length_append];omega
noncomputable def zsS:V->List V->Hp->VK->Prop:=fun x vs H Q=>∃ l xs i k y,x= .ref l/\vs=[.int i]/\H l=some (.lst xs)/\ -(2 ^ 63)<=i/\i<2 ^ 63/\seqIndex? i xs.length=some k/\xs[k]? =some y/\Q y (upd H l (.lst (xs.eraseIdx k)))
theorem zpr:MtM X "list.pop" zsS:=by
 intro pins s σ H x vs v us Q I rx rv h;obtain ⟨l,xs,i,k,y,rfl,rfl,hH,h1,h2,hk,hy,q⟩:=h;cases rx;obtain ⟨u,rfl,ru⟩:=rv.one;obtain ⟨t,rfl⟩:=ru;obtain ⟨z,its,n,r,hl,e⟩:=I.lstM hH;obtain ⟨w,hw,rw'⟩:=r.get hy
 refine call_meets F.slot_list_pop ⟨_,e,rfl⟩ F.entry_list_pop (F.args_list_pop_2 _ _)
  (MeetsSeq.list_pop_at l its.toArray n i t k w (fitsIndex_both h1 h2) (by rw [List.size_toArray,<-hl];exact hk) (by rw [<-Array.getElem?_toList];exact hw) (by rw [List.size_toArray];omega)) ⟨e,?_⟩
 refine ⟨y,_,I.lset (its':=its.eraseIdx k) hH e ?_ (r.eraseIdx k) ?_,rw',q⟩
 ·show its.toArray.eraseIdxIfInBounds k=(its.eraseIdx k).toArray
  rw [List.eraseIdxIfInBounds_toArray]
 ·have:=zkw xs k;omega
noncomputable def zu4:R2:=fun x y H Q=>∃ l k xs,x= .ref l/\y= .int k/\H l=some (.lst xs)/\ -(2 ^ 63)<=k/\k<2 ^ 63/\xs.length * k.toNat<=sizeLine/\
 ∀ p,H p=none->Q (.ref p) (upd H p (.lst (List.replicate k.toNat xs).flatten))
theorem zrb {α:Type}(xs:List α)(k:Nat):(List.replicate k xs).flatten.length=k * xs.length:=by
 induction k with
 |zero=>simp
 |succ k ih=>rw [List.replicate_succ,List.flatten_cons,List.length_append,ih,Nat.succ_mul,Nat.add_comm]
theorem zsT:OpR X (binaryOp .Mult) zu4:=by
 intro pins s σ H x y v u Q I rx ry h;obtain ⟨l,k,xs,rfl,rfl,hH,h1,h2,hz,q⟩:=h;cases rx;obtain ⟨t,rfl⟩:=ry;obtain ⟨z,its,n,r,hl,e⟩:=I.lstM hH;have hlen:its.toArray.size * k.toNat<=sizeLine:=by rw [List.size_toArray,<-hl];exact hz
 have hcap:¬ its.toArray.size * k.toNat>(2 ^ 63 - 1) / 8:=by
  have:(sizeLine:Nat)<=(2 ^ 63 - 1) / 8:=by decide
  omega
 have hfit:¬ (!Builtin.List.listFitsIndex k)=true:=by
  rw [fitsIndex_both h1 h2];exact Bool.false_ne_true
 have hlong:¬ Builtin.List.listTooLong (its.toArray.size * k.toNat)=true:=by
  rw [zmw hlen];exact Bool.false_ne_true
 have hnew:List.foldl (fun x1 x2=>x1++x2) #[] (List.replicate (if its.toArray.isEmpty=true then 0 else k.toNat) its.toArray)=(List.replicate k.toNat its).flatten.toArray:=by
  have f0:∀ m:Nat,List.foldl (fun x1 x2=>x1++x2) #[] (List.replicate m its.toArray)=(List.replicate m its).flatten.toArray:=fun m=>by
   have:=zkx its m [];rw [List.nil_append] at this;exact this
  rw [f0];cases its with
  |nil=>simp
  |cons a r'=>rw [if_neg (by simp)]
 refine wpAny_binaryOp_repeat_ref (T:="list") (U:="int") (by decide) ⟨_,e,rfl⟩ (fun s'=>typeIs_int s' k t) noFill_list_mul F.fills_int_mul F.slot_int_rmul repeat_list F.slot_int_index.lookup
  (call_meets F.slot_int_rmul (typeIs_int s k t) F.entry_int_rmul (F.args_int_rmul_2 _ _) (int___rmul___int_list k t l its.toArray n)
   ⟨e,rfl,⟨_,e,rfl⟩,call_meets F.slot_list_mul ⟨_,e,rfl⟩ F.entry_list_mul (F.args_list_mul_2 _ _) (AutoListH.list___mul___list_int_3 l its.toArray n k t hfit hcap hlong) ⟨e,?_⟩⟩)
 rw [hnew];exact ⟨.ref _,_,I.lnew (t':=s.toks) (r.rep k.toNat) (by rw [zrb,Nat.mul_comm];exact hz),rfl,q _ I.fresh⟩
end
section
variable {prog:Program}{w:World}{A:Around}{E:Value->Shared->Prop}{s:Shared}
set_option maxRecDepth 100000 in
end
section
variable {X:Cx}
end
end L2
namespace Att
open PySem PySem.W PySem.Calls PyProof.Rows
theorem zhS {P:Params}{h:Heap}:∀ (ns:List Int) (vs:List Value),WellAll P h vs (ns.map WData.int)->IntsAre vs ns:=by
 intro ns
 induction ns with
 |nil=>
  intro vs w;rw [List.map_nil] at w;cases w;exact .nil
 |cons n ns ih=>
  intro vs w;rw [List.map_cons] at w;cases w with
  |cons a b=>
   cases a;exact .cons _ _ (ih _ b)
theorem zkz {l:OpenLaw}{n:Nat}(hn:l.most=some n){P:Params}{h:Heap}{args:List WData}{vals:List Value}
  (hpre:l.row.toRowW.claim.pre args=true)(hwl:WellAll P h vals args):
  ∃ a vs ns,vals=[Value.ref a]/\args=[WData.list (ns.map WData.int)]/\h.get? a=some {cls:=.type "list",data:=.seq vs.toArray}/\IntsAre vs ns/\ns.length<=n:=by
 have hsh:WShape.hasAll [] args [.list .int]=true:=(pre_splitW hpre).1;have hc:l.pre.holds [] {args:=args}=true:=(pre_splitW hpre).2;obtain ⟨d,r,rfl,h1,h2⟩:=hasAllW_cons hsh;obtain rfl:=hasAllW_nil h2;obtain ⟨xs,rfl,h3⟩:=hasW_list h1;obtain ⟨ns,rfl⟩:=items_int h3;have hlen:ns.length<=n:=by
  unfold OpenLaw.pre at hc;have h4:(WTm.not (.lt (.lit (.int (n:Int))) (.len (.arg 0)))).holds [] {args:=[.list (ns.map .int)]}=true:=by
   have h4:=(holds_andW hc).1;rw [hn] at h4;exact h4
  have h5:=condW_of h4 (w_not (w_lt w_lit (w_len_list (w_arg rfl))));rw [List.length_map] at h5;refine Nat.le_of_not_lt fun q=>?_;have q':(n:Int)<((ns.length:Nat):Int):=by omega
  first
   | (rw [decide_eq_true q'] at h5;exact absurd h5 (by decide))
   | (simp at h5;omega)
 cases hwl with
 |cons w1 w2=>
  cases w2;cases w1 with
  |list ho hall=>exact ⟨_,_,ns,rfl,rfl,ho,zhS ns _ hall,hlen⟩
theorem zkA (l:OpenLaw)(args:List WData):l.row.toRowW.claim.post args (.bool true) args=true:=
 postW_of (r:=l.row.toRowW) (X:=(true==true))
  (show WShape.has [] (.bool true) .bool=true by first|rfl|decide|simp [WShape.has,WShape.arms,WShape.armsAll])
  (show (WTm.eq .res (.lit (.bool true))).value [] {args:=args,res:=some (.bool true),after:=args}=some (.bool (true==true)) from w_eq_bool (w_res rfl) w_lit) rfl
theorem attach_call {l:OpenLaw}{n:Nat}{q:Program}{loose:List Str}{XP:(Str->Option Value)->Heap->Prop}{YP:World->Heap->Prop}{d:DefRec}
  (hn:l.most=some n)(hdf:d.params.defaults=[])
  (call:∀ (w:World) (s₀ s₁:Shared) (mg mb:Str->Option Value) (fa:Addr) (o:Obj) (pm cd doc:Value) (a:Addr) (vs:List Value) (ns:List Int),
   Ground q loose [] XP w s₀ mg mb s₁.heap->YP w s₁.heap->
   s₁.heap.get? fa=some o->o.data= .func (docDef d.name d.params d.body d.scope pm cd doc)->s₁.heap.CodeRec cd d.name->mg d.name=some (.ref fa)->
   s₁.heap.get? a=some {cls:=.type "list",data:=.seq vs.toArray}->IntsAre vs ns->ns.length<=n->s₁.gens= #[]->
   codeAny (model l.prog w) callerA (.call (.ref fa) ⟨[.ref a],[]⟩) (fun r s'=>r= .ok (.ret (.bool true))/\OldK s₁.heap s'.heap/\s'.os=s₁.os/\AllBare s'.gens) s₁):
  WalkO q loose XP YP l.row.toRowW d [] (fun f vs=>PySem.call f vs):=by
 intro w s₀ s₁ mg mb G Y fa o pm cd doc dV kV ho hd hcd hD hmg hg args vals as hpre hlay hrd hwl hlo;obtain rfl:dV= .none:=Dflts.none hD hdf;obtain rfl:kV= .none:=Dflts.noKw hD;obtain ⟨a,vs,ns,rfl,rfl,hobj,hints,hlen⟩:=zkz hn hpre hwl;refine enter_call (codeAny_mono (call w s₀ s₁ mg mb fa o pm cd doc a vs ns G Y ho (fd_plain hd) hcd hmg hobj hints hlen hg) fun r s' hq=>?_);obtain ⟨rfl,h2,h3,h4⟩:=hq;exact ⟨.inl ⟨.bool true,.bool true,[],rfl,fun _=>rfl,.bool true,zkA l _,fun _=>⟨List.Pairwise.nil,fun _ hm=>(nomatch hm)⟩⟩,h2,h3,h4⟩
section
variable {prog:Program}{w:World}{A:Around}{E:Value->Shared->Prop}{s:Shared}{K:Frag}
noncomputable def zuD (h:Heap)(L d:Addr):List (Addr×Obj):=(List.range h.objs.size).filterMap fun a=>if a=L\/a=d then none else (h.get? a).map fun o=>(a,o)
end
end Att
namespace L2
open PySem PySem.Spec PyProof.Rows
theorem znV:∀ {vs:List Value} {ns:List Int},IntsAre vs ns->Vals (ns.map V.int) vs
 :=by
 intro vs ns h
 induction h with
 |nil=>exact .nil
 |cons n t h ih=>exact .cons ⟨t,rfl⟩ ih
noncomputable def zuf (H:Hp):Prop:=∀ b,H b=none\/∃ o xs,H b=some (.frz o (.lst xs))
theorem zmx {P:Program}{w:World}{K:PySem.W.Frag}{mg mb:Str->Option Value}{CX:CXT}{k:Nat}{fa a:Addr}{fd:FuncData}{x:Str}{sp:Sp}{s₁:Shared}{vs:List Value}{ns:List Int}
  (KX:K.In s₁.heap)(hns:s₁.heap.Ns mainGlobals mg)(hb:s₁.heap.Ns builtinsNs mb)(hbb:∀ x:Str,x≠"__name__"->mb x=bootBuiltins x)(hlim:s₁.heap.NoLimit)(hg:s₁.gens= #[])
  (ha:s₁.heap.get? a=some {cls:=.type "list",data:=.seq vs.toArray})(hi:IntsAre vs ns)(hl:ns.length<=sizeLine)(hr:Room k callerA)
  (F:∀ base:Heap,K.In base->base.Ns mainGlobals mg->FnOk P w K mg base CX k fa fd [x] sp)(hbind:∀ (s:Shared) (u:Value),BindsTo s fd ⟨[u],[]⟩ [(x,u)])
  (hsp:∀ H:Hp,zuf H->SqL K H a (ns.map V.int)->sp [.ref a] H (fun v _=>v= .bl true) fun _ _ _=>False)
  (hCX:∀ H e s',CX [] H s₁ (fun _ _ _=>False) e s'->False):
  codeAny (model P w) callerA (.call (.ref fa) ⟨[.ref a],[]⟩) (fun r s'=>r= .ok (.ret (.bool true))/\OldK s₁.heap s'.heap/\s'.os=s₁.os/\AllBare s'.gens) s₁:=by
 have rv:=znV hi;have lenV:=hi.length
 have core:∀ H:Hp,zuf H->SqL K H a (ns.map V.int)->HOk P w H s₁.heap->(∀ b,H b≠none->b=a)->(H a≠none->K.lookup a=none)->
   codeAny (model P w) callerA (.call (.ref fa) ⟨[.ref a],[]⟩) (fun r s'=>r= .ok (.ret (.bool true))/\OldK s₁.heap s'.heap/\s'.os=s₁.os/\AllBare s'.gens) s₁:=by
  intro H hO hS hok hA hK;have base_of:∀ {b:Addr} {o:Obj},s₁.heap.get? b=some o->H b=none->(zpg s₁.heap H).get? b=some o:=fun e n=>zph e n;have noA:∀ {b:Addr} {o:Obj} {es:Array DictEntry} {ep:Nat},s₁.heap.get? b=some o->o.data= .dict es ep->H b=none:=fun {b o es ep} e d=>by
   cases q:H b with
   |none=>rfl
   |some u=>
    have e':b=a:=hA b (by rw [q];simp);subst e';rw [ha] at e;cases e;have d':Data.seq vs.toArray _=Data.dict es ep:=d;cases d'
  have nsK:∀ {b:Addr} {m:Str->Option Value},s₁.heap.Ns b m->(zpg s₁.heap H).Ns b m:=fun {b m} ⟨o,es,ep,e,d,r⟩=>⟨o,es,ep,base_of e (noA e d),d,r⟩;have hKb:K.In (zpg s₁.heap H):=fun b o e=>base_of (KX b o e) (by
   cases q:H b with
   |none=>rfl
   |some u=>
    have e':b=a:=hA b (by rw [q];simp);subst e';rw [hK (by rw [q];simp)] at e;cases e)
  have hM:Mod K mg (zpg s₁.heap H):=⟨hKb,nsK hns,⟨mb,nsK hb,hbb⟩,let ⟨mc,h1,h2⟩:=hlim;⟨mc,nsK h1,h2⟩⟩;have e0:Env0 P w K mg (zpg s₁.heap H) callerA [] s₁ H:=⟨rfl,hM,fun b o e=>zqT e,Nat.le_of_eq (znC _ _),trivial,fun b hb=>absurd (show b∈([]:List Addr) from hb) (by simp),hok,.of_eq hg⟩;refine codeAny_mono ((F _ hKb (nsK hns)).run callerA [] s₁ H ⟨[.ref a],[]⟩ [.ref a] [.ref a] _ _ hr e0 (hbind s₁ (.ref a)) (.cons rfl .nil) (hsp H hO hS)) fun r s' h=>?_;cases r with
  |error e=>exact (hCX H e s' h).elim
  |ok fl=>
   cases fl with
   |next=>exact False.elim h
   |brk=>exact False.elim h
   |cont=>exact False.elim h
   |ret u=>
    obtain ⟨v,H',os,bare,un,hok',r',q⟩:=h;have q':v= .bl true:=q;subst q';obtain rfl:u=Value.bool true:=r';refine ⟨rfl,OldK.of_keep fun b o e=>?_,os,bare⟩;cases q:H b with
    |none=>exact un.keep b o e q (by intro z;exact absurd (show b∈([]:List Addr) from z) (by simp)) (by simp)
    |some u=>
     rcases hO b with z|⟨ob,xs,z⟩
     ·rw [q] at z;cases z
     ·have z2:=un.frzs b ob _ z;obtain ⟨e1,_⟩:=hok b _ z;obtain ⟨e2,_⟩:=hok' b _ z2;rw [e] at e1;cases e1;exact e2
 cases hk:K.lookup a with
 |some o=>
  have e:=KX a o hk;rw [ha] at e;cases e;refine core (fun _=>none) (fun _=>.inl rfl) (.inr ⟨_,vs.toArray,_,hk,rfl,rfl,rfl,by rw [List.size_toArray,lenV];exact hl,by simpa using rv⟩) (fun b u z=>by have z':(none:Option HO)=some u:=z;cases z') (fun b z=>absurd rfl z) fun z=>absurd rfl z
 |none=>
  refine core (fun b=>if b=a then some (.frz {cls:=.type "list",data:=.seq vs.toArray} (.lst (ns.map V.int))) else none) (fun b=>?_) (.inl (.inr ⟨{cls:=.type "list",data:=.seq vs.toArray},if_pos rfl⟩)) (fun b u z=>?_) (fun b z=>?_) fun _=>hk
  ·by_cases hb:b=a
   ·exact .inr ⟨_,_,if_pos hb⟩
   ·exact .inl (if_neg hb)
  ·by_cases hb:b=a
   ·have z':=(if_pos hb).symm.trans z;cases z';subst hb;exact ⟨ha,by rw [List.length_map];exact hl,vs,_,rv,ha⟩
   ·have z':=(if_neg hb).symm.trans z;cases z'
  ·by_cases hb:b=a
   ·exact hb
   ·exact absurd (if_neg hb) z
end L2
namespace L2
open PySem PySem.Spec PyProof.Rows
noncomputable abbrev KOf {K:PySem.W.Frag}{h:Heap}(_:K.In h):PySem.W.Frag:=K
theorem zug {l:PySem.W.OpenLaw}{n k:Nat}{q:Program}{loose:List Str}{XP:(Str->Option Value)->Heap->Prop}{YP:World->Heap->Prop}{d:DefRec}{K:Params->PySem.W.Frag}{CX:World->CXT}{sp:World->Sp}{x:Str}
  (hn:l.most=some n)(hn2:n<=sizeLine)(hdf:d.params.defaults=[])(hr:Room k callerA)
  (hY:∀ (w:World) (h:Heap),YP w h->(K w.params).In h)
  (F:∀ (w:World) (mg:Str->Option Value) (fa:Addr) (h:Heap),(K w.params).In h->h.Ns mainGlobals mg->mg d.name=some (.ref fa)->
   ∃ fd:FuncData,(∀ (s:Shared) (u:Value),BindsTo s fd ⟨[u],[]⟩ [(x,u)])/\
    ∀ base:Heap,(K w.params).In base->base.Ns mainGlobals mg->FnOk l.prog w (K w.params) mg base (CX w) k fa fd [x] (sp w))
  (hsp:∀ (w:World) (H:Hp) (a:Addr) (ns:List Int),ns.length<=n->zuf H->SqL (K w.params) H a (ns.map V.int)->sp w [.ref a] H (fun v _=>v= .bl true) fun _ _ _=>False)
  (hCX:∀ (w:World) (H:Hp) (s:Shared) (e:Value) (s':Shared),CX w [] H s (fun _ _ _=>False) e s'->False):
  PySem.W.WalkO q loose XP YP l.row.toRowW d [] (fun f vs=>PySem.call f vs):=by
 refine Att.attach_call hn hdf fun w s₀ s₁ mg mb fa o pm cd doc a vs ns G Y ho hd hcd hmg hobj hints hlen hg=>?_;have KX:=hY w _ Y;obtain ⟨fd,hb,hF⟩:=F w mg fa _ KX G.T.g hmg;exact zmx KX G.T.g G.T.b G.T.builtins G.T.nolimit hg hobj hints (Nat.le_trans hlen hn2) hr hF hb (fun H hO hS=>hsp w H a ns hlen hO hS) fun H e s'=>hCX w H s₁ e s'
end L2
namespace L2
open PySem PySem.Spec PyProof.Rows
noncomputable def zal (s:Stmt):Arguments:=match s with
 | .FunctionDef _ a _ _ _ _ _ _ _ _=>a
 |_=>{posonlyargs:=[],args:=[],vararg:=none,kwonlyargs:=[],kw_defaults:=[],kwarg:=none,defaults:=[]}
noncomputable def zaj (s:Stmt):List Stmt:=match s with
 | .FunctionDef _ _ b _ _ _ _ _ _ _=>b
 |_=>[]
noncomputable def zab (s:Stmt):Scope:=match s with
 | .FunctionDef _ _ _ _ _ _ sc _ _ _=>sc
 |_=>{kind:=.function,names:=[],isGenerator:=false,isCoroutine:=false}
noncomputable abbrev CX0:CXT:=fun _ _ _ _ _ _=>False
noncomputable abbrev E0:XK:=fun _ _ _=>False
theorem zps {X:Cx}:znP CX0 X E0:=fun _ _ _ _ _ _ _ h=>h.elim
structure Fun (K:PySem.W.Frag)(x qual:Str)(st:Stmt)(f:Addr)(fd:FuncData):Prop where
 ex:∃ (oc:Value) (od:Option Addr) (kV doc pm:Value) (an:Option Addr) (cdv ct:Value) (osl:Array (Option Value)),
  fd=PySem.W.fnOf x qual (zal st) (zaj st) (zab st) .none kV doc pm an cdv ct/\K.lookup f=some ⟨oc,od,.func fd,osl⟩/\PySem.W.codeIn K cdv qual=true
 kp:PySem.W.keepIn K (.ref f)=true
section
variable {P:Program}{w:World}{K:PySem.W.Frag}{mg:Str->Option Value}{base:Heap}
theorem Fun.ok {x qual:Str}{st:Stmt}{f:Addr}{fd:FuncData}{N ps:List Str}{k:Nat}{sp:Sp}(F:Fun K x qual st f fd)(S:FnScope N ps (zab st))(len:∀ vs H Q E,sp vs H Q E->vs.length=ps.length)
  (hbody:∀ (cdv:Value) (A:Around) (outer:List Env) (s:Shared) (H:Hp) (vs:List V) (Q:VK) (E:XK),Room k (A.deeper (envOfC qual (zab st) s.heap.objs.size f cdv))->sp vs H Q E->
   ∃ t,PSs (zpp CX0 P w K mg base N qual (zab st) f cdv A outer s H E).nox (zaj st) t/\t {nx:=fun _ H'=>Q .non H',rt:=Q} (zfV N vs) H):FnOk P w K mg base CX0 (k+1) f fd ps sp:=by
 obtain ⟨oc,od,kV,doc,pm,an,cdv,ct,osl,rfl,lk,hcd⟩:=F.ex;refine zuc lk hcd S len fun A outer s H vs Q E hr hsp=>?_;obtain ⟨t,h,q⟩:=hbody cdv A outer s H vs Q E hr hsp;exact ⟨t,h.nox,q⟩
theorem Fun.binds {x qual:Str}{st:Stmt}{f:Addr}{fd:FuncData}{ps:List Str}(F:Fun K x qual st f fd)
  (h:∀ (kV doc pm:Value) (an:Option Addr) (cdv ct:Value) (us:List Value),us.length=ps.length->bindArgs (PySem.W.fnOf x qual (zal st) (zaj st) (zab st) .none kV doc pm an cdv ct) ⟨us,[]⟩=pure (ps.zip us)):Binds K fd ps []:=by
 obtain ⟨oc,od,kV,doc,pm,an,cdv,ct,osl,rfl,lk,hcd⟩:=F.ex;exact .all (h kV doc pm an cdv ct)
theorem zap {x qual:Str}{st:Stmt}{f:Addr}{oc:Value}{od an:Option Addr}{osl:Array (Option Value)}{kV doc pm cdv ct:Value}(l:K.lookup f=some ⟨oc,od,.func (PySem.W.fnOf x qual (zal st) (zaj st) (zab st) .none kV doc pm an cdv ct),osl⟩)
  (c:PySem.W.codeIn K cdv qual=true)(k:PySem.W.keepIn K (.ref f)=true):Fun K x qual st f (PySem.W.fnOf x qual (zal st) (zaj st) (zab st) .none kV doc pm an cdv ct):=⟨⟨oc,od,kV,doc,pm,an,cdv,ct,osl,rfl,l,c⟩,k⟩
end
theorem zby {n:Nat}(h:n<=1000):n<sizeLine:=Nat.lt_of_le_of_lt h (by decide)
section
variable {X:Cx}
end
noncomputable def Same (H H':Hp):Prop:=∀ b o,H b=some o->H' b=some o
theorem Same.refl (H:Hp):Same H H:=fun _ _ h=>h
theorem Same.trans {H H1 H2:Hp}(a:Same H H1)(b:Same H1 H2):Same H H2:=fun c o h=>b c o (a c o h)
theorem Same.free {H H':Hp}(e:Same H H'){l:Addr}(h:H' l=Option.none):H l=Option.none:=by
 cases q:H l with
 |none=>rfl
 |some o=>
  rw [e l o q] at h;cases h
theorem Same.seq {K:PySem.W.Frag}{H H':Hp}{a:Addr}{xs:List V}(e:Same H H')(h:SqL K H a xs):SqL K H' a xs:=by
 rcases h with (h|⟨o,h⟩)|h
 ·exact .inl (.inl (e _ _ h))
 ·exact .inl (.inr ⟨o,e _ _ h⟩)
 ·exact .inr h
end L2
set_option autoImplicit false
set_option maxHeartbeats 4000000
namespace L2
open PySem PySem.Spec PyProof.Rows
section
variable {κ:Type}[DecidableEq κ]
noncomputable def zsh (kvs:List (κ×V))(k:κ):Option V:=(kvs.find? fun kv=>decide (kv.1=k)).map (·.2)
noncomputable def zuE (kvs:List (κ×V))(k:κ)(v:V):List (κ×V):=
 if (kvs.any fun kv=>decide (kv.1=k))=true then kvs.map (fun kv=>if kv.1=k then (kv.1,v) else kv) else kvs++[(k,v)]
noncomputable def zsU (kvs:List (κ×V))(k:κ):List (κ×V):=kvs.filter fun kv=>decide (kv.1≠k)
theorem zpt {p:κ×V}{r:List (κ×V)}{k:κ}(e:p.1=k):zsh (p::r) k=some p.2:=by simp [zsh,List.find?_cons,e]
theorem zpu {p:κ×V}{r:List (κ×V)}{k:κ}(e:¬ p.1=k):zsh (p::r) k=zsh r k:=by simp [zsh,List.find?_cons,e]
theorem RelO.getD {o:Option V}{u:Option Value}{d:V}{d':Value}(r:RelO o u)(rd:RelV d d'):RelV (o.getD d) (u.getD d'):=by
 cases o with
 |none=>cases u with
  |none=>exact rd
  |some _=>exact (show False from r).elim
 |some _=>cases u with
  |none=>exact (show False from r).elim
  |some _=>exact r
theorem KV.val {kvs:List (κ×V)}{vs:List (κ×Value)}(r:KV kvs vs)(k:κ):RelO (zsh kvs k) (valueAt vs k):=by
 unfold KV at r
 induction r with
 |nil=>exact True.intro
 | @cons p q ps qs h t ih=>
  obtain ⟨h1,h2⟩:=h;by_cases e:p.1=k
  ·have e':q.1=k:=h1.symm.trans e;have b:valueAt (q::qs) k=some q.2:=by simp [valueAt,List.find?_cons,e']
   rw [zpt e,b];exact h2
  ·have e':¬ q.1=k:=fun z=>e (h1.trans z);have b:valueAt (q::qs) k=valueAt qs k:=by simp [valueAt,List.find?_cons,e']
   rw [zpu e,b];exact ih
theorem KV.any {kvs:List (κ×V)}{vs:List (κ×Value)}(r:KV kvs vs)(k:κ):(kvs.any fun kv=>decide (kv.1=k))=vs.any fun kv=>decide (kv.1=k):=by
 unfold KV at r
 induction r with
 |nil=>rfl
 |cons h t ih=>rw [List.any_cons,List.any_cons,ih,h.1]
theorem KV.repl {kvs:List (κ×V)}{vs:List (κ×Value)}(r:KV kvs vs)(k:κ){y:V}{u:Value}(ry:RelV y u):
  KV (kvs.map fun kv=>if kv.1=k then (kv.1,y) else kv) (vs.map fun kv=>if kv.1=k then (kv.1,u) else kv):=by
 unfold KV at r ⊢
 induction r with
 |nil=>exact .nil
 | @cons p q ps qs h t ih=>
  rw [List.map_cons,List.map_cons];refine .cons ?_ ih;obtain ⟨h1,h2⟩:=h;by_cases e:p.1=k
  ·rw [if_pos e,if_pos (h1.symm.trans e)];exact ⟨h1,ry⟩
  ·rw [if_neg e,if_neg (fun z=>e (h1.trans z))];exact ⟨h1,h2⟩
theorem KV.put {kvs:List (κ×V)}{vs:List (κ×Value)}(r:KV kvs vs)(k:κ){y:V}{u:Value}(ry:RelV y u):KV (zuE kvs k y) (stored vs k u):=by
 unfold zuE stored;rw [r.any k];by_cases e:(vs.any fun kv=>decide (kv.1=k))=true
 ·rw [if_pos e,if_pos e];exact r.repl k ry
 ·rw [if_neg e,if_neg e];exact Paired.snoc r ⟨rfl,ry⟩
theorem KV.drop {kvs:List (κ×V)}{vs:List (κ×Value)}(r:KV kvs vs)(k:κ):KV (zsU kvs k) (without vs k):=by
 unfold KV at r ⊢;unfold zsU without
 induction r with
 |nil=>exact .nil
 | @cons p q ps qs h t ih=>
  obtain ⟨h1,h2⟩:=h;rw [List.filter_cons,List.filter_cons];by_cases e:p.1=k
  ·have a:¬ decide (p.1≠k)=true:=by simp [e]
   have b:¬ decide (q.1≠k)=true:=by simp [h1.symm.trans e]
   rw [if_neg a,if_neg b];exact ih
  ·have e':¬ q.1=k:=fun z=>e (h1.trans z);have a:decide (p.1≠k)=true:=by simp [e]
   have b:decide (q.1≠k)=true:=by simp [e']
   rw [if_pos a,if_pos b];exact .cons ⟨h1,h2⟩ ih
theorem KV.length {kvs:List (κ×V)}{vs:List (κ×Value)}(r:KV kvs vs):kvs.length=vs.length:=Paired.length r
end
section
variable {P:Program}{w:World}{H:Hp}{h:Heap}{a:Addr}
end
section
variable {X:Cx}{pins:List (Addr×Obj)}{σ:St}{H:Hp}{s:Shared}{a:Addr}{y v:V}{u r:Value}{o:Option V}{A:Around}{E:Value->Shared->Prop}
end
section
variable {X:Cx}{pins:List (Addr×Obj)}{σ:St}{H:Hp}{s:Shared}{a:Addr}{kvs:List (Key×V)}{k:Key}{u:Value}{A:Around}{E:Value->Shared->Prop}
end
section
variable {X:Cx}{o i e value:Expr}{pos pos' tpos:Pos}{td ty tv:TE}
end
section
variable {X:Cx}{pos:Pos}
end
end L2
namespace L2
open PySem PySem.Spec PyProof.Rows
noncomputable def zu5 (ks:List Int):Int:=reduceHash (Builtin.Tuple.tupleHashOf (ks.map hashInt))
noncomputable abbrev RwT:=List (List Int×Addr×Value)
noncomputable def zu6 (a:Addr)(xs:RwT)(h:Heap):Prop:=
 (a==sysModules)=false/\xs.length<=sizeLine/\(xs.map (·.1)).Nodup/\∃ o es ep,h.get? a=some o/\o.ExactDict/\o.data= .dict es ep/\es.toList=xs.map fun x=>⟨zu5 x.1,.ref x.2.1,x.2.2⟩
theorem items_int {P:Program}{w:World}:∀ {ks:List Int} {us:List Value},Vals (ks.map V.int) us->ItemsAre (intKind P w) ks us
 | [],_,r=>by cases r;exact .nil
 |k::ks,_,r=>by
  rw [List.map_cons] at r;cases r with
  |cons h t=>
   obtain ⟨tk,rfl⟩:=h;exact .cons (by show Value.isInt k (.int k tk)=true;simp [Value.isInt]) (items_int t)
section
variable {X:Cx}{pins:List (Addr×Obj)}{σ:St}{H:Hp}{s:Shared}{a b:Addr}{xs:RwT}{ks:List Int}{A:Around}{E:Value->Shared->Prop}
end
section
variable {X:Cx}{o i e value:Expr}{pos pos' tpos:Pos}{td ty tv tk:TE}
end
section
variable {prog:Program}{w:World}{A:Around}{E:Value->Shared->Prop}{s:Shared}{d:Addr}{es:Array DictEntry}{ep:Nat}
end
section
variable {prog:Program}{w:World}{A:Around}{E:Value->Shared->Prop}{s:Shared}{d o:Addr}{xs ys:RwT}{ks:List Int}
end
section
variable {prog:Program}{w:World}{A:Around}{E:Value->Shared->Prop}{s:Shared}{d o:Addr}{xs ys:RwT}{ks:List Int}
end
section
variable {X:Cx}{o e:Expr}{to:TE}{t:TA}{apos cpos:Pos}
end
end L2
namespace L2
open PySem PySem.Spec PyProof.Rows
noncomputable abbrev noX:Value->Shared->Prop:=fun _ _=>False
section
variable {prog:Program}{w:World}{A:Around}{R:Result->Shared->Prop}{s:Shared}
noncomputable def zd8 (ifs:List Expr)(env:Env):Sem Bool:=
 forIn ifs true fun c r=>if r=true then do let ok <-isTrue c env (eval c env);pure (ForInStep.yield ok) else pure (ForInStep.yield r)
theorem zrc {elt tg iter:Expr}{ifs:List Expr}{sc:Scope}{pos:Pos}{it acc:Value}{env:Env}(I:Nat->Shared->Prop)
  (turn:∀ n s,I n s->wpAny (model prog w) A (pyNext it) (fun r s1=>match r with
   |none=>R (.ok .next) s1
   |some v=>wpAny (model prog w) A (letOwnedTupleGo tg it v) (fun _ s2=>wpAny (model prog w) A (assign tg env v) (fun _ s3=>
     wpAny (model prog w) A (zd8 ifs env) (fun ok s4=>
      if ok=true then wpAny (model prog w) A (eval elt env) (fun x s5=>wpAny (model prog w) A (call (.builtin "list.append") [acc,x]) (fun _ s6=>∃ m,m<n/\I m s6) noX s5) noX s4
      else ∃ m,m<n/\I m s4) noX s3) noX s2) noX s1) noX s)
  (n:Nat)(h:I n s):codeAny (model prog w) A (.compLoop (.ListComp elt [⟨tg,iter,ifs,0⟩] sc pos) 0 it acc env) R s:=by
 refine codeAny_loop rfl I (fun n s hI=>?_) n h;show wpAny _ A ((compTurn (.ListComp elt [⟨tg,iter,ifs,0⟩] sc pos) 0 it acc env).onRaise (fun x=>do noteFrame x env;theTreesLotGoes x)) _ _ s
 refine wpAny_noted ?_;rw [compTurn_list];refine wpAny_bind (wpAny_standAt (wpAny_bind (wpAny_mono (turn n s hI) (fun r s1 h1=>?_) fun _ _ z=>False.elim z)));cases r with
 |none=>exact wpAny_pure h1
 |some v=>
  refine wpAny_bind (wpAny_mono h1 (fun _ s2 h2=>?_) fun _ _ z=>False.elim z);refine wpAny_bind (wpAny_mono h2 (fun _ s3 h3=>wpAny_bind (wpAny_mono h3 (fun ok s4 h4=>?_) fun _ _ z=>False.elim z)) fun _ _ z=>False.elim z);cases ok with
  |false=>exact wpAny_pure ⟨rfl,h4⟩
  |true=>
   exact wpAny_bind (wpAny_bind (wpAny_mono h4 (fun x s5 h5=>wpAny_bind (wpAny_mono h5 (fun _ s6 h6=>wpAny_pure (wpAny_pure ⟨rfl,h6⟩)) fun _ _ z=>False.elim z)) fun _ _ z=>False.elim z))
theorem zhT {env:Env}{Q:Bool->Shared->Prop}{E:Value->Shared->Prop}(h:Q true s):wpAny (model prog w) A (zd8 [] env) Q E s:=wpAny_tests_nil h
theorem zhU {env:Env}{c:Expr}{Q:Bool->Shared->Prop}{E:Value->Shared->Prop}(h:wpAny (model prog w) A (isTrue c env (eval c env)) Q E s):
  wpAny (model prog w) A (zd8 [c] env) Q E s:=wpAny_tests_one h
end
noncomputable def zfW (env:Env):List (Str×NameKind)->List (Str×Addr)->List (Str×Addr)
 | [],acc=>acc
 | (n,k)::r,acc=>if k== .free then zfW env r ((n,(env.cells.lookup n).getD 0)::acc) else zfW env r acc
theorem zhV {env:Env}:∀ (names:List (Str×NameKind)) (acc:List (Str×Addr)),(∀ p∈names,p.2= .free->(env.cells.lookup p.1).isSome=true)->
  (forIn names acc fun (x:Str×NameKind) (cs:List (Str×Addr))=>(if x.2== .free then do let a <-cellOf env x.1;pure (ForInStep.yield ((x.1,a)::cs)) else pure (ForInStep.yield cs):Sem _))=pure (zfW env names acc)
 | [],acc,_=>by rw [List.forIn_nil];rfl
 | (n,k)::r,acc,h=>by
  have hr:∀ p∈r,p.2= .free->(env.cells.lookup p.1).isSome=true:=fun p hp=>h p (List.mem_cons_of_mem _ hp);rw [List.forIn_cons];unfold zfW;by_cases hk:(k==NameKind.free)=true
  ·have hs:=h (n,k) List.mem_cons_self (by simpa using hk);obtain ⟨c,hc⟩:=Option.isSome_iff_exists.mp hs;have hc':env.cells.lookup n=some c:=hc;simp only [hk,if_true];have e1:cellOf env n=pure c:=by unfold cellOf;rw [hc']
   rw [e1,hc'];exact zhV r _ hr
  ·simp only [hk,if_false];exact zhV r _ hr
theorem zfX {scope:Scope}{env:Env}(h:∀ p∈scope.names,p.2= .free->(env.cells.lookup p.1).isSome=true):closureFor scope env=pure (zfW env scope.names []):=by
 have e:=zhV (env:=env) scope.names [] h;unfold closureFor;show (forIn scope.names [] _ >>= fun cs=>pure cs)=_
 exact (congrArg (fun t=>t >>= fun cs=>pure cs) e)
theorem zhW {env:Env}:∀ {names:List (Str×NameKind)} {acc:List (Str×Addr)} {p:Str×Addr},p∈zfW env names acc->p∈acc\/((p.1,NameKind.free)∈names/\p.2=(env.cells.lookup p.1).getD 0)
 | [],_,_,h=>.inl h
 | (n,k)::r,acc,p,h=>by
  unfold zfW at h;split at h
  ·rename_i hk;have hk':k= .free:=by simpa using hk
   rcases zhW h with h|⟨h1,h2⟩
   ·rcases List.mem_cons.mp h with e|h
    ·subst e;subst hk';exact .inr ⟨List.mem_cons_self,rfl⟩
    ·exact .inl h
   ·exact .inr ⟨List.mem_cons_of_mem _ h1,h2⟩
  ·rcases zhW h with h|⟨h1,h2⟩
   ·exact .inl h
   ·exact .inr ⟨List.mem_cons_of_mem _ h1,h2⟩
theorem closL_look {env:Env}{n:Str}{c:Addr}(hc:env.cells.lookup n=some c):∀ {names:List (Str×NameKind)} {acc:List (Str×Addr)},((n,NameKind.free)∈names\/acc.lookup n=some c)->(zfW env names acc).lookup n=some c
 | [],acc,h=>by
  rcases h with h|h
  ·exact absurd h (by simp)
  ·exact h
 | (m,k)::r,acc,h=>by
  unfold zfW;split
  ·rename_i hk;have hk':k= .free:=by simpa using hk
   refine closL_look hc ?_;by_cases hm:n=m
   ·subst hm;exact .inr (by rw [List.lookup_cons,beq_self_eq_true,hc];rfl)
   ·rcases h with h|h
    ·rcases List.mem_cons.mp h with e|h
     ·exact absurd (congrArg Prod.fst e) hm
     ·exact .inl h
    ·exact .inr (by rw [List.lookup_cons,beq_eq_false_iff_ne.mpr hm];exact h)
  ·rename_i hk;refine closL_look hc ?_;rcases h with h|h
   ·rcases List.mem_cons.mp h with e|h
    ·have:k= .free:=(congrArg Prod.snd e).symm;exact absurd (by simp [this]) hk
    ·exact .inl h
   ·exact .inr h
theorem zc2:∀ (names:List (Str×NameKind)) (n:Nat) (acc:List (Str×Addr)),cellsFrom n names acc=cellsFrom n names []++acc
 | [],_,_=>rfl
 | (m,k)::r,n,acc=>by
  unfold cellsFrom;split
  ·rw [zc2 r _ ((m,n)::acc),zc2 r _ [(m,n)],List.append_assoc];rfl
  ·exact zc2 r n acc
theorem zc3:∀ {names:List (Str×NameKind)} {n:Nat} {acc:List (Str×Addr)} {p:Str×Addr},p∈cellsFrom n names acc->p∈acc\/(p.1,NameKind.cell)∈names
 | [],_,_,_,h=>.inl h
 | (m,k)::r,n,acc,p,h=>by
  unfold cellsFrom at h;split at h
  ·rename_i hk;have hk':k= .cell:=by simpa using hk
   rcases zc3 h with h|h
   ·rcases List.mem_cons.mp h with e|h
    ·subst e;subst hk';exact .inr List.mem_cons_self
    ·exact .inl h
   ·exact .inr (List.mem_cons_of_mem _ h)
  ·rcases zc3 h with h|h
   ·exact .inl h
   ·exact .inr (List.mem_cons_of_mem _ h)
theorem zd9 {α:Type}{x:Str}:∀ {l l':List (Str×α)},(l++l').lookup x=(l.lookup x).or (l'.lookup x)
 | [],_=>rfl
 | (n,v)::r,l'=>by
  rw [List.cons_append,List.lookup_cons,List.lookup_cons];cases x==n
  ·exact zd9
  ·rfl
theorem zfk {α:Type}{x:Str}:∀ {l:List (Str×α)},(∀ v,(x,v)∉l)->l.lookup x=none
 | [],_=>rfl
 | (n,v)::r,h=>by
  rw [List.lookup_cons];have hn:(x==n)=false:=beq_eq_false_iff_ne.mpr fun e=>h v (by rw [e];exact List.mem_cons_self);rw [hn];exact zfk fun u hu=>h u (List.mem_cons_of_mem _ hu)
theorem zb6 {α:Type}{x:Str}{v:α}:∀ {l:List (Str×α)},(l.map (·.1)).Nodup->(x,v)∈l->l.lookup x=some v
 | [],_,h=>absurd h (by simp)
 | (n,u)::r,nd,h=>by
  rw [List.map_cons,List.nodup_cons] at nd;rw [List.lookup_cons];rcases List.mem_cons.mp h with e|h
  ·cases e;rw [beq_self_eq_true]
  ·have hn:(x==n)=false:=beq_eq_false_iff_ne.mpr fun e=>nd.1 (by rw [<-e];exact List.mem_map.mpr ⟨(x,v),h,rfl⟩);rw [hn];exact zb6 nd.2 h
theorem znd {M:Model}{A:Around}{E:Value->Shared->Prop}{s:Shared}{scope:Scope}{globals:Addr}{clos:List (Str×Addr)}{qual:Str}{env:Env}{Q:Env->Shared->Prop}
  (hQ:Q {scope,locals:=s.heap.objs.size,globals,cells:=cellsFrom (s.heap.objs.size+1) scope.names clos,qual,func:=none,code:=env.code,frame:=env.frame,builtins:=env.builtins}
   {s with heap:=pushCells (s.heap.push {cls:=.type "dict",data:=.dict #[]}) scope.names}):
  wpAny M A (newFunctionEnv scope globals clos [] qual none .none (some env)) Q E s:=by
 simp only [newFunctionEnv,Option.isSome_some,if_true];refine wpAny_bind (wpAny_alloc ?_);refine wpAny_bind (wpAny_layCells _ (fun name kind cells=>by cases hkc:kind==NameKind.cell<;>simp [hkc]) _ _ _ _ ?_);rw [show ({s with heap:=s.heap.push {cls:=.type "dict",data:=.dict #[]}}:Shared).heap.objs.size=s.heap.objs.size+1 from Heap.size_push ..];exact wpAny_bind (wpAny_pure (wpAny_pure hQ))
end L2
namespace L2
open PySem PySem.Spec PyProof.Rows
noncomputable def zmy:List Str->Bool
 | []=>true
 |x::r=> !(r.any fun y=>y==x)&&zmy r
theorem zkB:∀ {l:List Str},zmy l=true->l.Nodup
 | [],_=>List.nodup_nil
 |x::r,h=>by
  unfold zmy at h;rw [Bool.and_eq_true] at h;refine List.nodup_cons.mpr ⟨fun hx=>?_,zkB h.2⟩;have h1:=h.1;rw [Bool.not_eq_true',List.any_eq_false] at h1;exact h1 x hx (beq_self_eq_true x)
noncomputable def zeJ (R NX:List Str)(inner outer:List (Str×NameKind)):Bool:=
 zmy (inner.map (·.1))&&(inner.all fun p=>p.2 != .free||outer.lookup p.1==some .cell||outer.lookup p.1==some .free)&&R.length==NX.length&&
  ((R.zip NX).all fun p=>match inner.lookup p.1 with
   |some .local=>false
   |some .cell=>false
   |some .free=>p.1==p.2
   |_=>true)
structure CompOk (R NX:List Str)(inner outer:List (Str×NameKind)):Prop where
 nd:(inner.map (·.1)).Nodup
 fr:∀ n,(n,NameKind.free)∈inner->outer.lookup n=some .cell\/outer.lookup n=some .free
 len:R.length=NX.length
 at':∀ (i:Nat) (x:Str),R[i]? =some x->(inner.lookup x=some .local->False)/\(inner.lookup x=some .cell->False)/\(inner.lookup x=some .free->NX[i]? =some x)
theorem zja {R NX:List Str}{inner outer:List (Str×NameKind)}(h:zeJ R NX inner outer=true):CompOk R NX inner outer:=by
 unfold zeJ at h;simp only [Bool.and_eq_true] at h;obtain ⟨⟨⟨h1,h2⟩,h3⟩,h4⟩:=h;have hl:R.length=NX.length:=by simpa using h3
 refine ⟨zkB h1,fun n hn=>?_,hl,fun i x hx=>?_⟩
 ·have:=List.all_eq_true.mp h2 _ hn;simp only [Bool.or_eq_true] at this;rcases this with (z|z)|z
  ·simp at z
  ·exact .inl (by simpa using z)
  ·exact .inr (by simpa using z)
 ·have hi:i<R.length:=(List.getElem?_eq_some_iff.mp hx).1;have hi':i<NX.length:=by omega
  have hz:(R.zip NX)[i]? =some (x,NX[i]):=by
   rw [List.getElem?_zip_eq_some];exact ⟨hx,List.getElem?_eq_getElem hi'⟩
  have:=List.all_eq_true.mp h4 _ (List.mem_of_getElem? hz);dsimp only at this;refine ⟨fun e=>?_,fun e=>?_,fun e=>?_⟩
  ·rw [e] at this;cases this
  ·rw [e] at this;cases this
  ·rw [e] at this;have e2:x=NX[i]:=by simpa using this
   rw [List.getElem?_eq_getElem hi',<-e2]
noncomputable def cxC (X:Cx)(N:List Str)(scope:Scope)(fp:List Addr)(L:Addr)(s:Shared)(H:Hp):Cx where
 prog:=X.prog
 w:=X.w
 K:=X.K
 mg:=X.mg
 base:=X.base
 A:=X.A
 N:=N
 s₀:=s
 H₀:=H
 env:=compEnvC scope (cellsFrom (L+1) scope.names (zfW X.env scope.names [])) L X.env
 outer:=X.stack
 stack:=X.stack
 ex:=fp
 fn:=fun x=>scope.names.lookup x==some .cell
 calm:=X.calm
 pn:=[]
 xe:=noX
theorem zeK {scope:Scope}{env:Env}{x:Str}:(relabel scope env).names.lookup x=match scope.names.lookup x with
  |some .free=>if (env.scope.kind== .function&&env.kindOf x==some .cell)=true then some .cell else some .free
  |k=>k:=by
 unfold relabel;dsimp only;generalize scope.names=l
 induction l with
 |nil=>rfl
 |cons p r ih=>
  obtain ⟨n,k⟩:=p;rw [List.map_cons];by_cases hx:x=n
  ·subst hx;cases k<;>simp [List.lookup_cons]<;>split<;>simp_all
  ·have hb:(x==n)=false:=beq_eq_false_iff_ne.mpr hx;have e1:List.lookup x ((n,k)::r)=List.lookup x r:=by rw [List.lookup_cons,hb]
   rw [e1,<-ih];dsimp only;split<;>rw [List.lookup_cons,hb]
theorem n1 {a b:Nat}(h1:b+1+1<=a)(h2:a<b):False:=by omega
theorem n2 {a b:Nat}(h1:b+1+1<=a):b<=a:=by omega
theorem n3 {a b c:Nat}(h1:b+1+1<=a)(h2:c<b):a≠c:=by omega
theorem n4 {a b c:Nat}(h1:a<b)(h2:b<=c)(h3:c<=a):False:=by omega
theorem n5 {a b:Nat}(h1:a<b):a≠b+1:=by omega
section
variable {X:Cx}{pins:List (Addr×Obj)}{σ:St}{H:Hp}{s:Shared}
theorem Inv.closHas (I:Inv X pins σ H s){names:List (Str×NameKind)}(fr:∀ n,(n,NameKind.free)∈names->X.env.scope.names.lookup n=some .cell\/X.env.scope.names.lookup n=some .free):
  ∀ p∈names,p.2= .free->(X.env.cells.lookup p.1).isSome=true:=fun p hp e=>by
 obtain ⟨n,k⟩:=p;have e':k= .free:=e;subst e';obtain ⟨c,hc⟩:=I.ok.has n (fr n hp);rw [hc];rfl
theorem Inv.comp {R N tn:List Str}{scope:Scope}{fp:List Addr}{D:Addr}{lo:Obj}{h1:Heap}{tk:Nat}(I:Inv X pins σ H s)(hk:scope.kind= .function)(C:CompOk R X.N scope.names X.env.scope.names)(hN:N=tn++R)
  (hfp:∀ b∈fp,zpf X pins H b/\b<s.heap.objs.size)(hD:D=s.heap.objs.size)(hlo:∀ v,lo.data≠ .cell v)
  (hh:h1=pushCells ((s.heap.push lo).push {cls:=.type "dict",data:=.dict #[]}) scope.names)(hfl:lo.isFreed=false):
  Inv (cxC X N scope fp (D+1) s H) [(D,lo)] (List.replicate tn.length none++σ) H {s with heap:=h1,toks:=tk}:=by
 subst hD;have sz1:(s.heap.push lo).objs.size=s.heap.objs.size+1:=Heap.size_push ..;have sz2:((s.heap.push lo).push {cls:=.type "dict",data:=.dict #[]}).objs.size=s.heap.objs.size+1+1:=by rw [Heap.size_push,sz1]
 have k1:∀ b o,s.heap.get? b=some o->h1.get? b=some o:=fun b o e=>by
  rw [hh];exact pushCells_keeps _ _ _ _ (Heap.get?_push_of_some _ (Heap.get?_push_of_some _ e))
 have own:=cellsFrom_ok scope.names ((s.heap.push lo).push {cls:=.type "dict",data:=.dict #[]}) (s.heap.objs.size+1+1) [] ⟨fun _ _ hm=>(nomatch hm),List.Pairwise.nil⟩ (Nat.le_of_eq sz2.symm);rw [<-hh,sz2] at own;have hcl:(cxC X N scope fp (s.heap.objs.size+1) s H).env.cells=cellsFrom (s.heap.objs.size+1+1) scope.names []++zfW X.env scope.names []:=zc2 ..;have cells:∀ x c,(cxC X N scope fp (s.heap.objs.size+1) s H).env.cells.lookup x=some c->((x,c)∈cellsFrom (s.heap.objs.size+1+1) scope.names []/\scope.names.lookup x=some .cell)\/(X.env.cells.lookup x=some c/\scope.names.lookup x=some .free):=fun x c e=>by
  rw [hcl,zd9] at e;cases q:(cellsFrom (s.heap.objs.size+1+1) scope.names []).lookup x with
  |some c'=>
   rw [q] at e;have e':c'=c:=Option.some.inj e;subst e';have m:=PySem.mem_of_lookup q;refine .inl ⟨m,?_⟩;rcases zc3 m with z|z
   ·exact absurd z (by simp)
   ·exact zb6 C.nd z
  |none=>
   rw [q] at e;have e':(zfW X.env scope.names []).lookup x=some c:=e;rcases zhW (PySem.mem_of_lookup e') with z|⟨z1,z2⟩
   ·exact absurd z (by simp)
   ·obtain ⟨c2,hc2⟩:=I.ok.has x (C.fr x z1);rw [hc2] at z2;have z2':c=c2:=z2;subst z2';exact .inr ⟨hc2,zb6 C.nd z1⟩
 have lookC:∀ x c,scope.names.lookup x=some .free->X.env.cells.lookup x=some c->(cxC X N scope fp (s.heap.objs.size+1) s H).env.cells.lookup x=some c:=fun x c e1 e2=>by
  rw [hcl,zd9,zfk fun v hv=>?_]
  ·exact closL_look e2 (.inl (PySem.mem_of_lookup e1))
  ·rcases zc3 hv with z|z
   ·exact absurd z (by simp)
   ·rw [zb6 C.nd z] at e1;cases e1
 have kindEq:∀ x,(cxC X N scope fp (s.heap.objs.size+1) s H).env.kindOf x=(relabel scope X.env).names.lookup x:=fun _=>rfl;have kfree:∀ x,((cxC X N scope fp (s.heap.objs.size+1) s H).env.kindOf x=some .cell\/(cxC X N scope fp (s.heap.objs.size+1) s H).env.kindOf x=some .free)->scope.names.lookup x=some .cell\/scope.names.lookup x=some .free:=fun x e=>by
  rw [kindEq,zeK] at e
  revert e
  cases scope.names.lookup x with
  |none=>intro e;rcases e with e|e<;>cases e
  |some k=>cases k<;>intro e<;>first|exact .inl rfl|exact .inr rfl| (rcases e with e|e<;>cases e)
 have oldc:∀ x c,X.env.cells.lookup x=some c->c<s.heap.objs.size:=fun x c e=>by obtain ⟨v,q⟩:=I.cell x c e;exact q.lt
 have ownc:∀ x c,(x,c)∈cellsFrom (s.heap.objs.size+1+1) scope.names []->s.heap.objs.size+1+1<=c:=fun x c m=>(own.empty x c m).2;have nsL:h1.Ns (s.heap.objs.size+1) (fun _=>none):=by
  rw [hh];have q:=(Heap.Ns.new (s.heap.push lo) (.type "dict"));rw [sz1] at q;exact q.keeps (pushCells_keeps _ _)
 have fresh:∀ b,s.heap.objs.size<=b->H b=none:=fun b hb=>I.hok.fresh hb
 refine ⟨⟨I.ok.mod,?_,?_,?_,Nat.le_succ _,fun x y c e1 e2=>?_,fun x hx=>?_,fun x c hf e=>?_,I.ok.hd,I.ok.frames,.inl rfl,fun b hb=>⟨?_,fun x c e=>?_⟩,I.bs,Nat.le_trans I.ok.bsz I.sz,fun b o e hb=>?_,fun b hb=>?_,I.stack,I.stkFree⟩,
  rfl,I.bare,Un.kept k1,⟨_,nsL,fun i x v e1 e2 e3=>?_⟩,fun x c e=>?_,fresh _ (Nat.le_succ _),fun x c e=>?_,fun p hp=>?_,I.hok.kept k1,?_⟩
 ·exact hk
 ·exact I.ok.glob
 ·exact I.ok.blt
 ·rcases cells x c e1 with ⟨m1,_⟩|⟨m1,_⟩<;>rcases cells y c e2 with ⟨m2,_⟩|⟨m2,_⟩
  ·exact name_of_addr own.apart m1 m2
  ·exact (n1 (ownc x c m1) (oldc y c m2)).elim
  ·exact (n1 (ownc y c m2) (oldc x c m1)).elim
  ·exact I.ok.inj x y c m1 m2
 ·rcases kfree x hx with z|z
  ·obtain ⟨c,hc⟩:=Option.isSome_iff_exists.mp (PySem.W.cellsFrom_some scope.names (s.heap.objs.size+1+1) (zfW X.env scope.names []) (.inl z));exact ⟨c,hc⟩
  ·obtain ⟨c,hc⟩:=I.ok.has x (C.fr x (PySem.mem_of_lookup z));exact ⟨c,lookC x c z hc⟩
 ·rcases cells x c e with ⟨m1,_⟩|⟨_,m1⟩
  ·exact n2 (ownc x c m1)
  ·have hf':(scope.names.lookup x==some NameKind.cell)=true:=hf;rw [m1] at hf';cases hf'
 ·exact n5 (hfp b hb).2
 ·rcases cells x c e with ⟨m1,_⟩|⟨m1,_⟩
  ·exact n3 (ownc x c m1) (hfp b hb).2
  ·exact (hfp b hb).1.2.2.2.2.1 x c m1
 ·-- an object of the base is no iterator of ours
  obtain ⟨f0,f1,f2,f3,_⟩:=(hfp b hb).1;rcases f3 with z|z
  ·exact I.ok.noex b o e z
  ·exact n4 (Heap.lt_size e) I.ok.bsz z
 ·obtain ⟨f0,f1,f2,f3,_⟩:=(hfp b hb).1;intro z;rcases List.mem_cons.mp (I.stkSub b z) with e|e
  ·exact f1 e
  ·exact f2 e
 ·-- the names around
  have hi:tn.length<=i:=by
   by_cases hlt:i<tn.length
   ·rw [List.getElem?_append_left (by simpa using hlt),List.getElem?_replicate] at e2;split at e2<;>cases e2
   ·omega
  rw [List.getElem?_append_right (by simpa using hi),List.length_replicate] at e2;have e1':R[i - tn.length]? =some x:=by
   have e1'':N[i]? =some x:=e1;rw [hN,List.getElem?_append_right hi] at e1'';exact e1''
  obtain ⟨c1,c2,c3⟩:=C.at' _ x e1';have hfr:scope.names.lookup x=some .free:=by
   have e3':(relabel scope X.env).names.lookup x=some .local\/(relabel scope X.env).names.lookup x=some .cell\/(relabel scope X.env).names.lookup x=some .free:=e3;rw [zeK] at e3'
   revert c1 c2 e3'
   cases scope.names.lookup x with
   |none=>intro _ _ e;rcases e with e|e|e<;>cases e
   |some k=>cases k<;>intro c1 c2 e<;>first|rfl|exact absurd rfl c1|exact absurd rfl c2| (rcases e with e|e|e<;>cases e)
  have hX:=c3 hfr;obtain ⟨m,hn,hl⟩:=I.loc;have kX:=C.fr x (PySem.mem_of_lookup hfr);obtain ⟨u,r,l⟩:=hl _ x v hX e2 (kX.elim (fun z=>.inr (.inl z)) fun z=>.inr (.inr z));refine ⟨u,r,.inr ⟨?_,?_⟩⟩
  ·show (relabel scope X.env).names.lookup x=some .cell\/(relabel scope X.env).names.lookup x=some .free
   rw [zeK,hfr];dsimp only;split
   ·exact .inl rfl
   ·exact .inr rfl
  ·rcases l with ⟨l,_⟩|⟨_,c,hc,z⟩
   ·have l':X.env.scope.names.lookup x=some .local:=l;rcases kX with z|z<;>rw [z] at l'<;>cases l'
   ·exact ⟨c,lookC x c hfr hc,z.keeps k1⟩
 ·rcases cells x c e with ⟨m1,_⟩|⟨m1,_⟩
  ·exact ⟨none,(own.empty x c m1).1⟩
  ·obtain ⟨v,z⟩:=I.cell x c m1;exact ⟨v,z.keeps k1⟩
 ·rcases cells x c e with ⟨m1,_⟩|⟨m1,_⟩
  ·exact fresh c (n2 (ownc x c m1))
  ·exact I.freeC x c m1
 ·have hp':p∈[(s.heap.objs.size,lo)]:=hp;rw [List.mem_singleton] at hp';subst hp';refine ⟨?_,fresh _ (Nat.le_refl _),?_,?_,hlo⟩
  ·show h1.get? s.heap.objs.size=some lo
   rw [hh];exact pushCells_keeps _ _ _ _ (Heap.get?_push_of_some _ (Heap.get?_push_size _ hfl))
  ·show s.heap.objs.size≠s.heap.objs.size+1
   omega
  ·show s.heap.objs.size∉frs X.stack
   intro z;rcases List.mem_cons.mp (I.stkSub _ z) with e|e
   ·exact absurd I.lt (by rw [<-e];exact Nat.lt_irrefl _)
   ·exact I.nofs (Nat.le_refl _) e
 ·show (List.replicate tn.length none++σ).length=N.length
  rw [hN,List.length_append,List.length_replicate,List.length_append,I.len,C.len]
end
end L2
namespace L2
open PySem PySem.Spec PyProof.Rows
noncomputable def PCl (X:Cx)(ifs:List Expr)(t:TT):Prop:=
 ∀ (pins:List (Addr×Obj)) (s:Shared) (σ:St) (H:Hp) (Q:Bool->Hp->Prop),Inv X pins σ H s->t σ H Q->wpAny (model X.prog X.w) X.A (zd8 ifs X.env) (TP X pins σ Q) X.xe s
noncomputable def zuh:TT:=fun _ H Q=>Q true H
theorem zrd {X:Cx}:PCl X [] zuh:=fun _ _ _ H _ I h=>zhT ⟨H,I,h⟩
theorem zre {X:Cx}{c:Expr}{t:TT}(h:PT X c t):PCl X [c] t:=fun pins s σ H Q I hw=>zhU (h pins s σ H Q I hw)
noncomputable def zpv (wi:TI)(k:Nat)(g:TG)(tc:TT)(te:TE):TE:=fun σ H Q=>wi σ H fun J H1=>∃ W:Nat->Nat->List V->Hp->Prop,(∃ m,W 0 m [] H1)/\∀ i m ys H,W i m ys H->
 (J.stop i H/\ys.length<=sizeLine/\∀ p,H p=none->Q (.ref p) (upd H p (.lst ys)))\/
 (J.go i H/\ys.length<=sizeLine/\∃ N:List V->Hp->Prop,(∀ ys' H',N ys' H'->∃ m',m'<m/\W (i+1) m' ys' H')/\∀ x H',J.yld i H x H'->
  g x (List.replicate k none++σ) H' fun σ2 H2=>(σ2.drop k=σ/\σ2.length=k+σ.length)/\tc σ2 H2 fun b H3=>if b=true then te σ2 H3 fun y H4=>N (ys++[y]) H4 else N ys H3)
noncomputable abbrev zmz (its:List Value)(n:Nat):Obj:={cls:=.type "list",data:=.seq its.toArray n}
section
variable {X:Cx}{pins:List (Addr×Obj)}{σ:St}{H:Hp}{s:Shared}
theorem Inv.compDone {N:List Str}{scope:Scope}{fp:List Addr}{σ':St}{H':Hp}{s':Shared}{h':Heap}{its:List Value}{n:Nat}{ys:List V}(I:Inv X pins σ H s)(hfp:∀ b∈fp,zpf X pins H b)
  (I':Inv (cxC X N scope fp (s.heap.objs.size+1) s H) [(s.heap.objs.size,zmz its n)] σ' H' s')(r:Vals ys its)(hz:ys.length<=sizeLine)(hs:Heap.SameBut (s.heap.objs.size+1) s'.heap h'):
  H' s.heap.objs.size=none/\Inv X pins σ (upd H' s.heap.objs.size (.lst ys)) {s' with heap:=h'}:=by
 obtain ⟨p1,p2,p3,p4,p5⟩:=I'.pin (s.heap.objs.size,zmz its n) (by simp);have p1:s'.heap.get? s.heap.objs.size=some (zmz its n):=p1;have p2:H' s.heap.objs.size=none:=p2;have fL:H' (s.heap.objs.size+1)=none:=I'.free;have eD:h'.get? s.heap.objs.size=some (zmz its n):=(hs.2 _ (Nat.ne_of_lt (Nat.lt_succ_self _))).trans p1;have neD:∀ b o,s.heap.get? b=some o->b≠s.heap.objs.size:=fun b o e=>Nat.ne_of_lt (Heap.lt_size e);have neL:∀ b o,s.heap.get? b=some o->b≠s.heap.objs.size+1:=fun b o e=>Nat.ne_of_lt (Nat.lt_succ_of_lt (Heap.lt_size e));have neT:∀ b u,H b=some u->b≠s.heap.objs.size:=fun b u e=>za3 e I.fresh;have B:Un (frs X.stack) fp H H' s.heap s'.heap:=I'.base;refine ⟨p2,I.call' (s':={s' with heap:=h'}) (ch:=fp) I'.os ⟨fun b o e n hb hx=>?_,fun b o e n hb hx=>?_,fun b o e n hx=>?_,fun b o e hx=>?_,fun b xs e=>?_,fun b o u e=>?_,fun b ps e=>?_⟩ (fun b u e=>?_) I'.bare fun b hb=>?_⟩
 ·exact (hs.2 b (neL b o e)).trans (B.keep b o e n hb hx)
 ·obtain ⟨sl,q⟩:=B.slot b o e n hb hx;exact ⟨sl,(hs.2 b (neL b o e)).trans q⟩
 ·rw [upd_ne (neD b o e)];exact B.free b o e n hx
 ·obtain ⟨o',q⟩:=B.there b o e hx;exact ⟨o',(hs.2 b (neL b o e)).trans q⟩
 ·rw [upd_ne (neT b _ e)];exact B.tups b xs e
 ·rw [upd_ne (neT b _ e)];exact B.frzs b o u e
 ·rw [upd_ne (neT b _ e)];exact B.tbls b ps e
 ·by_cases hb:b=s.heap.objs.size
  ·subst hb;rw [zaH] at e;cases e;exact ⟨hz,its,n,r,eD⟩
  ·rw [upd_ne hb] at e;refine (I'.hok b u e).stay (fun c v hc q=>(hs.2 c ?_).trans q) (fun c q=>?_) fun c xs q=>?_
   ·rcases hc with z|z
    ·rw [z];exact za3 e fL
    ·exact za3 z fL
   ·rw [upd_ne (za3 q p2)];exact q
   ·rw [upd_ne (za3 q p2)];exact q
 ·obtain ⟨f0,f1,f2,f3,f4,f5⟩:=hfp b hb;exact ⟨f3,f1,f4,f5⟩
theorem zmA {N R tn:List Str}{scope:Scope}{pos:Pos}{tg elt iter:Expr}{ifs:List Expr}{g:TG}{tc:TT}{te:TE}{fp:List Addr}{it:Addr}{st:Nat->Heap->Prop}{J:It}{RR:Value->Addr->Result->Shared->Prop}{E:Value->Shared->Prop}
  {Q:VK}(hc:X.calm=true)(hk:scope.kind= .function)(C:CompOk R X.N scope.names X.env.scope.names)(hN:N=tn++R)
  (hg:∀ fp L s H,PG (cxC X N scope fp L s H) tg g)(ht:∀ fp L s H,PCl (cxC X N scope fp L s H) ifs tc)(he:∀ fp L s H,PE (cxC X N scope fp L s H) elt te)
  (I:Inv X pins σ H s)(T:Turn X.prog X.w X.K tg J fp it st)(st0:st 0 s.heap)(f0:∀ b∈fp,zpf X pins H b)
  (W:Nat->Nat->List V->Hp->Prop)(m0:Nat)(w0:W 0 m0 [] H)
  (turn:∀ i m ys H,W i m ys H->
   (J.stop i H/\ys.length<=sizeLine/\∀ p,H p=none->Q (.ref p) (upd H p (.lst ys)))\/
   (J.go i H/\ys.length<=sizeLine/\∃ N:List V->Hp->Prop,(∀ ys' H',N ys' H'->∃ m',m'<m/\W (i+1) m' ys' H')/\∀ x H',J.yld i H x H'->
    g x (List.replicate tn.length none++σ) H' fun σ2 H2=>(σ2.drop tn.length=σ/\σ2.length=tn.length+σ.length)/\tc σ2 H2 fun b H3=>if b=true then te σ2 H3 fun y H4=>N (ys++[y]) H4 else N ys H3))
  (hRR:∀ s' m,s'.heap.Ns (s.heap.objs.size+1) m->(∀ h',Heap.SameBut (s.heap.objs.size+1) s'.heap h'->∃ H',Inv X pins σ H' {s' with heap:=h'}/\H' (s.heap.objs.size+1)=none/\Q (.ref s.heap.objs.size) H')->RR (.ref s.heap.objs.size) (s.heap.objs.size+1) (.ok .next) s'):
  wpAny (model X.prog X.w) X.A (newList []) (fun acc s₃=>wpAny (model X.prog X.w) X.A (newFunctionEnv scope X.env.globals (zfW X.env scope.names []) [] X.env.qual none .none (some X.env)) (fun cenv s₄=>
   codeAny (model X.prog X.w) X.A (.compStart (.ListComp elt [⟨tg,iter,ifs,0⟩] scope pos) 0 (.ref it) acc {cenv with scope:=relabel scope X.env}) (RR acc cenv.locals) s₄) E s₃) E s:=by
 refine wpAny_newObj_type (znd ?_);have sz1:(s.heap.push {cls:=.type "list",dict:=none,data:=.seq ([]:List Value).toArray}).objs.size=s.heap.objs.size+1:=Heap.size_push ..;dsimp only;rw [sz1];have hlt:∀ b∈fp,b<s.heap.objs.size:=fun b hb=>by obtain ⟨o,e,_⟩:=T.obj _ _ st0 b hb;exact Heap.lt_size e
 have I1:=Inv.comp (tn:=tn) (lo:=zmz [] 0) (tk:=s.toks) I hk C hN (fun b hb=>⟨f0 b hb,hlt b hb⟩) rfl (fun v z=>by cases z) rfl rfl;have stat:∀ {H':Hp} {q:List (Addr×Obj)},(∀ p∈q,s.heap.objs.size<=p.1)->(∀ b∈fp,H' b=none)->∀ b∈fp,zpf (cxC X N scope fp (s.heap.objs.size+1) s H) q H' b:=fun {H' q} hq hn b hb=>by
  obtain ⟨g0,g1,g2,g3,g4,g5⟩:=f0 b hb;refine ⟨hn b hb,Nat.ne_of_lt (Nat.lt_succ_of_lt (hlt b hb)),fun z=>?_,.inl hb,(I1.ok.exf b hb).2,fun p hp z=>?_⟩
  ·rcases List.mem_cons.mp (I.stkSub b z) with e|e
   ·exact g1 e
   ·exact g2 e
  ·have:=hq p hp;rw [z] at this;exact absurd (hlt b hb) (Nat.not_lt.mpr this)
 have onlyD:∀ {its:List Value} {n:Nat},∀ p∈[(s.heap.objs.size,zmz its n)],s.heap.objs.size<=p.1:=fun {its n} p hp=>by
  rw [List.mem_singleton] at hp;subst hp;exact Nat.le_refl _
 have run:∀ s3:Shared,s3= {s with heap:=pushCells ((s.heap.push (zmz [] 0)).push {cls:=.type "dict",data:=.dict #[]}) scope.names}->
   codeAny (model X.prog X.w) X.A (.compLoop (.ListComp elt [⟨tg,iter,ifs,0⟩] scope pos) 0 (.ref it) (.ref s.heap.objs.size) (cxC X N scope fp (s.heap.objs.size+1) s H).env) (RR (.ref s.heap.objs.size) (s.heap.objs.size+1)) s3:=by
  rintro s3 rfl
  refine zrc (fun n s'=>∃ i ys σ' H' its nn,Inv (cxC X N scope fp (s.heap.objs.size+1) s H) [(s.heap.objs.size,zmz its nn)] σ' H' s'/\Vals ys its/\st i s'.heap/\(∀ b∈fp,H' b=none)/\σ'=List.replicate tn.length none++σ/\W i n ys H') ?_ m0
   ⟨0,[],_,H,[],0,I1,.nil,T.keep _ _ _ st0 (fun b hb o e=>pushCells_keeps _ _ _ _ (Heap.get?_push_of_some _ (Heap.get?_push_of_some _ e))),fun b hb=>(f0 b hb).1,rfl,w0⟩
  rintro n s4 ⟨i,ys,σ4,H4,its,nn,I4,r4,st4,fr4,rfl,w4⟩;rcases turn i n ys H4 w4 with ⟨stop,hz,q⟩|⟨go,hz,N4,hN4,step⟩
  ·refine thn (T.done (cxC X N scope fp (s.heap.objs.size+1) s H) rfl rfl rfl hc i _ s4 _ H4 noX I4 (stat onlyD fr4) st4 stop) fun rr s5 ⟨hr,I5⟩=>?_;subst hr;obtain ⟨m,hn,_⟩:=id I5.loc;refine hRR s5 m hn fun h' hs=>?_;obtain ⟨hD,I6⟩:=Inv.compDone I f0 I5 r4 hz hs;exact ⟨_,I6,(upd_ne (Nat.ne_of_gt (Nat.lt_succ_self _))).trans I5.free,q _ hD⟩
  ·refine thn (T.item (cxC X N scope fp (s.heap.objs.size+1) s H) rfl rfl rfl hc i _ s4 _ H4 noX I4 (stat onlyD fr4) st4 go) fun rr s5 ⟨u,hr,h5⟩=>?_;subst hr;refine thn h5 fun _ s6 zz=>?_;obtain ⟨x,H6,I6,r6,y6,st6,fr6⟩:=zz;have I6':=I6.pinned (stat onlyD fr6) (T.obj _ _ st6);refine thn (hg fp _ s H _ s6 _ H6 x u _ I6' r6 (step x H6 y6)) fun _ s7 ⟨σ7,H7,I7,⟨d7,l7⟩,q7⟩=>?_;refine thn (ht fp _ s H _ s7 σ7 H7 _ I7 q7) fun ok s8 zz=>?_;obtain ⟨H8,I8,q8⟩:=zz
   have again:∀ {q:List (Addr×Obj)} {s9:Shared} {H9:Hp} {its9:List Value} {nn9:Nat} {ys9:List V},Inv (cxC X N scope fp (s.heap.objs.size+1) s H) ([(s.heap.objs.size,zmz its9 nn9)]++pinsAt fp s6.heap) σ7 H9 s9->Vals ys9 its9->N4 ys9 H9->
     ∃ m,m<n/\∃ i ys σ' H' its nn,Inv (cxC X N scope fp (s.heap.objs.size+1) s H) [(s.heap.objs.size,zmz its nn)] σ' H' s9/\Vals ys its/\st i s9.heap/\(∀ b∈fp,H' b=none)/\σ'=List.replicate tn.length none++σ/\W i m ys H':=fun {q s9 H9 its9 nn9 ys9} I9 r9 n9=>by
    obtain ⟨m',hm,w9⟩:=hN4 ys9 H9 n9;refine ⟨m',hm,i+1,ys9,_,H9,its9,nn9,I9.unpinned.weak ?_ ?_,r9,T.keep _ _ _ st6 fun b hb o e=>(I9.pin (b,o) (List.mem_append_right _ (List.mem_append_right _ (ze6 hb e)))).1,fun b hb=>?_,rfl,w9⟩
    ·rw [List.length_append,List.length_replicate,l7]
    ·intro j v e;by_cases hj:j<tn.length
     ·rw [List.getElem?_append_left (by simpa using hj),List.getElem?_replicate] at e;split at e<;>cases e
     ·rw [List.getElem?_append_right (by simpa using Nat.le_of_not_lt hj),List.length_replicate,<-d7,List.getElem?_drop] at e;rw [<-e];congr 1;omega
    ·obtain ⟨o,e,d⟩:=T.obj _ _ st6 b hb;exact (I9.pin (b,o) (List.mem_append_right _ (List.mem_append_right _ (ze6 hb e)))).2.1
   cases ok with
   |false=>exact again (q:=[]) I8 r4 q8
   |true=>
    refine thn (he fp _ s H _ s8 σ7 H8 _ I8 q8) fun v s9 zz=>?_;obtain ⟨y,H9,I9,r9,q9⟩:=zz;have pl:s9.heap.PlainList s.heap.objs.size its.toArray:=⟨nn,(I9.pin (s.heap.objs.size,zmz its nn) (by simp)).1⟩;have len4:=r4.length;refine wpAny_list_append_plain (hsz:=by rw [List.size_toArray,<-len4];exact hz) pl fun h' ⟨nn',e'⟩ sb=>?_;obtain ⟨z1,z2,z3,z4,z5⟩:=I9.pin (s.heap.objs.size,zmz its nn) (by simp);have neD:∀ p∈pinsAt fp s6.heap,p.1≠s.heap.objs.size:=fun p hp z=>by
     have:=hlt p.1 (zkn hp).1;rw [z] at this;exact absurd this (Nat.lt_irrefl _)
    have Ia:Inv (cxC X N scope fp (s.heap.objs.size+1) s H) (pinsAt fp s6.heap) σ7 H9 s9:=I9.pins_of fun p hp=>I9.pin p (List.mem_append_right _ (List.mem_append_right _ hp))
    have Ib:Inv (cxC X N scope fp (s.heap.objs.size+1) s H) (pinsAt fp s6.heap) σ7 H9 {s9 with heap:=h'}:=Ia.turned (t':=s9.toks) (it:=s.heap.objs.size) (fun b o hb e=>(sb.2 b hb).trans e) z2 z3 (.inr (Nat.le_refl _))
     (fun x c e z=>by
      obtain ⟨v',oc,ho,hd⟩:=Ia.cell x c e;rw [z] at ho;have z1':s9.heap.get? s.heap.objs.size=some (zmz its nn):=z1;rw [z1'] at ho;have ho':=Option.some.inj ho;rw [<-ho'] at hd;cases hd) (fun p hp=>neD p hp)
    refine again (q:=[]) (its9:=its++[v]) (nn9:=nn') (Ib.pins_of fun p hp=>?_) (r4.append (.cons r9 .nil)) q9;rcases List.mem_append.mp hp with hp|hp
    ·rw [List.mem_singleton] at hp;subst hp;refine ⟨?_,z2,z3,z4,fun v z=>by cases z⟩;show h'.get? s.heap.objs.size=some (zmz (its++[v]) nn')
     rw [e'];simp
    ·exact Ib.pin p (List.mem_append_right _ hp)
 exact codeAny_compStart_list (run _ rfl) (T.self _ 0 _ _ _ (T.keep _ _ _ st0 (fun b hb o e=>pushCells_keeps _ _ _ _ (Heap.get?_push_of_some _ (Heap.get?_push_of_some _ e)))) (run _ rfl))
end
section
variable {X:Cx}{N R tn:List Str}{scope:Scope}{pos:Pos}{tg elt iter:Expr}{ifs:List Expr}{wi:TI}{g:TG}{tc:TT}{te:TE}
theorem zkC {R NX:List Str}{inner outer:List (Str×NameKind)}(C:CompOk R NX inner outer):∀ x∈inner,x.2= .local->inner.lookup x.1=some .local:=fun x hx e=>by
 obtain ⟨n,k⟩:=x;have e':k= .local:=e;subst e';exact zb6 C.nd hx
theorem zrf (hc:X.calm=true)(hi:PI X tg iter wi)(hN:N=tn++R)(hch:zeJ R X.N scope.names X.env.scope.names=true)
  (hg:∀ fp L s H,PG (cxC X N scope fp L s H) tg g)(ht:∀ fp L s H,PCl (cxC X N scope fp L s H) ifs tc)(he:∀ fp L s H,PE (cxC X N scope fp L s H) elt te)
  (hk:scope.kind= .function:=by rfl)(hs:∀ x,foldedSetIterable iter X.env x=pure x:=by intro _;rfl):PE X (.ListComp elt [⟨tg,iter,ifs,0⟩] scope pos) (zpv wi tn.length g tc te):=by
 intro pins s σ H Q I h;have C:=zja hch;rw [eval_ListComp];refine wpAny_comprehension_free (use:=none) rfl hs (zfX (I.closHas C.fr)) hk (zkC C) (thn (hi pins s σ H _ I h) fun v s1 h1=>thn h1 fun itv s2 h2=>?_);obtain ⟨it,fp,st,J,H2,e,I2,T,st2,f2,W,⟨m0,w0⟩,turn⟩:=h2;subst e;refine zmA (Q:=Q) (RR:=fun acc C=>compPost (model X.prog X.w) X.A X.xe none (EP X pins σ Q) acc C) hc hk C hN hg ht he I2 T st2 f2 W m0 w0 turn fun s' m hn q=>?_;exact ⟨m,hn,fun h' hs'=>let ⟨H',I',_,q'⟩:=q h' hs';⟨.ref s2.heap.objs.size,H',I',rfl,q'⟩⟩
theorem zlK {i:Nat}{y:Str}{py spos:Pos}(hc:X.calm=true)(hX:X.N.Nodup)(hy:X.N[i]? =some y)(hl:Loc X.env.scope y)(hi:PI X tg iter wi)(hN:N=tn++R)(hch:zeJ R X.N scope.names X.env.scope.names=true)
  (hg:∀ fp L s H,PG (cxC X N scope fp L s H) tg g)(ht:∀ fp L s H,PCl (cxC X N scope fp L s H) ifs tc)(he:∀ fp L s H,PE (cxC X N scope fp L s H) elt te)
  (hsw:swapsWith (.ListComp elt [⟨tg,iter,ifs,0⟩] scope pos) (some (.Name y py)) spos.line X.env=pure true:=by rfl)
  (hf:X.fn y=true\/X.env.scope.names.lookup y=some .local:=by first|exact .inl rfl|exact .inr rfl|assumption)
  (hk:scope.kind= .function:=by rfl)(hs:∀ x,foldedSetIterable iter X.env x=pure x:=by intro _;rfl):PS X (.Assign [.Name y py] (.ListComp elt [⟨tg,iter,ifs,0⟩] scope pos) spos) (zt3 (zpv wi tn.length g tc te) (ziL i)):=by
 intro pins s σ H D I h;have C:=zja hch;rw [exec_Assign_Name_used _ _ _ _ hsw];refine wpAny_bind (wpAny_standAt (wpAny_bind ?_));show wpAny _ X.A (do let _ <-comprehension (.ListComp elt [⟨tg,iter,ifs,0⟩] scope pos) scope X.env _ (newList []) false (eval iter X.env) (some (assign (.Name y py) X.env))) _ _ s
 refine wpAny_bind (wpAny_mono (wpAny_comprehension_free (use:=some (assign (.Name y py) X.env)) (Q:=fun _ s'=>SP X pins D .next s') rfl hs (zfX (I.closHas C.fr)) hk (zkC C)
  (thn (hi pins s σ H _ I h) fun v s1 h1=>thn h1 fun itv s2 h2=>?_)) (fun _ s' hq=>wpAny_pure (wpAny_pure hq)) fun _ _ e=>e)
 obtain ⟨it,fp,st,J,H2,e,I2,T,st2,f2,W,⟨m0,w0⟩,turn⟩:=h2;subst e;refine zmA (Q:=fun x H'=>ziL i x σ H' D.nx) (RR:=fun acc C=>compPost (model X.prog X.w) X.A X.xe (some (assign (.Name y py) X.env)) (fun _ s'=>SP X pins D .next s') acc C) hc hk C hN hg ht he I2 T st2 f2 W m0 w0 turn fun s' m hn q=>?_;obtain ⟨H3,I3,hH,q3⟩:=q s'.heap (Heap.SameBut.refl ..);have q3:D.nx (σ.set i (some (.ref s2.heap.objs.size))) H3:=q3;show wpAny _ X.A (assign (.Name y py) X.env (.ref s2.heap.objs.size)) _ _ s'
 refine wpAny_assign_Name (zkk (v:=.ref s2.heap.objs.size) I3 hX hy hl rfl (fun s4 I4 zz=>?_) hf);obtain ⟨a,sb,ha⟩:=zz;have below:∀ b o,s2.heap.get? b=some o->b<s2.heap.objs.size+1:=fun b o e=>Nat.lt_succ_of_lt (Heap.lt_size e);obtain ⟨m2,⟨oL,_,_,hoL,_⟩,_⟩:=id I2.loc;have aL:X.env.locals≠s2.heap.objs.size+1:=Nat.ne_of_lt (below _ _ hoL);have aC:∀ x c,X.env.cells.lookup x=some c->c≠s2.heap.objs.size+1:=fun x c e=>by
  obtain ⟨v,oc,ho,_⟩:=I2.cell x c e;exact Nat.ne_of_lt (below _ _ ho)
 have ne:s2.heap.objs.size+1≠a:=by
  rcases ha with z|z
  ·rw [z];exact Ne.symm aL
  ·exact Ne.symm (aC _ _ z)
 refine ⟨m,hn.sameBut sb ne,fun h' hs'=>⟨_,H3,I4.turned (t':=s4.toks) (it:=s2.heap.objs.size+1) (fun b o hb e=>(hs'.2 b hb).trans e) hH (Ne.symm aL) (.inr (Nat.le_trans I2.sz (Nat.le_succ _))) aC (fun p hp=>?_),q3⟩⟩;exact Nat.ne_of_lt (below _ _ (I2.pin p hp).1)
end
end L2
namespace VL
open PySem PySem.Spec PyProof.Rows L2
inductive D where
 |non|bl (b:Bool)|int (i:Int)|str (x:Str)|tup (xs:List D)|lst (xs:List D)
inductive FD where
 |non|int (i:Int)|tup (is:List Int)
 deriving DecidableEq
inductive Md where
 |sh|o1|ow
  |oa (a:Addr)
  |dw (t:Bool)(kvs:List (List Int×FD))|ds (t:Bool)(kvs:List (List Int×FD))
 deriving DecidableEq
noncomputable def znW:Md->Bool
 | .ow=>true
 | .oa _=>true
 |_=>false
mutual
noncomputable def D.flat:D->Bool
 | .tup xs=>flats xs
 | .lst _=>false
 |_=>true
noncomputable def flats:List D->Bool
 | []=>true
 |x::r=>D.flat x&&flats r
end
mutual
noncomputable def Rep (K:PySem.W.Frag)(F H:Hp):D->V->Prop
 | .non,v=>v= .non
 | .bl b,v=>v= .bl b
 | .int i,v=>v= .int i
 | .str x,v=>v= .str x
 | .tup xs,v=>∃ a vs,v= .ref a/\SqT K H a vs/\Reps K F H xs vs
 | .lst xs,v=>∃ a vs,v= .ref a/\SqL K F a vs/\Reps K F H xs vs
noncomputable def Reps (K:PySem.W.Frag)(F H:Hp):List D->List V->Prop
 | [],vs=>vs=[]
 |x::xs,vs=>∃ v r,vs=v::r/\Rep K F H x v/\Reps K F H xs r
end
mutual
noncomputable def RepD (K:PySem.W.Frag)(F H:Hp):D->V->List Addr->Prop
 | .non,v,os=>v= .non/\os=[]
 | .bl b,v,os=>v= .bl b/\os=[]
 | .int i,v,os=>v= .int i/\os=[]
 | .str x,v,os=>v= .str x/\os=[]
 | .tup xs,v,os=>∃ a vs,v= .ref a/\SqT K H a vs/\RepDs K F H xs vs os
 | .lst xs,v,os=>∃ a vs o,v= .ref a/\os=a::o/\H a=some (.lst vs)/\F a=none/\RepDs K F H xs vs o
noncomputable def RepDs (K:PySem.W.Frag)(F H:Hp):List D->List V->List Addr->Prop
 | [],vs,os=>vs=[]/\os=[]
 |x::xs,vs,os=>∃ v r o1 o2,vs=v::r/\os=o1++o2/\RepD K F H x v o1/\RepDs K F H xs r o2
end
noncomputable def RepM (K:PySem.W.Frag)(F H:Hp):Md->D->V->List Addr->Prop
 | .sh,d,v,os=>Rep K F H d v/\os=[]
 | .o1,d,v,os=>∃ xs a vs,d= .lst xs/\v= .ref a/\os=[a]/\H a=some (.lst vs)/\F a=none/\Reps K F H xs vs
 | .ow,d,v,os=>RepD K F H d v os
 | .oa a,d,v,os=>v= .ref a/\RepD K F H d v os
 | .dw _ _,_,_,_=>False
 | .ds _ _,_,_,_=>False
noncomputable def Tp (K:PySem.W.Frag)(H H':Hp):Prop:=∀ a vs,SqT K H a vs->SqT K H' a vs
theorem Tp.of {K:PySem.W.Frag}{H H':Hp}(h:Same H H'):Tp K H H':=fun a vs q=>by
 rcases q with (q|⟨o,q⟩)|q
 ·exact .inl (.inl (h _ _ q))
 ·exact .inl (.inr ⟨o,h _ _ q⟩)
 ·exact .inr q
theorem Tp.updN {K:PySem.W.Frag}{H:Hp}{a:Addr}{u o:HO}(h:H a=some u)(n1:∀ xs,u≠ .tup xs)(n2:∀ x y,u≠ .frz x y):Tp K H (upd H a o):=fun b ws q=>by
 have ne:∀ z,H b=some z->u≠z->b≠a:=fun z e n y=>by
  rw [y,h] at e;exact n (Option.some.inj e)
 rcases q with (q|⟨o',q⟩)|q
 ·exact .inl (.inl (by rw [upd_ne (ne _ q (n1 _))];exact q))
 ·exact .inl (.inr ⟨o',by rw [upd_ne (ne _ q (n2 _ _))];exact q⟩)
 ·exact .inr q
theorem Tp.upd {K:PySem.W.Frag}{H:Hp}{a:Addr}{vs:List V}{o:HO}(h:H a=some (.lst vs)):Tp K H (upd H a o):=fun b ws q=>by
 have ne:∀ u,H b=some u->(∀ zs,u≠ .lst zs)->b≠a:=fun u e n z=>by
  rw [z,h] at e;exact n vs (Option.some.inj e).symm
 rcases q with (q|⟨o',q⟩)|q
 ·exact .inl (.inl (by rw [upd_ne (ne _ q (by intro zs z;cases z))];exact q))
 ·exact .inl (.inr ⟨o',by rw [upd_ne (ne _ q (by intro zs z;cases z))];exact q⟩)
 ·exact .inr q
section
variable {K:PySem.W.Frag}
mutual
theorem Rep.mono {F F' H H':Hp}(hF:Same F F')(hT:Tp K H H'):∀ (d:D) (v:V),Rep K F H d v->Rep K F' H' d v
 | .non,_,h=>h
 | .bl _,_,h=>h
 | .int _,_,h=>h
 | .str _,_,h=>h
 | .tup xs,v,h=>by
  unfold Rep at h ⊢;obtain ⟨a,vs,e,q,r⟩:=h;exact ⟨a,vs,e,hT a vs q,Reps.mono hF hT xs vs r⟩
 | .lst xs,v,h=>by
  unfold Rep at h ⊢;obtain ⟨a,vs,e,q,r⟩:=h;exact ⟨a,vs,e,hF.seq q,Reps.mono hF hT xs vs r⟩
theorem Reps.mono {F F' H H':Hp}(hF:Same F F')(hT:Tp K H H'):∀ (xs:List D) (vs:List V),Reps K F H xs vs->Reps K F' H' xs vs
 | [],_,h=>h
 |x::xs,vs,h=>by
  unfold Reps at h ⊢;obtain ⟨v,r,e,a,b⟩:=h;exact ⟨v,r,e,Rep.mono hF hT x v a,Reps.mono hF hT xs r b⟩
end
mutual
theorem RepD.read {F H:Hp}:∀ (d:D) (v:V) (os:List Addr),RepD K F H d v os->Rep K H H d v
 | .non,_,_,h=>h.1
 | .bl _,_,_,h=>h.1
 | .int _,_,_,h=>h.1
 | .str _,_,_,h=>h.1
 | .tup xs,v,os,h=>by
  unfold RepD at h;unfold Rep;obtain ⟨a,vs,e,q,r⟩:=h;exact ⟨a,vs,e,q,RepDs.read xs vs os r⟩
 | .lst xs,v,os,h=>by
  unfold RepD at h;unfold Rep;obtain ⟨a,vs,o,e,_,q,_,r⟩:=h;exact ⟨a,vs,e,SqL.of q,RepDs.read xs vs o r⟩
theorem RepDs.read {F H:Hp}:∀ (xs:List D) (vs:List V) (os:List Addr),RepDs K F H xs vs os->Reps K H H xs vs
 | [],_,_,h=>h.1
 |x::xs,vs,os,h=>by
  unfold RepDs at h;unfold Reps;obtain ⟨v,r,o1,o2,e,_,a,b⟩:=h;exact ⟨v,r,e,RepD.read x v o1 a,RepDs.read xs r o2 b⟩
end
mutual
theorem RepD.stay {F F' H H':Hp}(hT:Tp K H H'):∀ (d:D) (v:V) (os:List Addr),RepD K F H d v os->(∀ a∈os,H' a=H a/\F' a=none)->RepD K F' H' d v os
 | .non,_,_,h,_=>h
 | .bl _,_,_,h,_=>h
 | .int _,_,_,h,_=>h
 | .str _,_,_,h,_=>h
 | .tup xs,v,os,h,k=>by
  unfold RepD at h ⊢;obtain ⟨a,vs,e,q,r⟩:=h;exact ⟨a,vs,e,hT a vs q,RepDs.stay hT xs vs os r k⟩
 | .lst xs,v,os,h,k=>by
  unfold RepD at h ⊢;obtain ⟨a,vs,o,e,eo,q,f,r⟩:=h;subst eo;exact ⟨a,vs,o,e,rfl,(k a List.mem_cons_self).1.trans q,(k a List.mem_cons_self).2,RepDs.stay hT xs vs o r fun b hb=>k b (List.mem_cons_of_mem _ hb)⟩
theorem RepDs.stay {F F' H H':Hp}(hT:Tp K H H'):∀ (xs:List D) (vs:List V) (os:List Addr),RepDs K F H xs vs os->(∀ a∈os,H' a=H a/\F' a=none)->RepDs K F' H' xs vs os
 | [],_,_,h,_=>h
 |x::xs,vs,os,h,k=>by
  unfold RepDs at h ⊢;obtain ⟨v,r,o1,o2,e,eo,a,b⟩:=h;subst eo;exact ⟨v,r,o1,o2,e,rfl,RepD.stay hT x v o1 a fun c hc=>k c (List.mem_append_left _ hc),RepDs.stay hT xs r o2 b fun c hc=>k c (List.mem_append_right _ hc)⟩
end
mutual
theorem RepD.there {F H:Hp}:∀ (d:D) (v:V) (os:List Addr),RepD K F H d v os->∀ a∈os,F a=none/\∃ vs,H a=some (.lst vs)
 | .non,_,_,h=>by rw [h.2];simp
 | .bl _,_,_,h=>by rw [h.2];simp
 | .int _,_,_,h=>by rw [h.2];simp
 | .str _,_,_,h=>by rw [h.2];simp
 | .tup xs,v,os,h=>by
  unfold RepD at h;obtain ⟨a,vs,e,q,r⟩:=h;exact RepDs.there xs vs os r
 | .lst xs,v,os,h=>by
  unfold RepD at h;obtain ⟨a,vs,o,e,eo,q,f,r⟩:=h;subst eo;intro b hb;rcases List.mem_cons.mp hb with z|z
  ·subst z;exact ⟨f,vs,q⟩
  ·exact RepDs.there xs vs o r b z
theorem RepDs.there {F H:Hp}:∀ (xs:List D) (vs:List V) (os:List Addr),RepDs K F H xs vs os->∀ a∈os,F a=none/\∃ vs,H a=some (.lst vs)
 | [],_,_,h=>by rw [h.2];simp
 |x::xs,vs,os,h=>by
  unfold RepDs at h;obtain ⟨v,r,o1,o2,e,eo,a,b⟩:=h;subst eo;intro c hc;rcases List.mem_append.mp hc with z|z
  ·exact RepD.there x v o1 a c z
  ·exact RepDs.there xs r o2 b c z
end
mutual
theorem RepD.give {F F' H:Hp}:∀ (d:D) (v:V) (os:List Addr),RepD K F H d v os->(∀ a∈os,F' a=H a)->Rep K F' H d v
 | .non,_,_,h,_=>h.1
 | .bl _,_,_,h,_=>h.1
 | .int _,_,_,h,_=>h.1
 | .str _,_,_,h,_=>h.1
 | .tup xs,v,os,h,k=>by
  unfold RepD at h;unfold Rep;obtain ⟨a,vs,e,q,r⟩:=h;exact ⟨a,vs,e,q,RepDs.give xs vs os r k⟩
 | .lst xs,v,os,h,k=>by
  unfold RepD at h;unfold Rep;obtain ⟨a,vs,o,e,eo,q,f,r⟩:=h;subst eo;exact ⟨a,vs,e,SqL.of ((k a List.mem_cons_self).trans q),RepDs.give xs vs o r fun b hb=>k b (List.mem_cons_of_mem _ hb)⟩
theorem RepDs.give {F F' H:Hp}:∀ (xs:List D) (vs:List V) (os:List Addr),RepDs K F H xs vs os->(∀ a∈os,F' a=H a)->Reps K F' H xs vs
 | [],_,_,h,_=>h.1
 |x::xs,vs,os,h,k=>by
  unfold RepDs at h;unfold Reps;obtain ⟨v,r,o1,o2,e,eo,a,b⟩:=h;subst eo;exact ⟨v,r,e,RepD.give x v o1 a fun c hc=>k c (List.mem_append_left _ hc),RepDs.give xs r o2 b fun c hc=>k c (List.mem_append_right _ hc)⟩
end
mutual
theorem Rep.own {F H F':Hp}:∀ (d:D) (v:V),Rep K F H d v->d.flat=true->RepD K F' H d v []
 | .non,_,h,_=>⟨h,rfl⟩
 | .bl _,_,h,_=>⟨h,rfl⟩
 | .int _,_,h,_=>⟨h,rfl⟩
 | .str _,_,h,_=>⟨h,rfl⟩
 | .tup xs,v,h,f=>by
  unfold Rep at h;unfold RepD;unfold D.flat at f;obtain ⟨a,vs,e,q,r⟩:=h;exact ⟨a,vs,e,q,Reps.own xs vs r f⟩
 | .lst xs,v,h,f=>by
  unfold D.flat at f;cases f
theorem Reps.own {F H F':Hp}:∀ (xs:List D) (vs:List V),Reps K F H xs vs->flats xs=true->RepDs K F' H xs vs []
 | [],_,h,_=>⟨h,rfl⟩
 |x::xs,vs,h,f=>by
  unfold Reps at h;unfold RepDs;unfold flats at f;rw [Bool.and_eq_true] at f;obtain ⟨v,r,e,a,b⟩:=h;exact ⟨v,r,[],[],e,rfl,Rep.own x v a f.1,Reps.own xs r b f.2⟩
end
mutual
theorem Rep.flatF {F H F':Hp}:∀ (d:D) (v:V),Rep K F H d v->d.flat=true->Rep K F' H d v
 | .non,_,h,_=>h
 | .bl _,_,h,_=>h
 | .int _,_,h,_=>h
 | .str _,_,h,_=>h
 | .tup xs,v,h,f=>by
  unfold Rep at h ⊢;unfold D.flat at f;obtain ⟨a,vs,e,q,r⟩:=h;exact ⟨a,vs,e,q,Reps.flatF xs vs r f⟩
 | .lst xs,v,h,f=>by
  unfold D.flat at f;cases f
theorem Reps.flatF {F H F':Hp}:∀ (xs:List D) (vs:List V),Reps K F H xs vs->flats xs=true->Reps K F' H xs vs
 | [],_,h,_=>h
 |x::xs,vs,h,f=>by
  unfold Reps at h ⊢;unfold flats at f;rw [Bool.and_eq_true] at f;obtain ⟨v,r,e,a,b⟩:=h;exact ⟨v,r,e,Rep.flatF x v a f.1,Reps.flatF xs r b f.2⟩
end
theorem RepM.read {F H:Hp}(hs:Same F H){m:Md}{d:D}{v:V}{os:List Addr}(h:RepM K F H m d v os):Rep K H H d v:=by
 cases m with
 |dw t k=>exact h.elim
 |ds t k=>exact h.elim
 |sh=>exact Rep.mono hs (Tp.of (Same.refl H)) d v h.1
 |ow=>exact RepD.read d v os h
 |oa a=>exact RepD.read d v os h.2
 |o1=>
  obtain ⟨xs,a,vs,rfl,rfl,rfl,q,f,r⟩:=h;unfold Rep;exact ⟨a,vs,rfl,SqL.of q,Reps.mono hs (Tp.of (Same.refl H)) xs vs r⟩
theorem RepM.stay {F F' H H':Hp}(hT:Tp K H H')(hF:Same F F'){m:Md}{d:D}{v:V}{os:List Addr}(h:RepM K F H m d v os)(k:∀ a∈os,H' a=H a/\F' a=none):RepM K F' H' m d v os:=by
 cases m with
 |dw t k=>exact h.elim
 |ds t k=>exact h.elim
 |sh=>exact ⟨Rep.mono hF hT d v h.1,h.2⟩
 |ow=>exact RepD.stay hT d v os h k
 |oa a=>exact ⟨h.1,RepD.stay hT d v os h.2 k⟩
 |o1=>
  obtain ⟨xs,a,vs,rfl,rfl,rfl,q,f,r⟩:=h;obtain ⟨k1,k2⟩:=k a List.mem_cons_self;exact ⟨xs,a,vs,rfl,rfl,rfl,k1.trans q,k2,Reps.mono hF hT xs vs r⟩
theorem RepM.there {F H:Hp}{m:Md}{d:D}{v:V}{os:List Addr}(h:RepM K F H m d v os):∀ a∈os,F a=none/\∃ vs,H a=some (.lst vs):=by
 cases m with
 |dw t k=>exact h.elim
 |ds t k=>exact h.elim
 |sh=>rw [h.2];simp
 |ow=>exact RepD.there d v os h
 |oa a=>exact RepD.there d v os h.2
 |o1=>
  obtain ⟨xs,a,vs,rfl,rfl,rfl,q,f,r⟩:=h;intro b hb;rw [List.mem_singleton] at hb;subst hb;exact ⟨f,vs,q⟩
theorem RepM.give {F F' H:Hp}(hF:Same F F'){m:Md}{d:D}{v:V}{os:List Addr}(h:RepM K F H m d v os)(k:∀ a∈os,F' a=H a):RepM K F' H .sh d v []:=by
 cases m with
 |dw t k=>exact h.elim
 |ds t k=>exact h.elim
 |sh=>exact ⟨Rep.mono hF (Tp.of (Same.refl H)) d v h.1,rfl⟩
 |ow=>exact ⟨RepD.give d v os h k,rfl⟩
 |oa a=>exact ⟨RepD.give d v os h.2 k,rfl⟩
 |o1=>
  obtain ⟨xs,a,vs,rfl,rfl,rfl,q,f,r⟩:=h;refine ⟨?_,rfl⟩;unfold Rep;exact ⟨a,vs,rfl,SqL.of ((k a List.mem_cons_self).trans q),Reps.mono hF (Tp.of (Same.refl H)) xs vs r⟩
theorem RepM.toD {F H:Hp}{m:Md}{d:D}{v:V}{os:List Addr}(hm:znW m=true)(h:RepM K F H m d v os):RepD K F H d v os:=by
 cases m with
 |ow=>exact h
 |oa a=>exact h.2
 |sh=>cases hm
 |dw t k=>cases hm
 |ds t k=>cases hm
 |o1=>cases hm
theorem RepM.back {F H F' H':Hp}{m:Md}{d d':D}{v:V}{os os':List Addr}(hm:znW m=true)(h:RepM K F H m d v os)(h':RepD K F' H' d' v os'):RepM K F' H' m d' v os':=by
 cases m with
 |ow=>exact h'
 |oa a=>exact ⟨h.1,h'⟩
 |sh=>cases hm
 |dw t k=>cases hm
 |ds t k=>cases hm
 |o1=>cases hm
end
noncomputable abbrev St:=L2.St
noncomputable abbrev LSt:=List (Option (Md×D))
noncomputable def RepF (K:PySem.W.Frag)(H:Hp):FD->V->Prop
 | .non,v=>v= .non
 | .int i,v=>v= .int i
 | .tup is,v=>∃ b,v= .ref b/\SqT K H b (is.map V.int)
noncomputable def DIn (K:PySem.W.Frag)(F H:Hp)(a:Addr):Bool->List (List Int×FD)->Prop
 |false,kvs=>∃ kv:List (Key×V),F a=some (.dK kv)/\Paired (fun (p:List Int×FD) (q:Key×V)=>(∃ i,p.1=[i]/\q.1=Sum.inl i)/\RepF K H p.2 q.2) kvs kv
 |true,kvs=>∃ xs:RwT,F a=some (.ext (zu6 a xs))/\Paired (fun (p:List Int×FD) (q:List Int×Addr×Value)=>p.1=q.1/\SqT K H q.2.1 (p.1.map V.int)/\∃ v,RelV v q.2.2/\RepF K H p.2 v) kvs xs
noncomputable def RepS (K:PySem.W.Frag)(F H:Hp):Md->D->V->List Addr->Prop
 | .dw t kvs,d,v,os=>d= .non/\∃ a,v= .ref a/\os=[a]/\F a=none/\DIn K H H a t kvs
 | .ds t kvs,d,v,os=>d= .non/\∃ a,v= .ref a/\os=[]/\DIn K F H a t kvs
 |m,d,v,os=>RepM K F H m d v os
noncomputable def zkD:Md->Bool
 | .dw _ _=>true
 | .ds _ _=>true
 |_=>false
section
variable {K:PySem.W.Frag}{F H F' H':Hp}{m:Md}{d:D}{v:V}{os:List Addr}
theorem RepF.mono (hT:Tp K H H'):∀ {f:FD} {v:V},RepF K H f v->RepF K H' f v
 | .non,_,h=>h
 | .int _,_,h=>h
 | .tup is,_,h=>let ⟨b,e,q⟩:=h;⟨b,e,hT b _ q⟩
theorem DIn.mono {a:Addr}{t:Bool}{kvs:List (List Int×FD)}(hF:F' a=F a)(hT:Tp K H H')(h:DIn K F H a t kvs):DIn K F' H' a t kvs:=by
 cases t with
 |false=>obtain ⟨kv,e,r⟩:=h;exact ⟨kv,hF.trans e,Paired.mapP r fun p q z=>⟨z.1,z.2.mono hT⟩⟩
 |true=>obtain ⟨xs,e,r⟩:=h;exact ⟨xs,hF.trans e,Paired.mapP r fun p q z=>⟨z.1,hT _ _ z.2.1,let ⟨v,rv,rf⟩:=z.2.2;⟨v,rv,rf.mono hT⟩⟩⟩
theorem DIn.some {a:Addr}{t:Bool}{kvs:List (List Int×FD)}(h:DIn K F H a t kvs):∃ o,F a=some o/\(∀ xs,o≠ .tup xs)/\(∀ xs,o≠ .lst xs)/\∀ x y,o≠ .frz x y:=by
 cases t with
 |false=>obtain ⟨kv,e,r⟩:=h;exact ⟨_,e,(fun _ z=>by cases z),(fun _ z=>by cases z),(fun _ _ z=>by cases z)⟩
 |true=>obtain ⟨kv,e,r⟩:=h;exact ⟨_,e,(fun _ z=>by cases z),(fun _ z=>by cases z),(fun _ _ z=>by cases z)⟩
theorem DIn.same {a:Addr}{t:Bool}{kvs:List (List Int×FD)}(hF:Same F F')(hT:Tp K H H')(h:DIn K F H a t kvs):DIn K F' H' a t kvs:=by
 obtain ⟨o,e,_⟩:=h.some;exact h.mono ((hF _ _ e).trans e.symm) hT
theorem RepS.of (h:RepM K F H m d v os):RepS K F H m d v os:=by
 cases m with
 |dw t k=>exact h.elim
 |ds t k=>exact h.elim
 |sh=>exact h
 |o1=>exact h
 |ow=>exact h
 |oa a=>exact h
theorem RepS.toM' (hm:zkD m=false\/d≠ .non)(h:RepS K F H m d v os):RepM K F H m d v os:=by
 cases m with
 |dw t k=>exact hm.elim (fun z=>by cases z) fun z=>(z h.1).elim
 |ds t k=>exact hm.elim (fun z=>by cases z) fun z=>(z h.1).elim
 |sh=>exact h
 |o1=>exact h
 |ow=>exact h
 |oa a=>exact h
theorem RepS.toMl {xs:List D}(h:RepS K F H m (.lst xs) v os):RepM K F H m (.lst xs) v os:=by
 cases m with
 |dw t k=>cases h.1
 |ds t k=>cases h.1
 |sh=>exact h
 |o1=>exact h
 |ow=>exact h
 |oa a=>exact h
theorem RepS.stay (hT:Tp K H H')(hF:Same F F')(h:RepS K F H m d v os)(k:∀ a∈os,H' a=H a/\F' a=none):RepS K F' H' m d v os:=by
 cases m with
 |dw t kvs=>
  obtain ⟨e,a,e1,e2,f,h⟩:=h;subst e2;obtain ⟨k1,k2⟩:=k a List.mem_cons_self;exact ⟨e,a,e1,rfl,k2,h.mono k1 hT⟩
 |ds t kvs=>
  obtain ⟨e,a,e1,e2,h⟩:=h;exact ⟨e,a,e1,e2,h.same hF hT⟩
 |sh=>exact RepM.stay (m:=.sh) hT hF h k
 |o1=>exact RepM.stay (m:=.o1) hT hF h k
 |ow=>exact RepM.stay (m:=.ow) hT hF h k
 |oa a=>exact RepM.stay (m:=.oa a) hT hF h k
theorem RepS.there (h:RepS K F H m d v os):∀ a∈os,F a=none/\∃ o,H a=some o/\(∀ xs,o≠ .tup xs)/\∀ x y,o≠ .frz x y:=by
 have lt:(∀ a∈os,F a=none/\∃ vs,H a=some (.lst vs))->∀ a∈os,F a=none/\∃ o,H a=some o/\(∀ xs,o≠ .tup xs)/\∀ x y,o≠ .frz x y:=fun z a ha=>by
  obtain ⟨f,vs,q⟩:=z a ha;exact ⟨f,_,q,(fun _ z=>by cases z),(fun _ _ z=>by cases z)⟩
 cases m with
 |dw t kvs=>
  obtain ⟨e,a,e1,e2,f,h⟩:=h;intro b hb;rw [e2,List.mem_singleton] at hb;subst hb;obtain ⟨o,q,n1,_,n3⟩:=h.some;exact ⟨f,o,q,n1,n3⟩
 |ds t kvs=>obtain ⟨e,a,e1,e2,h⟩:=h;rw [e2];intro b hb;cases hb
 |sh=>exact lt (RepM.there (m:=.sh) h)
 |o1=>exact lt (RepM.there (m:=.o1) h)
 |ow=>exact lt (RepM.there (m:=.ow) h)
 |oa a=>exact lt (RepM.there (m:=.oa a) h)
end
structure OkO (K:PySem.W.Frag)(F H:Hp)(st:LSt)(σ:St)(O:Nat->List Addr):Prop where
 len:σ.length=st.length
 sub:Same F H
 rep:∀ (i:Nat) m d,st[i]? =some (some (m,d))->∃ v,σ[i]? =some (some v)/\RepS K F H m d v (O i)
 nd:∀ i,(O i).Nodup
 dj:∀ i j a,a∈O i->a∈O j->i=j
 emp:∀ (i:Nat),(∀ m d,st[i]? ≠some (some (m,d)))->O i=[]
noncomputable def Ok (K:PySem.W.Frag)(F H:Hp)(st:LSt)(σ:St):Prop:=∃ O,OkO K F H st σ O
structure Gr (F H F' H':Hp):Prop where
 same:Same H H'
 ff:∀ b o,H b=some o->F' b=F b
 sub:Same F' H'
theorem Gr.refl {F H:Hp}(h:Same F H):Gr F H F H:=⟨Same.refl _,fun _ _ _=>rfl,h⟩
theorem Gr.fsame {F H F' H':Hp}(g:Gr F H F' H')(hs:Same F H):Same F F':=fun b o e=>(g.ff b o (hs b o e)).trans e
theorem Gr.trans {F H F1 H1 F2 H2:Hp}(a:Gr F H F1 H1)(b:Gr F1 H1 F2 H2):Gr F H F2 H2:=
 ⟨a.same.trans b.same,fun c o e=>(b.ff c o (a.same c o e)).trans (a.ff c o e),b.sub⟩
theorem Gr.of {F H H':Hp}(hs:Same F H)(h:Same H H'):Gr F H F H':=⟨h,fun _ _ _=>rfl,hs.trans h⟩
section
variable {K:PySem.W.Frag}{F H F' H':Hp}{st:LSt}{σ:St}{O:Nat->List Addr}
theorem OkO.there (ok:OkO K F H st σ O){i:Nat}{a:Addr}(ha:a∈O i):F a=none/\∃ o,H a=some o:=by
 by_cases q:∃ m d,st[i]? =some (some (m,d))
 ·obtain ⟨m,d,q⟩:=q;obtain ⟨v,_,r⟩:=ok.rep i m d q;obtain ⟨f,o,q,_⟩:=r.there a ha;exact ⟨f,o,q⟩
 ·rw [ok.emp i fun m d e=>q ⟨m,d,e⟩] at ha;cases ha
theorem OkO.thereN (ok:OkO K F H st σ O){i:Nat}{a:Addr}(ha:a∈O i):∃ o,H a=some o/\(∀ xs,o≠ .tup xs)/\∀ x y,o≠ .frz x y:=by
 by_cases q:∃ m d,st[i]? =some (some (m,d))
 ·obtain ⟨m,d,q⟩:=q;obtain ⟨v,_,r⟩:=ok.rep i m d q;exact (r.there a ha).2
 ·rw [ok.emp i fun m d e=>q ⟨m,d,e⟩] at ha;cases ha
theorem OkO.repM (ok:OkO K F H st σ O)(i:Nat)(m:Md)(d:D)(e:st[i]? =some (some (m,d)))(hm:zkD m=false\/d≠ .non:=by first|exact .inl rfl|exact .inr (fun z=>by cases z)):∃ v,σ[i]? =some (some v)/\RepM K F H m d v (O i):=let ⟨v,e1,r⟩:=ok.rep i m d e;⟨v,e1,r.toM' hm⟩
theorem OkO.repL (ok:OkO K F H st σ O)(i:Nat)(m:Md)(xs:List D)(e:st[i]? =some (some (m,.lst xs))):∃ v,σ[i]? =some (some v)/\RepM K F H m (.lst xs) v (O i):=let ⟨v,e1,r⟩:=ok.rep i m _ e;⟨v,e1,r.toMl⟩
theorem OkO.stay (ok:OkO K F H st σ O)(hT:Tp K H H')(hF:Same F F')(hs:Same F' H')(k:∀ i,∀ a∈O i,H' a=H a/\F' a=none):OkO K F' H' st σ O:=
 ⟨ok.len,hs,fun i m d e=>let ⟨v,e1,r⟩:=ok.rep i m d e;⟨v,e1,r.stay hT hF (k i)⟩,ok.nd,ok.dj,ok.emp⟩
theorem OkO.grow (ok:OkO K F H st σ O)(g:Gr F H F' H'):OkO K F' H' st σ O:=ok.stay (Tp.of g.same) (g.fsame ok.sub) g.sub fun i a ha=>by
 obtain ⟨f,vs,q⟩:=ok.there ha;exact ⟨(g.same _ _ q).trans q.symm,(g.ff _ _ q).trans f⟩
theorem OkO.drop (ok:OkO K F H st σ O)(i:Nat):OkO K F H (st.set i none) σ fun j=>if j=i then [] else O j:=by
 have e0:∀ (j:Nat) m d,(st.set i none)[j]? =some (some (m,d))->j≠i/\st[j]? =some (some (m,d)):=fun j m d e=>by
  by_cases hj:j=i
  ·subst hj;rw [List.getElem?_set] at e;simp at e
  ·rw [List.getElem?_set_ne (Ne.symm hj)] at e;exact ⟨hj,e⟩
 refine ⟨by rw [List.length_set];exact ok.len,ok.sub,fun j m d e=>?_,fun j=>?_,fun j k a ha hb=>?_,fun j hj=>?_⟩
 ·obtain ⟨n,e⟩:=e0 j m d e;show ∃ v,σ[j]? =some (some v)/\RepS K F H m d v (if j=i then [] else O j)
  rw [if_neg n];exact ok.rep j m d e
 ·show (if j=i then [] else O j).Nodup
  split
  ·exact List.nodup_nil
  ·exact ok.nd j
 ·have ha:a∈(if j=i then [] else O j):=ha;have hb:a∈(if k=i then [] else O k):=hb;split at ha
  ·cases ha
  ·split at hb
   ·cases hb
   ·exact ok.dj j k a ha hb
 ·show (if j=i then [] else O j)=[]
  split
  ·rfl
  ·rename_i n;refine ok.emp j fun m d e=>hj m d ?_;rw [List.getElem?_set_ne (Ne.symm n)];exact e
theorem OkO.set (ok:OkO K F H st σ O){i:Nat}{m:Md}{d:D}{v:V}{os:List Addr}(hi:i<st.length)(r:RepS K F H m d v os)(nd:os.Nodup)(sep:∀ j,j≠i->∀ a∈os,a∉O j):
  OkO K F H (st.set i (some (m,d))) (σ.set i (some v)) fun j=>if j=i then os else O j:=by
 have hiσ:i<σ.length:=by rw [ok.len];exact hi
 refine ⟨by rw [List.length_set,List.length_set];exact ok.len,ok.sub,fun j m' d' e=>?_,fun j=>?_,fun j k a ha hb=>?_,fun j hj=>?_⟩
 ·show ∃ v',(σ.set i (some v))[j]? =some (some v')/\RepS K F H m' d' v' (if j=i then os else O j)
  by_cases hji:j=i
  ·subst hji;rw [List.getElem?_set_self hi] at e;have e':=Option.some.inj (Option.some.inj e);have e1:m=m':=congrArg Prod.fst e';have e2:d=d':=congrArg Prod.snd e';subst e1 e2;exact ⟨v,List.getElem?_set_self hiσ,by rw [if_pos rfl];exact r⟩
  ·rw [List.getElem?_set_ne (Ne.symm hji)] at e ⊢;rw [if_neg hji];exact ok.rep j m' d' e
 ·show (if j=i then os else O j).Nodup
  split
  ·exact nd
  ·exact ok.nd j
 ·have ha:a∈(if j=i then os else O j):=ha;have hb:a∈(if k=i then os else O k):=hb;by_cases hji:j=i
  ·rw [if_pos hji] at ha;by_cases hki:k=i
   ·rw [hji,hki]
   ·rw [if_neg hki] at hb;exact (sep k hki a ha hb).elim
  ·rw [if_neg hji] at ha;by_cases hki:k=i
   ·rw [if_pos hki] at hb;exact (sep j hji a hb ha).elim
   ·rw [if_neg hki] at hb;exact ok.dj j k a ha hb
 ·show (if j=i then os else O j)=[]
  by_cases hji:j=i
  ·subst hji;exact absurd (List.getElem?_set_self hi) (hj m d)
  ·rw [if_neg hji];refine ok.emp j fun m' d' e=>hj m' d' ?_;rw [List.getElem?_set_ne (Ne.symm hji)];exact e
theorem Ok.sub (ok:Ok K F H st σ):Same F H:=let ⟨_,o⟩:=ok;o.sub
theorem Ok.len (ok:Ok K F H st σ):σ.length=st.length:=let ⟨_,o⟩:=ok;o.len
theorem Ok.grow (ok:Ok K F H st σ)(g:Gr F H F' H'):Ok K F' H' st σ:=let ⟨O,o⟩:=ok;⟨O,o.grow g⟩
theorem Ok.same (ok:Ok K F H st σ)(h:Same H H'):Ok K F H' st σ:=ok.grow (Gr.of ok.sub h)
theorem Ok.get (ok:Ok K F H st σ){i:Nat}{m:Md}{d:D}(e:st[i]? =some (some (m,d)))(hm:zkD m=false\/d≠ .non:=by first|exact .inl rfl|exact .inr (fun z=>by cases z)):∃ v,σ[i]? =some (some v)/\Rep K H H d v:=by
 obtain ⟨O,o⟩:=ok;obtain ⟨v,e1,r⟩:=o.repM i m d e hm;exact ⟨v,e1,r.read o.sub⟩
theorem Ok.put {F₀ H₀:Hp}(ok:Ok K F₀ H₀ st σ)(g:Gr F₀ H₀ F H){i:Nat}{m:Md}{d:D}{v:V}{os:List Addr}(hi:i<st.length)(r:RepS K F H m d v os)(nd:os.Nodup)(new:∀ a∈os,H₀ a=none):Ok K F H (st.set i (some (m,d))) (σ.set i (some v)):=by
 obtain ⟨O,o⟩:=ok;refine ⟨_,(o.grow g).set hi r nd fun j _ a ha hb=>?_⟩;obtain ⟨_,vs,q⟩:=o.there hb;rw [new a ha] at q;cases q
end
noncomputable abbrev VE:=LSt->(D->Prop)->Prop
noncomputable abbrev VT:=LSt->(Bool->Prop)->Prop
noncomputable abbrev VAs:=LSt->(List D->Prop)->Prop
noncomputable abbrev VO:=LSt->(Md->D->Prop)->Prop
noncomputable def lB (K:PySem.W.Frag)(t:VE):TE:=fun σ H Q=>∃ F st Qd,Ok K F H st σ/\t st Qd/\∀ d,Qd d->∀ v H',Same H H'->Rep K H' H' d v->Q v H'
noncomputable def lT (K:PySem.W.Frag)(t:VT):TT:=fun σ H Q=>∃ F st Qd,Ok K F H st σ/\t st Qd/\∀ b,Qd b->∀ H',Same H H'->Q b H'
noncomputable def lA (K:PySem.W.Frag)(t:VAs):TA:=fun σ H Q=>∃ F st Qd,Ok K F H st σ/\t st Qd/\∀ ds,Qd ds->∀ vs H',Same H H'->Reps K H' H' ds vs->Q vs H'
noncomputable def lO (K:PySem.W.Frag)(t:VO):TE:=fun σ H Q=>∃ F st Qd,Ok K F H st σ/\t st Qd/\∀ m d,Qd m d->∀ v H' F' os,Gr F H F' H'->RepM K F' H' m d v os->os.Nodup->(∀ a∈os,H a=none)->Q v H'
noncomputable def SB (X:Cx)(e:Expr)(t:VE):Prop:=PE X e (lB X.K t)
noncomputable def ST (X:Cx)(e:Expr)(t:VT):Prop:=PT X e (lT X.K t)
noncomputable def SW (X:Cx)(e:Expr)(t:VT):Prop:=PW X e (lT X.K t)
noncomputable def SA (X:Cx)(es:List Expr)(t:VAs):Prop:=PA X es (lA X.K t)
noncomputable def SO (X:Cx)(e:Expr)(t:VO):Prop:=PE X e (lO X.K t)
section
variable {X:Cx}{a b c e:Expr}{es rest:List Expr}{ta tb:VE}{pos:Pos}
theorem PE.wk {t t':TE}(h:PE X e t)(hm:∀ σ H Q,t' σ H Q->t σ H Q):PE X e t':=fun pins s σ H Q I q=>h pins s σ H Q I (hm σ H Q q)
theorem PT.wk {t t':TT}(h:PT X e t)(hm:∀ σ H Q,t' σ H Q->t σ H Q):PT X e t':=fun pins s σ H Q I q=>h pins s σ H Q I (hm σ H Q q)
theorem PW.wk {t t':TT}(h:PW X e t)(hm:∀ σ H Q,t' σ H Q->t σ H Q):PW X e t':=fun wh pins s σ H Q I q=>h wh pins s σ H Q I (hm σ H Q q)
theorem PA.wk {t t':TA}(h:PA X es t)(hm:∀ σ H Q,t' σ H Q->t σ H Q):PA X es t':=fun p pins s σ H Q I q=>h p pins s σ H Q I (hm σ H Q q)
noncomputable def zac (i:Nat):VE:=fun st Q=>match st[i]? with
 |some (some (.dw _ _,_))=>False
 |some (some (.ds _ _,_))=>False
 |some (some (_,d))=>Q d
 |_=>False
noncomputable def vC (d:D):VE:=fun _ Q=>Q d
theorem sb_var (i:Nat){x:Str}(hN:X.N[i]? =some x:=by rfl)(hv:Vis X.env.scope x:=by first|exact Or.inl rfl|exact Or.inr (Or.inl rfl)|exact Or.inr (Or.inr rfl))(hd:(x==("__debug__":Str))=false:=by decide)
  (hcd:(x==("__classdict__":Str))=false:=by decide):SB X (.Name x pos) (zac i):=PE.wk (zdU hN hv hd hcd) fun σ H Q h=>by
 obtain ⟨F,st,Qd,ok,h,k⟩:=h;unfold zac at h;split at h
 ·exact h.elim
 ·exact h.elim
 ·rename_i m d n1 n2 e;obtain ⟨v,e1,r⟩:=ok.get e (.inl (by cases m<;>first|rfl|exact (n1 _ _ e).elim|exact (n2 _ _ e).elim|exact (n1 _ _ rfl).elim|exact (n2 _ _ rfl).elim));exact ⟨v,e1,k d h v H (Same.refl H) r⟩
 ·exact h.elim
theorem zad {i:Int}{j}:SB X (.Constant (.int i) j pos) (vC (.int i)):=PE.wk zss fun σ H Q zz=>by
 obtain ⟨F,st,Qd,ok,h,k⟩:=zz;exact k _ h _ H (Same.refl H) rfl
theorem zgP {i:Bool}{j}:SB X (.Constant (.bool i) j pos) (vC (.bl i)):=PE.wk ztT fun σ H Q zz=>by
 obtain ⟨F,st,Qd,ok,h,k⟩:=zz;exact k _ h _ H (Same.refl H) rfl
theorem zmB {j}:SB X (.Constant .none j pos) (vC .non):=PE.wk zst fun σ H Q zz=>by
 obtain ⟨F,st,Qd,ok,h,k⟩:=zz;exact k _ h _ H (Same.refl H) rfl
noncomputable abbrev V2:=D->D->(D->Prop)->Prop
noncomputable def vBin (f:V2)(ta tb:VE):VE:=fun st Q=>ta st fun d=>tb st fun e=>f d e Q
noncomputable def Lf (K:PySem.W.Frag)(f:V2)(r:R2):Prop:=∀ (H:Hp) (x y:V) (d e:D) (Qd:D->Prop) (Q:VK),Rep K H H d x->Rep K H H e y->f d e Qd->(∀ z,Qd z->∀ v H',Same H H'->Rep K H' H' z v->Q v H')->r x y H Q
theorem zmC {f:V2}{r:R2}(hf:Lf X.K f r){σ:St}{H:Hp}{Q:VK}(h:lB X.K (vBin f ta tb) σ H Q):tOp r (lB X.K ta) (lB X.K tb) σ H Q:=by
 obtain ⟨F,st,Qd,ok,h,k⟩:=h;refine ⟨F,st,_,ok,h,fun d hd v H1 s1 r1=>⟨F,st,_,ok.same s1,hd,fun e he u H2 s2 r2=>?_⟩⟩;exact hf H2 v u d e Qd Q (Rep.mono s2 (Tp.of s2) d v r1) r2 he fun z hz w H3 s3 r3=>k z hz w H3 (s1.trans (s2.trans s3)) r3
theorem zfY {op:Operator}{f:V2}{r:R2}(ho:OpR X (binaryOp op) r)(hf:Lf X.K f r)(ha:SB X a ta)(hb:SB X b tb):SB X (.BinOp a op b pos) (vBin f ta tb):=PE.wk (zq0 ho ha hb) fun _ _ _ h=>zmC hf h
theorem zkE {op:CmpOp}{f:V2}{r:R2}(ho:OpR X (compareOp op) r)(hf:Lf X.K f r)(ha:SB X a ta)(hb:SB X b tb)(hm:behindInMarks op b=false):SB X (.Compare a [op] [b] pos) (vBin f ta tb):=PE.wk (zq1 ho ha hb hm) fun _ _ _ h=>zmC hf h
noncomputable def zb4 (t:VE):VT:=fun st Q=>t st fun d=>match d with
 | .bl b=>Q b
 |_=>False
theorem zju {t:VE}{σ:St}{H:Hp}{Q:Bool->Hp->Prop}(h:lT X.K (zb4 t) σ H Q):zq2 (lB X.K t) σ H Q:=by
 obtain ⟨F,st,Qd,ok,h,k⟩:=h;refine ⟨F,st,_,ok,h,fun d hd v H1 s1 r1=>?_⟩;cases d with
 |bl b=>
  have r1:v= .bl b:=r1;exact ⟨b,r1,k b hd H1 s1⟩
 |_=>exact hd.elim
theorem zrg {f:V2}{r:R2}(hf:Lf X.K f r){σ:St}{H:Hp}{Q:Bool->Hp->Prop}(h:lT X.K (zb4 (vBin f ta tb)) σ H Q):zq2 (tOp r (lB X.K ta) (lB X.K tb)) σ H Q:=by
 have h2:=zju h;exact zmC hf h2
theorem zkF {op:CmpOp}{f:V2}{r:R2}(ho:OpR X (compareOp op) r)(hf:Lf X.K f r)(ha:SB X a ta)(hb:SB X b tb)(hm:behindInMarks op b=false):ST X (.Compare a [op] [b] pos) (zb4 (vBin f ta tb)):=
 PT.wk (zq3 ho ha hb hm) fun _ _ _ h=>zrg hf h
theorem zdV {t:VE}(h:SB X e t)(he:∀ whole,isTrue e X.env whole=(do let v <-whole;standAt e.pos;holding [v] (truthy v)):=by intro _;rfl):ST X e (zb4 t):=PT.wk (zsu h he) fun _ _ _ h=>zju h
noncomputable def vI2 (C:Int->Int->Prop)(g:Int->Int->D):V2:=fun d e Q=>match d,e with
 | .int i,.int j=>C i j/\Q (g i j)
 |_,_=>False
noncomputable def vI (g:Int->Int->D):V2:=fun d e Q=>match d,e with
 | .int i,.int j=>Q (g i j)
 |_,_=>False
theorem zsV {K:PySem.W.Frag}{C:Int->Int->Prop}{g:Int->Int->Int}:Lf K (vI2 C fun i j=>.int (g i j)) (rI C fun i j=>.int (g i j)):=fun H x y d e Qd Q rx ry h k=>by
 unfold vI2 at h;split at h
 ·rename_i i j;exact ⟨i,j,rx,ry,h.1,k _ h.2 _ H (Same.refl H) rfl⟩
 ·exact h.elim
theorem zpw {K:PySem.W.Frag}{g:Int->Int->Int}:Lf K (vI fun i j=>.int (g i j)) (rI0 fun i j=>.int (g i j)):=fun H x y d e Qd Q rx ry h k=>by
 unfold vI at h;split at h
 ·rename_i i j;exact ⟨i,j,rx,ry,k _ h _ H (Same.refl H) rfl⟩
 ·exact h.elim
theorem zjv {K:PySem.W.Frag}{g:Int->Int->Bool}:Lf K (vI fun i j=>.bl (g i j)) (rI0 fun i j=>.bl (g i j)):=fun H x y d e Qd Q rx ry h k=>by
 unfold vI at h;split at h
 ·rename_i i j;exact ⟨i,j,rx,ry,k _ h _ H (Same.refl H) rfl⟩
 ·exact h.elim
noncomputable def zfg (_ j:Int):Prop:=0<j/\j.natAbs.log2<9000
theorem zpx:OpR X (binaryOp .FloorDiv) (rI zfg fun i j=>.int (i / j)):=opI fun i j _ _ _ _ _ hc q=>by
 refine floordiv_int (by have:=hc.1;omega) ?_ (.inl (PyProof.noPylong_of_log2 hc.2));rw [Int.fdiv_eq_ediv_of_nonneg _ (Int.le_of_lt hc.1)];exact q
theorem zrh:OpR X (binaryOp .Mult) (rI IntMulOk fun i j=>.int (i * j)):=opI fun _ _ _ _ _ _ _ hc q=>mul_int q hc
theorem zaI (ha:SB X a ta)(hb:SB X b tb):SB X (.BinOp a .Add b pos) (vBin (vI fun i j=>.int (i+j)) ta tb):=zfY zsE zpw ha hb
theorem zck (ha:SB X a ta)(hb:SB X b tb):SB X (.BinOp a .Sub b pos) (vBin (vI fun i j=>.int (i - j)) ta tb):=zfY zsF zpw ha hb
theorem zcl (ha:SB X a ta)(hb:SB X b tb):SB X (.BinOp a .Mult b pos) (vBin (vI2 IntMulOk fun i j=>.int (i * j)) ta tb):=zfY zrh zsV ha hb
theorem zaJ (ha:SB X a ta)(hb:SB X b tb):SB X (.BinOp a .Mod b pos) (vBin (vI2 (fun _ j=>0<j) fun i j=>.int (i % j)) ta tb):=zfY zsG zsV ha hb
theorem zcn (ha:SB X a ta)(hb:SB X b tb):SB X (.BinOp a .FloorDiv b pos) (vBin (vI2 zfg fun i j=>.int (i / j)) ta tb):=zfY zpx zsV ha hb
theorem zqz (ha:SB X a ta)(hb:SB X b tb):SB X (.BinOp a .LShift b pos) (vBin (vI2 ztO fun i j=>.int (i * 2 ^ j.toNat)) ta tb):=zfY zsH zsV ha hb
theorem zsW (ha:SB X a ta)(hb:SB X b tb):SB X (.BinOp a .RShift b pos) (vBin (vI2 (fun _ j=>0<=j) fun i j=>.int (i / 2 ^ j.toNat)) ta tb):=zfY zsI zsV ha hb
theorem zjw (ha:SB X a ta)(hb:SB X b tb):SB X (.BinOp a .BitAnd b pos) (vBin (vI fun i j=>.int (Builtin.bitAnd i j)) ta tb):=zfY zsJ zpw ha hb
theorem zhe (ha:SB X a ta)(hb:SB X b tb):SB X (.BinOp a .BitOr b pos) (vBin (vI fun i j=>.int (Builtin.bitOr i j)) ta tb):=zfY zt8 zpw ha hb
noncomputable abbrev fLt:V2:=vI fun i j=>.bl (decide (i<j))
noncomputable abbrev fLe:V2:=vI fun i j=>.bl (decide (i<=j))
noncomputable abbrev fGt:V2:=vI fun i j=>.bl (decide (j<i))
noncomputable abbrev fGe:V2:=vI fun i j=>.bl (decide (j<=i))
theorem zui (ha:SB X a ta)(hb:SB X b tb):SB X (.Compare a [.Lt] [b] pos) (vBin fLt ta tb):=zkE zpm zjv ha hb (zhd _)
theorem zri (ha:SB X a ta)(hb:SB X b tb):SB X (.Compare a [.Gt] [b] pos) (vBin fGt ta tb):=zkE zsM zjv ha hb (zhd _)
theorem zuj (ha:SB X a ta)(hb:SB X b tb):SB X (.Compare a [.GtE] [b] pos) (vBin fGe ta tb):=zkE zt9 zjv ha hb (zhd _)
theorem zpy (ha:SB X a ta)(hb:SB X b tb):ST X (.Compare a [.Lt] [b] pos) (zb4 (vBin fLt ta tb)):=zkF zpm zjv ha hb (zhd _)
theorem zpz (ha:SB X a ta)(hb:SB X b tb):ST X (.Compare a [.Gt] [b] pos) (zb4 (vBin fGt ta tb)):=zkF zsM zjv ha hb (zhd _)
noncomputable def vUn (g:Int->Int)(ta:VE):VE:=fun st Q=>ta st fun d=>match d with
 | .int i=>Q (.int (g i))
 |_=>False
theorem zuk {op:UnaryOp}{g:Int->Int}(ho:UnR X (unaryOp op) (rU fun i=>.int (g i)))(ha:SB X a ta):SB X (.UnaryOp op a pos) (vUn g ta):=PE.wk (zt7 ho ha) fun σ H Q h=>by
 obtain ⟨F,st,Qd,ok,h,k⟩:=h;refine ⟨F,st,_,ok,h,fun d hd v H1 s1 r1=>?_⟩;cases d with
 |int i=>
  have r1:v= .int i:=r1;exact ⟨i,r1,k _ hd _ H1 s1 rfl⟩
 |_=>exact hd.elim
theorem zsX (ha:SB X a ta):SB X (.UnaryOp .Invert a pos) (vUn Builtin.bitNot ta):=zuk zsK ha
noncomputable def zmD (neg:Bool)(ta:VE):VE:=fun st Q=>ta st fun d=>match d with
 | .non=>Q (.bl (!neg))
 |_=>Q (.bl neg)
theorem zrj {K:PySem.W.Frag}{F H:Hp}{d:D}{v:V}(r:Rep K F H d v):(v= .non↔d= .non):=by
 cases d with
 |non=>exact ⟨fun _=>rfl,fun _=>r⟩
 |bl b=>have r:v= .bl b:=r;subst r;simp
 |int b=>have r:v= .int b:=r;subst r;simp
 |str b=>have r:v= .str b:=r;subst r;simp
 |tup b=>unfold Rep at r;obtain ⟨a,vs,e,_⟩:=r;subst e;simp
 |lst b=>unfold Rep at r;obtain ⟨a,vs,e,_⟩:=r;subst e;simp
theorem znX {neg:Bool}{σ:St}{H:Hp}{Q:VK}(h:lB X.K (zmD neg ta) σ H Q):(lB X.K ta) σ H fun x H1=>Q (.bl (if neg then !decide (x= .non) else decide (x= .non))) H1:=by
 obtain ⟨F,st,Qd,ok,h,k⟩:=h;refine ⟨F,st,_,ok,h,fun d hd v H1 s1 r1=>?_⟩;have hn:=zrj r1;show Q (V.bl (if neg=true then !decide (v=V.non) else decide (v=V.non))) H1
 cases d with
 |non=>rw [decide_eq_true (hn.mpr rfl)];cases neg<;>exact k _ hd _ H1 s1 rfl
 |bl _=>rw [decide_eq_false (fun z=>by cases hn.mp z)];cases neg<;>exact k _ hd _ H1 s1 rfl
 |int _=>rw [decide_eq_false (fun z=>by cases hn.mp z)];cases neg<;>exact k _ hd _ H1 s1 rfl
 |str _=>rw [decide_eq_false (fun z=>by cases hn.mp z)];cases neg<;>exact k _ hd _ H1 s1 rfl
 |tup _=>rw [decide_eq_false (fun z=>by cases hn.mp z)];cases neg<;>exact k _ hd _ H1 s1 rfl
 |lst _=>rw [decide_eq_false (fun z=>by cases hn.mp z)];cases neg<;>exact k _ hd _ H1 s1 rfl
theorem znY {j p}(ha:SB X a ta):SB X (.Compare a [.Is] [.Constant .none j p] pos) (zmD false ta):=PE.wk (zqs (zqr ha)) fun _ _ _ h=>znX h
theorem znZ {j p}(ha:SB X a ta):ST X (.Compare a [.Is] [.Constant .none j p] pos) (zb4 (zmD false ta)):=PT.wk (zqt (zqr ha)) fun σ H Q h=>znX (zju h)
theorem zlL {j p}(ha:SB X a ta):ST X (.Compare a [.IsNot] [.Constant .none j p] pos) (zb4 (zmD true ta)):=PT.wk (zqt (zqW ha)) fun σ H Q h=>znX (zju h)
noncomputable def zsY (t u:VT):VT:=fun st Q=>t st fun c=>if c=true then u st Q else Q false
noncomputable def vOr (t u:VT):VT:=fun st Q=>t st fun c=>if c=true then Q true else u st Q
noncomputable def zpA (t:VT):VT:=fun st Q=>t st fun c=>Q (!c)
variable {sa sb:VT}
theorem zlM (ha:ST X a sa):SW X (.BoolOp .And [a] pos) sa:=zqX ha
theorem zkG (ha:ST X a sa):SW X (.BoolOp .Or [a] pos) sa:=zsv ha
theorem zn0 (ha:ST X a sa)(hb:SW X (.BoolOp .And (b::rest) pos) sb):SW X (.BoolOp .And (a::b::rest) pos) (zsY sa sb):=PW.wk (zsw ha hb) fun σ H Q h=>by
 obtain ⟨F,st,Qd,ok,h,k⟩:=h;refine ⟨F,st,_,ok,h,fun c hc H1 s1=>?_⟩;cases c with
 |true=>
  rw [if_pos rfl] at hc ⊢;exact ⟨F,st,Qd,ok.same s1,hc,fun b hb H2 s2=>k b hb H2 (s1.trans s2)⟩
 |false=>
  rw [if_neg Bool.false_ne_true] at hc ⊢;exact k _ hc H1 s1
theorem zne (ha:ST X a sa)(hb:SW X (.BoolOp .Or (b::rest) pos) sb):SW X (.BoolOp .Or (a::b::rest) pos) (vOr sa sb):=PW.wk (ztV ha hb) fun σ H Q h=>by
 obtain ⟨F,st,Qd,ok,h,k⟩:=h;refine ⟨F,st,_,ok,h,fun c hc H1 s1=>?_⟩;cases c with
 |true=>
  rw [if_pos rfl] at hc ⊢;exact k _ hc H1 s1
 |false=>
  rw [if_neg Bool.false_ne_true] at hc ⊢;exact ⟨F,st,Qd,ok.same s1,hc,fun b hb H2 s2=>k b hb H2 (s1.trans s2)⟩
theorem zeL (h:SW X e sa):ST X e sa:=PW.pt h
theorem zhX (ha:ST X a sa):ST X (.UnaryOp .Not a pos) (zpA sa):=PT.wk (zsx ha) fun σ H Q h=>by
 obtain ⟨F,st,Qd,ok,h,k⟩:=h;exact ⟨F,st,_,ok,h,fun c hc H1 s1=>k _ hc H1 s1⟩
noncomputable def zgQ (ta tb:VE):VE:=fun st Q=>ta st fun d=>match d with
 | .bl b=>if b=true then tb st Q else Q (.bl false)
 |_=>False
noncomputable def vNotV (ta:VE):VE:=fun st Q=>ta st fun d=>match d with
 | .bl b=>Q (.bl (!b))
 |_=>False
theorem zeM {op}{t:VE}(h:SB X a t):SB X (.BoolOp op [a] pos) t:=zsy h
theorem zeN (ha:SB X a ta)(hb:SB X (.BoolOp .And (b::rest) pos) tb):SB X (.BoolOp .And (a::b::rest) pos) (zgQ ta tb):=PE.wk (zsz ha hb) fun σ H Q h=>by
 obtain ⟨F,st,Qd,ok,h,k⟩:=h;refine ⟨F,st,_,ok,h,fun d hd v H1 s1 r1=>?_⟩;cases d with
 |bl c=>
  have r1:v= .bl c:=r1;refine ⟨c,r1,?_⟩;have hd:if c=true then tb st Qd else Qd (.bl false):=hd
  cases c with
  |true=>
   rw [if_pos rfl] at hd ⊢;exact ⟨F,st,Qd,ok.same s1,hd,fun b hb u H2 s2 r2=>k b hb u H2 (s1.trans s2) r2⟩
  |false=>
   rw [if_neg Bool.false_ne_true] at hd ⊢;exact k _ hd _ H1 s1 rfl
 |_=>exact hd.elim
theorem zn1 (ha:SB X a ta):SB X (.UnaryOp .Not a pos) (vNotV ta):=PE.wk (zsA ha) fun σ H Q h=>by
 obtain ⟨F,st,Qd,ok,h,k⟩:=h;refine ⟨F,st,_,ok,h,fun d hd v H1 s1 r1=>?_⟩;cases d with
 |bl c=>
  have r1:v= .bl c:=r1;exact ⟨c,r1,k _ hd _ H1 s1 rfl⟩
 |_=>exact hd.elim
noncomputable def vIf (t:VT)(ta tb:VE):VE:=fun st Q=>t st fun c=>if c=true then ta st Q else tb st Q
theorem zrk (hc:ST X c sa)(ha:SB X a ta)(hb:SB X b tb):SB X (.IfExp c a b pos) (vIf sa ta tb):=PE.wk (zpi hc ha hb) fun σ H Q h=>by
 obtain ⟨F,st,Qd,ok,h,k⟩:=h;refine ⟨F,st,_,ok,h,fun c hc H1 s1=>?_⟩;cases c with
 |true=>
  rw [if_pos rfl] at hc ⊢;exact ⟨F,st,Qd,ok.same s1,hc,fun b hb u H2 s2 r2=>k b hb u H2 (s1.trans s2) r2⟩
 |false=>
  rw [if_neg Bool.false_ne_true] at hc ⊢;exact ⟨F,st,Qd,ok.same s1,hc,fun b hb u H2 s2 r2=>k b hb u H2 (s1.trans s2) r2⟩
noncomputable def zai:VAs:=fun _ Q=>Q []
noncomputable def zaa (ta:VE)(t:VAs):VAs:=fun st Q=>ta st fun d=>t st fun ds=>Q (d::ds)
variable {tr:VAs}
theorem sa_nil:SA X [] zai:=PA.wk zfU fun σ H Q zz=>by
 obtain ⟨F,st,Qd,ok,h,k⟩:=zz;exact k _ h [] H (Same.refl H) rfl
theorem sa_cons (ha:SB X e ta)(hr:SA X es tr)(hs:starEach (e::es) X.env=(false,eval e X.env)::starEach es X.env:=by rfl):SA X (e::es) (zaa ta tr):=PA.wk (zcm ha hr hs) fun σ H Q h=>by
 obtain ⟨F,st,Qd,ok,h,k⟩:=h;refine ⟨F,st,_,ok,h,fun d hd v H1 s1 r1=>⟨F,st,_,ok.same s1,hd,fun ds hds vs H2 s2 r2=>?_⟩⟩;exact k _ hds (v::vs) H2 (s1.trans s2) (by unfold Reps;exact ⟨v,vs,rfl,Rep.mono s2 (Tp.of s2) d v r1,r2⟩)
end
section
variable {K:PySem.W.Frag}{F H:Hp}{p:Addr}
theorem zbO {o:HO}(hp:H p=none):Same H (upd H p o):=fun b u q=>by rw [upd_ne (za3 q hp)];exact q
theorem Reps.len:∀ {ds:List D} {vs:List V},Reps K F H ds vs->ds.length=vs.length
 | [],_,h=>by unfold Reps at h;rw [h];rfl
 |d::ds,vs,h=>by
  unfold Reps at h;obtain ⟨v,r,e,_,b⟩:=h;subst e;rw [List.length_cons,List.length_cons,Reps.len b]
theorem Reps.at:∀ {ds:List D} {vs:List V} {i:Nat} {v:V},Reps K F H ds vs->vs[i]? =some v->∃ d,ds[i]? =some d/\Rep K F H d v
 | [],vs,i,v,h,e=>by unfold Reps at h;rw [h] at e;simp at e
 |d::ds,vs,i,v,h,e=>by
  unfold Reps at h;obtain ⟨w,r,e1,a,b⟩:=h;subst e1;cases i with
  |zero=>simp at e;subst e;exact ⟨d,rfl,a⟩
  |succ i=>exact Reps.at (i:=i) b (by simpa using e)
theorem Reps.at':∀ {ds:List D} {vs:List V} {i:Nat} {d:D},Reps K F H ds vs->ds[i]? =some d->∃ v,vs[i]? =some v/\Rep K F H d v
 | [],vs,i,v,h,e=>by simp at e
 |d::ds,vs,i,v,h,e=>by
  unfold Reps at h;obtain ⟨w,r,e1,a,b⟩:=h;subst e1;cases i with
  |zero=>simp at e;subst e;exact ⟨w,rfl,a⟩
  |succ i=>exact Reps.at' (i:=i) b (by simpa using e)
theorem Reps.append:∀ {ds es:List D} {vs ws:List V},Reps K F H ds vs->Reps K F H es ws->Reps K F H (ds++es) (vs++ws)
 | [],es,vs,ws,h,h'=>by unfold Reps at h;subst h;exact h'
 |d::ds,es,vs,ws,h,h'=>by
  unfold Reps at h;obtain ⟨w,r,e1,a,b⟩:=h;subst e1;show Reps K F H (d::(ds++es)) (w::(r++ws));unfold Reps;exact ⟨w,_,rfl,a,Reps.append b h'⟩
theorem Reps.one {d:D}{v:V}(h:Rep K F H d v):Reps K F H [d] [v]:=by unfold Reps;exact ⟨v,[],rfl,h,by unfold Reps;rfl⟩
theorem Reps.drop:∀ {ds:List D} {vs:List V} (n:Nat),Reps K F H ds vs->Reps K F H (ds.drop n) (vs.drop n)
 |ds,vs,0,h=>h
 | [],vs,n+1,h=>by unfold Reps at h;subst h;unfold Reps;rfl
 |d::ds,vs,n+1,h=>by
  unfold Reps at h;obtain ⟨w,r,e1,a,b⟩:=h;subst e1;exact Reps.drop n b
theorem Reps.take:∀ {ds:List D} {vs:List V} (n:Nat),Reps K F H ds vs->Reps K F H (ds.take n) (vs.take n)
 |ds,vs,0,h=>by show Reps K F H [] [];unfold Reps;rfl
 | [],vs,n+1,h=>by unfold Reps at h;subst h;unfold Reps;rfl
 |d::ds,vs,n+1,h=>by
  unfold Reps at h;obtain ⟨w,r,e1,a,b⟩:=h;subst e1;show Reps K F H (d::ds.take n) (w::r.take n);unfold Reps;exact ⟨w,_,rfl,a,Reps.take n b⟩
theorem zmE {ds:List D}{vs:List V}(hp:H p=none)(r:Reps K H H ds vs):Same H (upd H p (.lst vs))/\Rep K (upd H p (.lst vs)) (upd H p (.lst vs)) (.lst ds) (.ref p):=by
 have s:=zbO (o:=.lst vs) hp;refine ⟨s,?_⟩;unfold Rep;exact ⟨p,vs,rfl,SqL.of zaH,Reps.mono s (Tp.of s) ds vs r⟩
theorem zmF {ds:List D}{vs:List V}(hs:Same F H)(hp:H p=none)(r:Reps K H H ds vs)(fl:flats ds=true):Gr F H F (upd H p (.lst vs))/\RepM K F (upd H p (.lst vs)) .ow (.lst ds) (.ref p) [p]:=by
 have s:=zbO (o:=.lst vs) hp;refine ⟨Gr.of hs s,?_⟩;have hF:F p=none:=by
  cases e:F p with
  |none=>rfl
  |some o=>rw [hs p o e] at hp;cases hp
 show RepD K F (upd H p (.lst vs)) (.lst ds) (.ref p) [p]
 unfold RepD;exact ⟨p,vs,[],rfl,rfl,zaH,hF,Reps.own ds vs (Reps.mono s (Tp.of s) ds vs r) fl⟩
end
noncomputable def lN (K:PySem.W.Frag)(t:VAs):TE:=fun σ H Q=>∃ F st Qd,Ok K F H st σ/\t st Qd/\∀ ds,Qd ds->∀ vs H' p,Same H H'->Reps K H' H' ds vs->H' p=none->Q (.ref p) (upd H' p (.lst vs))
noncomputable def SN (X:Cx)(e:Expr)(t:VAs):Prop:=PE X e (lN X.K t)
noncomputable def zdT (t:VAs):VE:=fun st Q=>t st fun ds=>Q (.lst ds)
noncomputable def zds (t:VAs):VO:=fun st Q=>t st fun ds=>flats ds=true/\Q .ow (.lst ds)
noncomputable def zan (t:VE):VO:=fun st Q=>t st fun d=>d.flat=true/\Q .sh d
section
variable {X:Cx}{a b c e i:Expr}{es rest:List Expr}{ta tb ti:VE}{tr t:VAs}{pos:Pos}
theorem sb_new (h:SN X e t):SB X e (zdT t):=PE.wk h fun σ H Q zz=>by
 obtain ⟨F,st,Qd,ok,h,k⟩:=zz;exact ⟨F,st,_,ok,h,fun ds hd vs H' p s r hp=>by
  obtain ⟨s2,r2⟩:=zmE hp r;exact k _ hd _ _ (s.trans s2) r2⟩
theorem zaX (h:SN X e t):SO X e (zds t):=PE.wk h fun σ H Q zz=>by
 obtain ⟨F,st,Qd,ok,h,k⟩:=zz;exact ⟨F,st,_,ok,h,fun ds hd vs H' p s r hp=>by
  obtain ⟨g,r2⟩:=zmF (ok.same s).sub hp r hd.1;refine k _ _ hd.2 _ _ F [p] ((Gr.of ok.sub s).trans g) r2 (by simp) fun a ha=>?_;rw [List.mem_singleton] at ha;subst ha;exact s.free hp⟩
theorem zag (h:SB X e ta):SO X e (zan ta):=PE.wk h fun σ H Q zz=>by
 obtain ⟨F,st,Qd,ok,h,k⟩:=zz;exact ⟨F,st,_,ok,h,fun d hd v H' s r=>by
  refine k .sh d hd.2 v H' F [] (Gr.of ok.sub s) ⟨Rep.flatF d v r hd.1,rfl⟩ List.nodup_nil (by simp)⟩
noncomputable def zbi (t:VAs):VAs:=fun st Q=>t st fun ds=>ds.length<=1000/\Q ds
theorem zmG {n:Nat}(h:n<=1000):n<=sizeLine:=Nat.le_trans h (by decide)
theorem za9 (h:SA X es t):SN X (.List es pos) (zbi t):=PE.wk (znO h) fun σ H Q zz=>by
 obtain ⟨F,st,Qd,ok,h,k⟩:=zz;exact ⟨F,st,_,ok,h,fun ds hd vs H' s r=>⟨by rw [<-r.len];exact zmG hd.1,fun p hp=>k ds hd.2 vs H' p s r hp⟩⟩
noncomputable def zrl (t:VAs):VE:=fun st Q=>t st fun ds=>ds.length<=1000/\Q (.tup ds)
theorem zkH {x1}(h:SA X es t):SB X (.Tuple es x1 pos) (zrl t):=PE.wk (zsO h) fun σ H Q zz=>by
 obtain ⟨F,st,Qd,ok,h,k⟩:=zz;exact ⟨F,st,_,ok,h,fun ds hd vs H' s r=>⟨by rw [<-r.len];exact zmG hd.1,fun p hp=>by
  have s2:=zbO (o:=.tup vs) hp;refine k _ hd.2 _ _ (s.trans s2) ?_;unfold Rep;exact ⟨p,vs,rfl,SqT.of zaH,Reps.mono s2 (Tp.of s2) ds vs r⟩⟩⟩
noncomputable def fIx:V2:=fun d e Q=>match d,e with
 | .lst xs,.int i=>(match atI xs i with
  |some z=>Q z
  |none=>False)
 | .tup xs,.int i=>(match atI xs i with
  |some z=>Q z
  |none=>False)
 |_,_=>False
theorem zn2 {K:PySem.W.Frag}{F H:Hp}{ds:List D}{vs:List V}{i:Int}{d:D}(r:Reps K F H ds vs)(h:atI ds i=some d):∃ v,atI vs i=some v/\Rep K F H d v:=by
 unfold atI at h ⊢;rw [<-r.len];cases e:ixN ds.length i with
 |none=>rw [e] at h;cases h
 |some j=>
  rw [e] at h;exact r.at' (i:=j) h
theorem zul {K:PySem.W.Frag}:Lf K fIx (fun x y H Q=>zuB K x y H Q\/zuC K x y H Q):=fun H x y d e Qd Q rx ry h k=>by
 unfold fIx at h;split at h
 ·rename_i xs j;unfold Rep at rx;obtain ⟨a,vs,rfl,hq,r⟩:=rx;split at h
  ·rename_i z hz;obtain ⟨v,hv,rv⟩:=zn2 r hz;exact .inl ⟨a,vs,j,v,rfl,ry,hq,hv,k z h v H (Same.refl H) rv⟩
  ·exact h.elim
 ·rename_i xs j;unfold Rep at rx;obtain ⟨a,vs,rfl,hq,r⟩:=rx;split at h
  ·rename_i z hz;obtain ⟨v,hv,rv⟩:=zn2 r hz;exact .inr ⟨a,vs,j,v,rfl,ry,hq,hv,k z h v H (Same.refl H) rv⟩
  ·exact h.elim
 ·exact h.elim
theorem zam (ha:SB X a ta)(hb:SB X b tb)(hs:zgO b:=by intro _ _;rfl):SB X (.Subscript a b pos) (vBin fIx ta tb):=PE.wk (znS (ix_list.or zsQ) ha hb hs) fun _ _ _ h=>zmC zul h
noncomputable abbrev VP:=LSt->(Option Int->Prop)->Prop
noncomputable def lP (K:PySem.W.Frag)(t:VP):TO:=fun σ H Q=>∃ F st Qd,Ok K F H st σ/\t st Qd/\∀ o,Qd o->∀ H',Same H H'->Q o H'
noncomputable def SPa (X:Cx)(e:Option Expr)(t:VP):Prop:=PO X e (lP X.K t)
noncomputable def zrm:VP:=fun _ Q=>Q none
noncomputable def vP (t:VE):VP:=fun st Q=>t st fun d=>match d with
 | .int i=>Q (some i)
 |_=>False
theorem zlN:SPa X none zrm:=fun pins s σ H Q I zz=>by
 obtain ⟨F,st,Qd,ok,h,k⟩:=zz;exact zq6 pins s σ H Q I (k _ h H (Same.refl H))
theorem zgR (h:SB X e ta):SPa X (some e) (vP ta):=fun pins s σ H Q I zz=>by
 obtain ⟨F,st,Qd,ok,hh,k⟩:=zz;exact zq7 h pins s σ H Q I ⟨F,st,_,ok,hh,fun d hd v H1 s1 r1=>by
  cases d with
  |int i=>
   have r1:v= .int i:=r1;exact ⟨i,r1,k _ hd H1 s1⟩
  |_=>exact hd.elim⟩
noncomputable def zqA (xs:List D)(lo hi:Option Int):List D:=(xs.drop (HT.sIx xs.length 0 lo)).take (HT.sIx xs.length xs.length hi - HT.sIx xs.length 0 lo)
noncomputable def vSl (ta:VE)(tl tu:VP):VAs:=fun st Q=>ta st fun d=>tl st fun lo=>tu st fun hi=>match d with
 | .lst xs=>Q (zqA xs lo hi)
 |_=>False
theorem zrn {tl tu:VP}{lo hi:Option Expr}{p2:Pos}(ha:SB X a ta)(hl:SPa X lo tl)(hu:SPa X hi tu):SN X (.Subscript a (.Slice lo hi none p2) pos) (vSl ta tl tu):=PE.wk (zpq zq8 ha hl hu) fun σ H Q ⟨F,st,Qd,ok,h,k⟩=>
 ⟨F,st,_,ok,h,fun d hd v H1 s1 r1=>⟨F,st,_,ok.same s1,hd,fun l hl H2 s2=>⟨F,st,_,ok.same (s1.trans s2),hl,fun u hu H3 s3=>by
  cases d with
  |lst xs=>
   unfold Rep at r1;obtain ⟨p,vs,rfl,hq,r⟩:=r1;refine ⟨p,vs,rfl,s3.seq (s2.seq hq),fun q hq=>?_⟩;have s23:=s2.trans s3;have r':=Reps.mono s23 (Tp.of s23) xs vs r;refine k _ hu _ H3 q (s1.trans s23) ?_ hq;unfold zqA zsP;rw [<-r.len];exact (r'.drop _).take _
  |_=>exact hu.elim⟩⟩⟩
noncomputable abbrev VB':=List D->(D->Prop)->Prop
noncomputable def LfA (K:PySem.W.Frag)(f:VB')(r:List V->Hp->VK->Prop):Prop:=∀ (H:Hp) (vs:List V) (ds:List D) (Qd:D->Prop) (Q:VK),Reps K H H ds vs->f ds Qd->(∀ z,Qd z->∀ v H',Same H H'->Rep K H' H' z v->Q v H')->r vs H Q
noncomputable def vCB (f:VB')(t:VAs):VE:=fun st Q=>t st fun ds=>f ds Q
theorem zsZ {f:VB'}{r:List V->Hp->VK->Prop}(hf:LfA X.K f r){σ:St}{H:Hp}{Q:VK}(h:lB X.K (vCB f t) σ H Q):tCB r (lA X.K t) σ H Q:=by
 obtain ⟨F,st,Qd,ok,h,k⟩:=h;exact ⟨F,st,_,ok,h,fun ds hd vs H1 s1 r1=>hf H1 vs ds Qd Q r1 hd fun z hz v H2 s2 r2=>k z hz v H2 (s1.trans s2) r2⟩
variable {x:Str}{p:Pos}{id T:String}
theorem zhN {f:VB'}{r:List V->Hp->VK->Prop}(hc:CallR X (.builtin id) r)(hf:LfA X.K f r)(hg:Gl X x)(hm:X.mg x=none)(hv:bootBuiltins x=some (.builtin id))(ha:SA X (e::es) t)(hn:x≠"__name__":=by decide)(hdb:(x==("__debug__":Str))=false:=by decide)
  (he:starEach (e::es) X.env=(false,eval e X.env)::starEach es X.env:=by rfl)(hpl:(backTo pos (starEach es X.env)).any (·.1)=false:=by rfl):SB X (.Call (.Name x p) (e::es) [] pos) (vCB f t):=
 PE.wk (zmu hc hg hm hv ha hn hdb he hpl) fun _ _ _ h=>zsZ hf h
theorem zn3 {f:VB'}{r:List V->Hp->VK->Prop}(hc:CallR X (.type T) r)(hf:LfA X.K f r)(hg:Gl X x)(hm:X.mg x=none)(hv:bootBuiltins x=some (.type T))(ha:SA X (e::es) t)(hn:x≠"__name__":=by decide)(hdb:(x==("__debug__":Str))=false:=by decide)
  (he:starEach (e::es) X.env=(false,eval e X.env)::starEach es X.env:=by rfl)(hpl:(backTo pos (starEach es X.env)).any (·.1)=false:=by rfl):SB X (.Call (.Name x p) (e::es) [] pos) (vCB f t):=
 PE.wk (zks hc hg hm hv ha hn hdb he hpl) fun _ _ _ h=>zsZ hf h
theorem zhv {K:PySem.W.Frag}{F H:Hp}{d:D}{vs:List V}(r:Reps K F H [d] vs):∃ v,vs=[v]/\Rep K F H d v:=by
 unfold Reps at r;obtain ⟨v,w,rfl,a,b⟩:=r;unfold Reps at b;subst b;exact ⟨v,rfl,a⟩
theorem znf {K:PySem.W.Frag}{F H:Hp}{d e:D}{vs:List V}(r:Reps K F H [d,e] vs):∃ v w,vs=[v,w]/\Rep K F H d v/\Rep K F H e w:=by
 unfold Reps at r;obtain ⟨v,w,rfl,a,b⟩:=r;obtain ⟨u,rfl,c⟩:=zhv b;exact ⟨v,u,rfl,a,c⟩
noncomputable def zbP:VB':=fun ds Q=>match ds with
 | [.lst xs]=>Q (.int xs.length)
 | [.tup xs]=>Q (.int xs.length)
 |_=>False
theorem zs0 {K:PySem.W.Frag}:LfA K zbP (fun xs H Q=>∃ p ys,xs=[.ref p]/\(SqL K H p ys\/SqT K H p ys)/\Q (.int ys.length) H):=fun H vs ds Qd Q r h k=>by
 unfold zbP at h;split at h
 ·obtain ⟨v,rfl,r1⟩:=zhv r;unfold Rep at r1;obtain ⟨a,ws,rfl,hq,r2⟩:=r1;exact ⟨a,ws,rfl,.inl hq,k _ h _ H (Same.refl H) (by show V.int _=V.int _;rw [r2.len])⟩
 ·obtain ⟨v,rfl,r1⟩:=zhv r;unfold Rep at r1;obtain ⟨a,ws,rfl,hq,r2⟩:=r1;exact ⟨a,ws,rfl,.inr hq,k _ h _ H (Same.refl H) (by show V.int _=V.int _;rw [r2.len])⟩
 ·exact h.elim
theorem zar (hm:X.mg "len"=none)(ha:SA X (e::es) t)(hg:Gl X "len":=by rfl)(he:starEach (e::es) X.env=(false,eval e X.env)::starEach es X.env:=by rfl)(hpl:(backTo pos (starEach es X.env)).any (·.1)=false:=by rfl):
  SB X (.Call (.Name "len" p) (e::es) [] pos) (vCB zbP t):=zhN zku zs0 hg hm PySem.boot_len ha (by decide) (by decide) he hpl
noncomputable def zn4:VB':=fun ds Q=>match ds with
 | [.int i,.int j]=>Q (.int (if j>i then j else i))
 |_=>False
noncomputable def ziM:VB':=fun ds Q=>match ds with
 | [.int i,.int j]=>Q (.int (if j<i then j else i))
 |_=>False
noncomputable def zng:VB':=fun ds Q=>match ds with
 | [.int i]=>Q (.int i)
 | [.bl b]=>Q (.int (if b then 1 else 0))
 |_=>False
theorem zro {K:PySem.W.Frag}:LfA K zn4 (fun xs H Q=>∃ i j,xs=[.int i,.int j]/\Q (.int (if j>i then j else i)) H):=fun H vs ds Qd Q r h k=>by
 unfold zn4 at h;split at h
 ·obtain ⟨v,w,rfl,r1,r2⟩:=znf r;obtain rfl:v=_:=r1;obtain rfl:w=_:=r2;exact ⟨_,_,rfl,k _ h _ H (Same.refl H) rfl⟩
 ·exact h.elim
theorem zrp {K:PySem.W.Frag}:LfA K ziM (fun xs H Q=>∃ i j,xs=[.int i,.int j]/\Q (.int (if j<i then j else i)) H):=fun H vs ds Qd Q r h k=>by
 unfold ziM at h;split at h
 ·obtain ⟨v,w,rfl,r1,r2⟩:=znf r;obtain rfl:v=_:=r1;obtain rfl:w=_:=r2;exact ⟨_,_,rfl,k _ h _ H (Same.refl H) rfl⟩
 ·exact h.elim
theorem zrq {K:PySem.W.Frag}:LfA K zng (fun xs H Q=>(∃ i,xs=[.int i]/\Q (.int i) H)\/∃ k,xs=[.bl k]/\Q (.int (if k then 1 else 0)) H):=fun H vs ds Qd Q r h k=>by
 unfold zng at h;split at h
 ·obtain ⟨v,rfl,r1⟩:=zhv r;obtain rfl:v=_:=r1;exact .inl ⟨_,rfl,k _ h _ H (Same.refl H) rfl⟩
 ·obtain ⟨v,rfl,r1⟩:=zhv r;obtain rfl:v=_:=r1;exact .inr ⟨_,rfl,k _ h _ H (Same.refl H) rfl⟩
 ·exact h.elim
theorem zrr (hc:X.calm=true)(hm:X.mg "max"=none)(ha:SA X [a,b] t)(hg:Gl X "max":=by rfl)(he:starEach [a,b] X.env=(false,eval a X.env)::starEach [b] X.env:=by rfl)(hpl:(backTo pos (starEach [b] X.env)).any (·.1)=false:=by rfl):
  SB X (.Call (.Name "max" p) [a,b] [] pos) (vCB zn4 t):=zhN (znK hc) zro hg hm (by first|exact boot_max|rfl) ha (by decide) (by decide) he hpl
theorem zjx (hc:X.calm=true)(hm:X.mg "min"=none)(ha:SA X [a,b] t)(hg:Gl X "min":=by rfl)(he:starEach [a,b] X.env=(false,eval a X.env)::starEach [b] X.env:=by rfl)(hpl:(backTo pos (starEach [b] X.env)).any (·.1)=false:=by rfl):
  SB X (.Call (.Name "min" p) [a,b] [] pos) (vCB ziM t):=zhN (znL hc) zrp hg hm (by first|exact boot_min|rfl) ha (by decide) (by decide) he hpl
theorem zn5 (hm:X.mg "int"=none)(ha:SA X [a] t)(hg:Gl X "int":=by rfl)(he:starEach [a] X.env=(false,eval a X.env)::starEach [] X.env:=by rfl)(hpl:(backTo pos (starEach [] X.env)).any (·.1)=false:=by rfl):
  SB X (.Call (.Name "int" p) [a] [] pos) (vCB zng t):=zn3 znM zrq hg hm (by first|exact boot_int|rfl) ha (by decide) (by decide) he hpl
noncomputable def zbQ (t:VAs):VAs:=fun st Q=>t st fun ds=>match ds with
 | [.lst xs]=>Q xs
 | [.tup xs]=>Q xs
 |_=>False
theorem sn_list (hm:X.mg "list"=none)(ha:SA X [a] t)(hg:Gl X "list":=by rfl)(he:starEach [a] X.env=(false,eval a X.env)::starEach [] X.env:=by rfl)(hpl:(backTo pos (starEach [] X.env)).any (·.1)=false:=by rfl):
  SN X (.Call (.Name "list" p) [a] [] pos) (zbQ t):=PE.wk (zks zkv hg hm (by first|exact boot_list|rfl) ha (by decide) (by decide) he hpl) fun σ H Q ⟨F,st,Qd,ok,h,k⟩=>
 ⟨F,st,_,ok,h,fun ds hd vs H1 s1 r1=>by
  split at hd
  ·obtain ⟨v,rfl,r⟩:=zhv r1;unfold Rep at r;obtain ⟨a,ws,rfl,hq,r⟩:=r;exact ⟨a,ws,rfl,.inl hq,fun l hl=>k _ hd ws H1 l s1 r hl⟩
  ·obtain ⟨v,rfl,r⟩:=zhv r1;unfold Rep at r;obtain ⟨a,ws,rfl,hq,r⟩:=r;exact ⟨a,ws,rfl,.inr hq,fun l hl=>k _ hd ws H1 l s1 r hl⟩
  ·exact hd.elim⟩
noncomputable def zum (K:PySem.W.Frag):R2:=fun x y H Q=>∃ l b xs zs,x= .ref l/\y= .ref b/\SqL K H l xs/\SqL K H b zs/\xs.length+zs.length<=sizeLine/\∀ p,H p=none->Q (.ref p) (upd H p (.lst (xs++zs)))
theorem zrs:OpR X (binaryOp .Add) (zum X.K):=by
 intro pins s σ H x y v u Q I rx ry h;obtain ⟨l,b,xs,zs,rfl,rfl,hH,hB,hz,q⟩:=h;cases rx;cases ry;obtain ⟨its,r,pl,z⟩:=I.list hH;obtain ⟨its2,r2,pl2,z2⟩:=I.list hB;have hl:=r.length;have hl2:=r2.length;obtain ⟨⟨cls,dd,data,sl⟩,ho,hc,n,hd⟩:=pl.isList;obtain ⟨⟨cls2,dd2,data2,sl2⟩,ho2,hc2,n2,hd2⟩:=pl2.isList;simp only at hc hd hc2 hd2;subst hc hd hc2 hd2;have ea:its.toArray++its2.toArray=(its++its2).toArray:=by simp
 refine concat_meets ⟨_,ho,rfl⟩ ⟨_,ho2,rfl⟩ noFill_list_add seq_list_add PySem.F.slot_list_add PySem.F.entry_list_add (PySem.F.args_list_add_2 _ _) (list_addW l b its.toArray its2.toArray n n2 dd dd2 sl sl2 (by rw [List.size_toArray,List.size_toArray];omega)) ⟨ho,ho2,?_⟩;rw [ea];exact ⟨.ref _,_,I.lnew (t':=s.toks) (r.append r2) (by rw [List.length_append];omega),rfl,q _ I.fresh⟩
noncomputable def zqB (ta tb:VE):VAs:=fun st Q=>ta st fun d=>tb st fun e=>match d,e with
 | .lst xs,.lst ys=>xs.length+ys.length<=sizeLine/\Q (xs++ys)
 |_,_=>False
theorem zjb (ha:SB X a ta)(hb:SB X b tb):SN X (.BinOp a .Add b pos) (zqB ta tb):=PE.wk (zq0 zrs ha hb) fun σ H Q ⟨F,st,Qd,ok,h,k⟩=>
 ⟨F,st,_,ok,h,fun d hd v H1 s1 r1=>⟨F,st,_,ok.same s1,hd,fun e he u H2 s2 r2=>by
  split at he
  ·unfold Rep at r1 r2;obtain ⟨l,vs,rfl,hq,r⟩:=r1;obtain ⟨m,ws,rfl,hq2,r2⟩:=r2;have r':=Reps.mono s2 (Tp.of s2) _ vs r;exact ⟨l,m,vs,ws,rfl,rfl,s2.seq hq,hq2,by rw [<-r.len,<-r2.len];exact he.1,fun p hp=>k _ he.2 _ H2 p (s1.trans s2) (r'.append r2) hp⟩
  ·exact he.elim⟩⟩
theorem Reps.rep {K:PySem.W.Frag}{F H:Hp}{ds:List D}{vs:List V}(r:Reps K F H ds vs):∀ k:Nat,Reps K F H (List.replicate k ds).flatten (List.replicate k vs).flatten
 |0=>by show Reps K F H [] [];unfold Reps;rfl
 |k+1=>by
  rw [List.replicate_succ,List.flatten_cons,List.replicate_succ,List.flatten_cons];exact r.append (Reps.rep r k)
end
noncomputable abbrev VF:=List D->(Md->D->Prop)->Prop
noncomputable def spV (K:PySem.W.Frag)(m:VF):Sp:=fun vs H Q _=>∃ ds Qd,Reps K H H ds vs/\m ds Qd/\∀ md d,Qd md d->∀ v H' F' os,Gr H H F' H'->RepM K F' H' md d v os->os.Nodup->(∀ a∈os,H a=none)->Q v H'
structure Cal (P:Program)(w:World)(K:PySem.W.Frag)(mg:Str->Option Value)(base:Heap)(k:Nat)(x:Str)(m:VF):Prop where
 ex:∃ f fd ps,FnOk P w K mg base CX0 k f fd ps (spV K m)/\mg x=some (.ref f)/\PySem.W.keepIn K (.ref f)=true/\Binds K fd ps []
theorem Cal.mono {P:Program}{w:World}{K:PySem.W.Frag}{mg:Str->Option Value}{base:Heap}{k j:Nat}{x:Str}{m:VF}(c:Cal P w K mg base k x m)(h:k<=j):Cal P w K mg base j x m:=
 let ⟨f,fd,ps,F,a,b,d⟩:=c.ex;⟨f,fd,ps,F.mono h,a,b,d⟩
noncomputable def kpt (m:Md)(d:D):Prop:=m= .ow\/(m= .sh/\d.flat=true)
section
variable {X:Cx}{e:Expr}{es:List Expr}{t:VAs}{x:Str}{p pos:Pos}{k:Nat}{m:VF}
noncomputable def zaq (m:VF)(t:VAs):VE:=fun st Q=>t st fun ds=>m ds fun _ d=>Q d
noncomputable def zaK (m:VF)(t:VAs):VO:=fun st Q=>t st fun ds=>m ds fun md d=>kpt md d/\Q md d
theorem zah (c:Cal X.prog X.w X.K X.mg X.base k x m)(hr:Room k X.A)(ha:SA X (e::es) t)(hg:Gl X x:=by rfl)(hdb:(x==("__debug__":Str))=false:=by decide)(he:starEach (e::es) X.env=(false,eval e X.env)::starEach es X.env:=by rfl)
  (hpl:(backTo pos (starEach es X.env)).any (·.1)=false:=by rfl):SB X (.Call (.Name x p) (e::es) [] pos) (zaq m t):=by
 obtain ⟨f,fd,ps,F,hm,hk,hb⟩:=c.ex;refine PE.wk (zlH F hr hg hm hk hb .nil zps ha hdb he hpl) fun σ H Q ⟨F,st,Qd,ok,h,k⟩=>⟨F,st,_,ok,h,fun ds hd vs H1 s1 r1=>?_⟩;show spV X.K m (vs++[]) H1 Q E0
 rw [List.append_nil];exact ⟨ds,_,r1,hd,fun md d q v H' F' os g r nd new=>k d q v H' (s1.trans g.same) (r.read g.sub)⟩
theorem zaB (c:Cal X.prog X.w X.K X.mg X.base k x m)(hr:Room k X.A)(ha:SA X (e::es) t)(hg:Gl X x:=by rfl)(hdb:(x==("__debug__":Str))=false:=by decide)(he:starEach (e::es) X.env=(false,eval e X.env)::starEach es X.env:=by rfl)
  (hpl:(backTo pos (starEach es X.env)).any (·.1)=false:=by rfl):SO X (.Call (.Name x p) (e::es) [] pos) (zaK m t):=by
 obtain ⟨f,fd,ps,F,hm,hk,hb⟩:=c.ex;refine PE.wk (zlH F hr hg hm hk hb .nil zps ha hdb he hpl) fun σ H Q ⟨F,st,Qd,ok,h,k⟩=>⟨F,st,_,ok,h,fun ds hd vs H1 s1 r1=>?_⟩;show spV X.K m (vs++[]) H1 Q E0
 rw [List.append_nil];refine ⟨ds,_,r1,hd,fun md d q v H' F' os g r nd new=>?_⟩;have g2:Gr F H F H':=Gr.of ok.sub (s1.trans g.same);rcases q.1 with z|⟨z,fl⟩
 ·subst z;refine k _ d q.2 v H' F os g2 (RepD.stay (Tp.of (Same.refl _)) d v os r fun a ha=>⟨rfl,?_⟩) nd fun a ha=>s1.free (new a ha);cases z:F a with
  |none=>rfl
  |some o=>
   have:=s1 _ _ (ok.sub _ _ z);rw [new a ha] at this;cases this
 ·subst z;exact k _ d q.2 v H' F [] g2 ⟨Rep.flatF d v r.1 fl,rfl⟩ List.nodup_nil (by simp)
end
structure VEnds where
 nx:LSt->Prop
 rt:Md->D->Prop
 bk:LSt->Prop:=fun _=>False
 ct:LSt->Prop:=fun _=>False
 rd:Bool->List (List Int×FD)->Prop:=fun _ _=>False
noncomputable abbrev VS:=VEnds->LSt->Prop
structure Fw (K:PySem.W.Frag)(F H F' H':Hp):Prop where
 f:Same F F'
 t:Tp K H H'
theorem Fw.refl {K:PySem.W.Frag}{F H:Hp}:Fw K F H F H:=⟨Same.refl F,fun _ _ z=>z⟩
theorem Fw.trans {K:PySem.W.Frag}{F H F1 H1 F2 H2:Hp}(a:Fw K F H F1 H1)(b:Fw K F1 H1 F2 H2):Fw K F H F2 H2:=⟨a.f.trans b.f,fun x y z=>b.t x y (a.t x y z)⟩
theorem Fw.of {K:PySem.W.Frag}{F H F' H':Hp}(a:Same F F')(b:Same H H'):Fw K F H F' H':=⟨a,Tp.of b⟩
theorem Fw.hs {K:PySem.W.Frag}{F H H':Hp}(b:Same H H'):Fw K F H F H':=⟨Same.refl F,Tp.of b⟩
structure Clo (K:PySem.W.Frag)(F H:Hp)(E:VEnds)(De:Ends):Prop where
 nx:∀ F' H' st σ,Fw K F H F' H'->Ok K F' H' st σ->E.nx st->De.nx σ H'
 bk:∀ F' H' st σ,Fw K F H F' H'->Ok K F' H' st σ->E.bk st->De.bk σ H'
 ct:∀ F' H' st σ,Fw K F H F' H'->Ok K F' H' st σ->E.ct st->De.ct σ H'
 rt:∀ F' H' md d v os,Fw K F H F' H'->Same F' H'->RepM K F' H' md d v os->os.Nodup->E.rt md d->De.rt v H'
 rd:∀ F' H' t kvs a,Fw K F H F' H'->Same F' H'->F' a=none->DIn K H' H' a t kvs->E.rd t kvs->De.rt (.ref a) H'
theorem Clo.up {K:PySem.W.Frag}{F H F' H':Hp}{E:VEnds}{De:Ends}(c:Clo K F H E De)(h:Fw K F H F' H'):Clo K F' H' E De:=
 ⟨fun F2 H2 st σ s ok q=>c.nx F2 H2 st σ (h.trans s) ok q,fun F2 H2 st σ s ok q=>c.bk F2 H2 st σ (h.trans s) ok q,fun F2 H2 st σ s ok q=>c.ct F2 H2 st σ (h.trans s) ok q,
  fun F2 H2 md d v os s s2 r nd q=>c.rt F2 H2 md d v os (h.trans s) s2 r nd q,fun F2 H2 t kvs a s s2 f r q=>c.rd F2 H2 t kvs a (h.trans s) s2 f r q⟩
noncomputable def lS (K:PySem.W.Frag)(t:VS):TS:=fun De σ H=>∃ F st E,Ok K F H st σ/\t E st/\Clo K F H E De
noncomputable def SS (X:Cx)(s:Stmt)(t:VS):Prop:=PS X s (lS X.K t)
noncomputable def SSs (X:Cx)(ss:List Stmt)(t:VS):Prop:=PSs X ss (lS X.K t)
section
variable {X:Cx}{s:Stmt}{ss rest:List Stmt}{t u:VS}{e c a b:Expr}{pos:Pos}
theorem PS.wk {t t':TS}(h:PS X s t)(hm:∀ D σ H,t' D σ H->t D σ H):PS X s t':=fun pins s σ H D I q=>h pins s σ H D I (hm D σ H q)
theorem PSs.wk {t t':TS}(h:PSs X ss t)(hm:∀ D σ H,t' D σ H->t D σ H):PSs X ss t':=fun pins s σ H D I q=>h pins s σ H D I (hm D σ H q)
noncomputable def zbD:VS:=fun E st=>E.nx st
noncomputable def zat (t u:VS):VS:=fun E st=>t {E with nx:=u E} st
theorem za2:SSs X [] zbD:=PSs.wk zqY fun De σ H zz=>by
 obtain ⟨F,st,E,ok,h,c⟩:=zz;exact c.nx F H st σ Fw.refl ok h
theorem zae (h1:SS X s t)(h2:SSs X rest u):SSs X (s::rest) (zat t u):=PSs.wk (zpj h1 h2) fun De σ H ⟨F,st,E,ok,h,c⟩=>
 ⟨F,st,_,ok,h,⟨fun F' H' st' σ' s ok' q=>⟨F',st',E,ok',q,c.up s⟩,c.bk,c.ct,c.rt,c.rd⟩⟩
theorem zaf (h1:SS X s t):SSs X [s] t:=PSs.wk (zqZ h1) fun De σ H h=>h
noncomputable def zmH:VS:=fun _ _=>False
theorem zn6:SS X s zmH:=PS.wk zpk fun De σ H zz=>by
 obtain ⟨F,st,E,ok,h,c⟩:=zz;exact h.elim
noncomputable def zrt (t:VE):VS:=fun E st=>t st fun _=>E.nx st
theorem zs1 {t:VE}(h:SB X e t)(hs:swapsWith e none pos.line X.env=pure false:=by rfl):SS X (.Expr e pos) (zrt t):=PS.wk (zgN h hs) fun De σ H ⟨F,st,E,ok,h,c⟩=>
 ⟨F,st,_,ok,h,fun d hd v H' s r=>c.nx F H' st σ (Fw.hs s) (ok.same s) hd⟩
noncomputable def zci (t:VO):VS:=fun E st=>t st E.rt
theorem zaD {t:VO}(h:SO X e t):SS X (.Return (some e) pos) (zci t):=PS.wk (znE h) fun De σ H ⟨F,st,E,ok,h,c⟩=>
 ⟨F,st,_,ok,h,fun m d hd v H' F' os g r nd new=>c.rt F' H' m d v os (Fw.of (g.fsame ok.sub) g.same) g.sub r nd hd⟩
noncomputable def zdW (i:Nat):VS:=fun E st=>match st[i]? with
 |some (some (.dw _ _,_))=>False
 |some (some (.ds _ _,_))=>False
 |some (some (m,d))=>E.rt m d
 |_=>False
theorem zdj (i:Nat){x:Str}{p:Pos}(hN:X.N[i]? =some x:=by rfl)(hv:Vis X.env.scope x:=by first|exact Or.inl rfl|exact Or.inr (Or.inl rfl)|exact Or.inr (Or.inr rfl))(hd:(x==("__debug__":Str))=false:=by decide)
  (hcd:(x==("__classdict__":Str))=false:=by decide):SS X (.Return (some (.Name x p)) pos) (zdW i):=PS.wk (znE (zdU hN hv hd hcd)) fun De σ H zz=>by
 obtain ⟨F,st,E,ok,h,c⟩:=zz;unfold zdW at h;split at h
 ·exact h.elim
 ·exact h.elim
 ·rename_i m d n1 n2 e;obtain ⟨O,o⟩:=ok;obtain ⟨v,e1,r⟩:=o.repM i m d e (.inl (by cases m<;>first|rfl|exact (n1 _ _ e).elim|exact (n2 _ _ e).elim|exact (n1 _ _ rfl).elim|exact (n2 _ _ rfl).elim));exact ⟨v,e1,c.rt F H m d v _ Fw.refl o.sub r (o.nd i) h⟩
 ·exact h.elim
noncomputable def ze7 (c:VT)(t u:VS):VS:=fun E st=>c st fun b=>if b=true then t E st else u E st
theorem zfR {bo el:List Stmt}{tc:VT}(hc:ST X c tc)(ha:SSs X bo t)(hb:SSs X el u):SS X (.If c bo el pos) (ze7 tc t u):=PS.wk (zt0 hc ha hb) fun De σ H ⟨F,st,E,ok,h,c⟩=>
 ⟨F,st,_,ok,h,fun b hb H1 s1=>by
  cases b with
  |true=>rw [if_pos rfl] at hb ⊢;exact ⟨F,st,E,ok.same s1,hb,c.up (Fw.hs s1)⟩
  |false=>rw [if_neg Bool.false_ne_true] at hb ⊢;exact ⟨F,st,E,ok.same s1,hb,c.up (Fw.hs s1)⟩⟩
theorem zqC {α:Type}{l:List α}{i:Nat}{x:α}(h:¬ i<l.length):l.set i x=l:=List.set_eq_of_length_le (by omega)
theorem Ok.put' {K:PySem.W.Frag}{F H F₀ H₀:Hp}{st:LSt}{σ:St}(ok:Ok K F₀ H₀ st σ)(g:Gr F₀ H₀ F H){i:Nat}{m:Md}{d:D}{v:V}{os:List Addr}(r:RepM K F H m d v os)(nd:os.Nodup)(new:∀ a∈os,H₀ a=none):Ok K F H (st.set i (some (m,d))) (σ.set i (some v)):=by
 by_cases hi:i<st.length
 ·exact ok.put g hi (RepS.of r) nd new
 ·rw [zqC hi,zqC (by rw [ok.len];exact hi)];exact ok.grow g
noncomputable def zbd (i:Nat)(t:VO):VS:=fun E st=>t st fun m d=>E.nx (st.set i (some (m,d)))
theorem zaA {i:Nat}{x:Str}{t:VO}{p:Pos}(hN:X.N.Nodup)(he:SO X e t)(hi:X.N[i]? =some x:=by rfl)(hx:Loc X.env.scope x:=by first|exact Or.inl rfl|exact Or.inr rfl)(hs:swapsWith e (some (.Name x p)) pos.line X.env=pure false:=by rfl)
  (hf:X.fn x=true\/X.env.scope.names.lookup x=some .local:=by first|exact .inl rfl|exact .inr rfl):SS X (.Assign [.Name x p] e pos) (zbd i t):=PS.wk (zqw hN hi hx he hs hf) fun De σ H ⟨F,st,E,ok,h,c⟩=>
 ⟨F,st,_,ok,h,fun m d hd v H' F' os g r nd new=>c.nx F' H' _ _ (Fw.of (g.fsame ok.sub) g.same) (ok.put' g r nd new) hd⟩
end
theorem zhO {α:Type}{l:List α}{i:Nat}{x:α}(h:l[i]? =some x):l.set i x=l:=by
 apply List.ext_getElem?;intro j;by_cases hj:i=j
 ·subst hj;rw [List.getElem?_set_self (List.getElem?_eq_some_iff.mp h).1,h]
 ·rw [List.getElem?_set_ne hj]
section
variable {K:PySem.W.Frag}{F F' H H':Hp}{st:LSt}{σ:St}{O:Nat->List Addr}
theorem OkO.rewrite (ok:OkO K F H st σ O){i:Nat}{mi m':Md}{di d':D}{v:V}{a:Addr}{o:HO}{os:List Addr}(hi:st[i]? =some (some (mi,di)))(hv:σ[i]? =some (some v))(ha:a∈O i)(hF:Same F F')(hs:Same F' (upd H a o))(hO:∀ j,∀ b∈O j,F' b=none)
  (r:RepS K F' (upd H a o) m' d' v os)(nd:os.Nodup)(sep:∀ j,j≠i->∀ b∈os,b∉O j):Ok K F' (upd H a o) (st.set i (some (m',d'))) σ:=by
 have o1:=ok.drop i;obtain ⟨vs,q,n1,n2⟩:=ok.thereN ha;have o2:OkO K F' (upd H a o) (st.set i none) σ fun j=>if j=i then [] else O j:=o1.stay (Tp.updN q n1 n2) hF hs fun j b hb=>by
  have hb:b∈(if j=i then [] else O j):=hb;split at hb
  ·cases hb
  ·rename_i n;refine ⟨upd_ne fun z=>n ?_,hO j b hb⟩;subst z;exact ok.dj _ _ _ hb ha
 have hl:i<(st.set i none).length:=by rw [List.length_set];exact (List.getElem?_eq_some_iff.mp hi).1
 have o3:=o2.set hl r nd fun j n b hb hc=>by
  have hc:b∈(if j=i then [] else O j):=hc;rw [if_neg n] at hc;exact sep j n b hb hc
 rw [List.set_set,zhO hv] at o3;exact ⟨_,o3⟩
theorem OkO.newSep {F₀ H₀:Hp}(ok:OkO K F₀ H₀ st σ O){os:List Addr}(new:∀ a∈os,H₀ a=none):∀ j,∀ b∈os,b∉O j:=fun j b hb hc=>by
 obtain ⟨_,vs,q⟩:=ok.there hc;rw [new b hb] at q;cases q
end
noncomputable def appM:Md->Md->D->Option Md
 | .ow,.ow,_=>some .ow
 | .ow,.sh,d=>if d.flat then some .ow else none
 | .o1,.sh,_=>some .o1
 | .o1,.ow,_=>some .o1
 | .oa a,.ow,_=>some (.oa a)
 | .oa a,.sh,d=>if d.flat then some (.oa a) else none
 |_,_,_=>none
section
variable {K:PySem.W.Frag}{F H:Hp}
theorem RepDs.append:∀ {xs:List D} {vs:List V} {o:List Addr} {d:D} {v:V} {os:List Addr},RepDs K F H xs vs o->RepD K F H d v os->RepDs K F H (xs++[d]) (vs++[v]) (o++os)
 | [],vs,o,d,v,os,h,r=>by
  unfold RepDs at h;obtain ⟨rfl,rfl⟩:=h;show RepDs K F H [d] [v] os
  unfold RepDs;exact ⟨v,[],os,[],rfl,by simp,r,by unfold RepDs;exact ⟨rfl,rfl⟩⟩
 |x::xs,vs,o,d,v,os,h,r=>by
  unfold RepDs at h;obtain ⟨w,q,o1,o2,rfl,rfl,a,b⟩:=h;show RepDs K F H (x::(xs++[d])) (w::(q++[v])) ((o1++o2)++os);unfold RepDs;exact ⟨w,_,o1,o2++os,rfl,by simp,a,RepDs.append b r⟩
theorem RepDs.len:∀ {xs:List D} {vs:List V} {o:List Addr},RepDs K F H xs vs o->xs.length=vs.length
 | [],vs,o,h=>by unfold RepDs at h;rw [h.1];rfl
 |x::xs,vs,o,h=>by
  unfold RepDs at h;obtain ⟨w,q,o1,o2,rfl,rfl,a,b⟩:=h;rw [List.length_cons,List.length_cons,RepDs.len b]
theorem RepDs.set:∀ {xs:List D} {vs:List V} {o:List Addr} (n:Nat) {d:D} {v:V} {os:List Addr},RepDs K F H xs vs o->RepD K F H d v os->o.Nodup->os.Nodup->(∀ b∈os,b∉o)->∃ o',RepDs K F H (xs.set n d) (vs.set n v) o'/\o'.Nodup/\∀ b∈o',b∈o\/b∈os
 | [],vs,o,n,d,v,os,h,r,nd,_,_=>by
  unfold RepDs at h;obtain ⟨rfl,rfl⟩:=h;exact ⟨[],by show RepDs K F H [] [] [];unfold RepDs;exact ⟨rfl,rfl⟩,nd,fun b hb=>.inl hb⟩
 |x::xs,vs,o,n,d,v,os,h,r,nd,nd2,dj=>by
  unfold RepDs at h;obtain ⟨w,q,o1,o2,rfl,rfl,a,b⟩:=h;rw [List.nodup_append] at nd;cases n with
  |zero=>
   refine ⟨os++o2,?_,?_,fun c hc=>?_⟩
   ·show RepDs K F H (d::xs) (v::q) (os++o2);unfold RepDs;exact ⟨v,q,os,o2,rfl,rfl,r,b⟩
   ·rw [List.nodup_append];exact ⟨nd2,nd.2.1,fun c hc e he z=>dj c hc (List.mem_append_right _ (z▸he))⟩
   ·rcases List.mem_append.mp hc with z|z
    ·exact .inr z
    ·exact .inl (List.mem_append_right _ z)
  |succ n=>
   obtain ⟨o',r',n',s'⟩:=RepDs.set n b r nd.2.1 nd2 fun c hc z=>dj c hc (List.mem_append_right _ z);refine ⟨o1++o',?_,?_,fun c hc=>?_⟩
   ·show RepDs K F H (x::xs.set n d) (w::q.set n v) (o1++o');unfold RepDs;exact ⟨w,_,o1,o',rfl,rfl,a,r'⟩
   ·rw [List.nodup_append];refine ⟨nd.1,n',fun c hc e he z=>?_⟩;subst z;rcases s' c he with z|z
    ·exact nd.2.2 c hc c z rfl
    ·exact dj c z (List.mem_append_left _ hc)
   ·rcases List.mem_append.mp hc with z|z
    ·exact .inl (List.mem_append_left _ z)
    ·rcases s' c z with z|z
     ·exact .inl (List.mem_append_right _ z)
     ·exact .inr z
theorem Reps.set:∀ {xs:List D} {vs:List V} (n:Nat) {d:D} {v:V},Reps K F H xs vs->Rep K F H d v->Reps K F H (xs.set n d) (vs.set n v)
 | [],vs,n,d,v,h,r=>by unfold Reps at h;subst h;unfold Reps;rfl
 |x::xs,vs,0,d,v,h,r=>by
  unfold Reps at h;obtain ⟨w,q,rfl,a,b⟩:=h;show Reps K F H (d::xs) (v::q);unfold Reps;exact ⟨v,q,rfl,r,b⟩
 |x::xs,vs,n+1,d,v,h,r=>by
  unfold Reps at h;obtain ⟨w,q,rfl,a,b⟩:=h;show Reps K F H (x::xs.set n d) (w::q.set n v);unfold Reps;exact ⟨w,_,rfl,a,Reps.set n b r⟩
theorem zmI {F₀ H₀:Hp}{st:LSt}{σ:St}{O:Nat->List Addr}{i:Nat}{mi m m':Md}{xs:List D}{d:D}{v:V}{os:List Addr}(n:Option Nat)(o0:OkO K F₀ H₀ st σ O)(hoa:∀ a,mi≠ .oa a)(g:Gr F₀ H₀ F H)(hi:st[i]? =some (some (mi,.lst xs)))(hm:appM mi m d=some m')(r:RepM K F H m d v os)(nd:os.Nodup)(sepN:∀ j,∀ b∈os,b∉O j):
  ∃ a vs,σ[i]? =some (some (.ref a))/\H a=some (.lst vs)/\xs.length=vs.length/\∃ F',Same F₀ F'/\
   Ok K F' (upd H a (.lst (match n with|none=>vs++[v]|some n=>vs.set n v))) (st.set i (some (m',.lst (match n with|none=>xs++[d]|some n=>xs.set n d)))) σ:=by
 have o:=o0.grow g;obtain ⟨w,hw,rw'⟩:=o.repL i mi xs hi;have hF:=g.fsame o0.sub;have hne:∀ b∈os,∀ j,b∉O j:=fun b hb j=>sepN j b hb;cases mi with
 |sh=>cases m<;>cases hm
 |dw t k=>exact rw'.elim
 |ds t k=>exact rw'.elim
 |oa a=>exact absurd rfl (hoa a)
 |ow=>
  have rw':RepD K F H (.lst xs) w (O i):=rw';unfold RepD at rw';obtain ⟨a,vs,oi,rfl,eO,q,f,rr⟩:=rw';have haO:a∈O i:=by rw [eO];exact List.mem_cons_self
  have ndO:=o.nd i;rw [eO,List.nodup_cons] at ndO;have rd:∃ os',RepD K F H d v os'/\os'.Nodup/\(∀ b∈os',b∈os)/\m'= .ow:=by
   cases m with
   |ow=>exact ⟨os,r,nd,fun _ z=>z,(Option.some.inj hm).symm⟩
   |sh=>
    have hm:(if d.flat=true then some Md.ow else none)=some m':=hm;by_cases fl:d.flat=true
    ·rw [if_pos fl] at hm;exact ⟨[],Rep.own d v r.1 fl,List.nodup_nil,(fun _ z=>nomatch z),(Option.some.inj hm).symm⟩
    ·rw [if_neg fl] at hm;cases hm
   |o1=>cases hm
   |dw t k=>cases hm
   |ds t k=>cases hm
   |oa a=>cases hm
  obtain ⟨os',rd,nd',sub',rfl⟩:=rd;have sepA:∀ b∈os',b≠a:=fun b hb z=>hne b (sub' b hb) i (by rw [z];exact haO);have stayI:∀ {ys:List D} {ws:List V} {o2:List Addr} (x:List V),RepDs K F H ys ws o2->(∀ b∈o2,b∈oi\/b∈os')->RepDs K F (upd H a (.lst x)) ys ws o2:=fun x h hb=>RepDs.stay (Tp.upd q) _ _ _ h fun b hb'=>by
   have n1:b≠a:=by
    rcases hb b hb' with z|z
    ·exact fun e=>ndO.1 (by rw [<-e];exact z)
    ·exact sepA b z
   refine ⟨upd_ne n1,?_⟩;rcases hb b hb' with z|z
   ·exact (RepDs.there _ _ _ rr b z).1
   ·exact (RepD.there _ _ _ rd b z).1
  have subF:∀ x,Same F (upd H a (.lst x)):=fun x b u e=>by
   rw [upd_ne (fun z=>by rw [z,f] at e;cases e)];exact o.sub b u e
  refine ⟨a,vs,hw,q,RepDs.len rr,F,hF,?_⟩;have fin:∀ (ys:List D) (ws:List V) (o2:List Addr),RepDs K F H ys ws o2->o2.Nodup->(∀ b∈o2,b∈oi\/b∈os')->Ok K F (upd H a (.lst ws)) (st.set i (some (.ow,.lst ys))) σ:=fun ys ws o2 h2 n2 s2=>by
   refine o.rewrite (os:=a::o2) hi hw haO (Same.refl F) (subF ws) (fun j b hb=>(o.there hb).1) ?_ ?_ fun j hj b hb hc=>?_
   ·show RepD K F (upd H a (.lst ws)) (.lst ys) (.ref a) (a::o2);unfold RepD;exact ⟨a,ws,o2,rfl,rfl,zaH,f,stayI ws h2 s2⟩
   ·refine List.nodup_cons.mpr ⟨fun z=>?_,n2⟩;rcases s2 a z with z|z
    ·exact ndO.1 z
    ·exact sepA a z rfl
   ·rcases List.mem_cons.mp hb with z|z
    ·subst z;exact hj (o.dj _ _ _ hc haO)
    ·rcases s2 b z with z|z
     ·exact hj (o.dj _ _ _ hc (by rw [eO];exact List.mem_cons_of_mem _ z))
     ·exact hne b (sub' b z) j hc
  have disj:∀ b∈os',b∉oi:=fun b hb z=>hne b (sub' b hb) i (by rw [eO];exact List.mem_cons_of_mem _ z);cases n with
  |none=>
   refine fin _ _ (oi++os') (RepDs.append rr rd) ?_ fun b hb=>List.mem_append.mp hb;rw [List.nodup_append];exact ⟨ndO.2,nd',fun b hb c hc z=>disj c hc (z▸hb)⟩
  |some n=>
   obtain ⟨o2,h2,n2,s2⟩:=RepDs.set n rr rd ndO.2 nd' disj;exact fin _ _ o2 h2 n2 s2
 |o1=>
  obtain ⟨ys,a,vs,e1,rfl,eO,q,f,rr⟩:=rw';have e1:xs=ys:=by cases e1;rfl
  subst e1;have haO:a∈O i:=by rw [eO];exact List.mem_cons_self
  let F':Hp:=fun b=>if b∈os then H b else F b
  have hFF:Same F F':=fun b u e=>by
   show (if b∈os then H b else F b)=some u
   by_cases hb:b∈os
   ·rw [if_pos hb];exact o.sub b u e
   ·rw [if_neg hb];exact e
  have hFos:∀ b∈os,F' b=H b:=fun b hb=>if_pos hb;have hFO:∀ j,∀ b∈O j,F' b=none:=fun j b hb=>by
   show (if b∈os then H b else F b)=none
   rw [if_neg (fun z=>hne b z j hb)];exact (o.there hb).1
  have r':Rep K F' H d v:=(r.give hFF hFos).1;have hm':m'= .o1:=by
   cases m with
   |sh=>exact (Option.some.inj hm).symm
   |ow=>exact (Option.some.inj hm).symm
   |o1=>cases hm
   |dw t k=>cases hm
   |ds t k=>cases hm
   |oa a=>cases hm
  subst hm';have subF:∀ x,Same F' (upd H a (.lst x)):=fun x b u e=>by
   have n1:b≠a:=fun z=>by rw [z,hFO i a haO] at e;cases e
   rw [upd_ne n1];have e:(if b∈os then H b else F b)=some u:=e;by_cases hb:b∈os
   ·rw [if_pos hb] at e;exact e
   ·rw [if_neg hb] at e;exact o.sub b u e
  refine ⟨a,vs,hw,q,rr.len,F',hF.trans hFF,?_⟩;have fin:∀ (ys:List D) (ws:List V),Reps K F' H ys ws->Ok K F' (upd H a (.lst ws)) (st.set i (some (.o1,.lst ys))) σ:=fun ys ws h2=>by
   refine o.rewrite (os:=[a]) hi hw haO hFF (subF ws) hFO ?_ (by simp) fun j hj b hb hc=>?_
   ·exact ⟨ys,a,ws,rfl,rfl,rfl,zaH,hFO i a haO,Reps.mono (Same.refl _) (Tp.upd q) ys ws h2⟩
   ·rw [List.mem_singleton] at hb;subst hb;exact hj (o.dj _ _ _ hc haO)
  have rr':Reps K F' H xs vs:=Reps.mono hFF (Tp.of (Same.refl H)) xs vs rr;cases n with
  |none=>exact fin _ _ (rr'.append (Reps.one r'))
  |some n=>exact fin _ _ (rr'.set n r')
theorem zhP {F₀ H₀:Hp}{st:LSt}{σ:St}{i:Nat}{mi m m':Md}{xs:List D}{d:D}{v:V}{os:List Addr}(n:Option Nat)(ok:Ok K F₀ H₀ st σ)(hoa:∀ a,mi≠ .oa a)(g:Gr F₀ H₀ F H)(hi:st[i]? =some (some (mi,.lst xs)))(hm:appM mi m d=some m')(r:RepM K F H m d v os)(nd:os.Nodup)(new:∀ a∈os,H₀ a=none):
  ∃ a vs,σ[i]? =some (some (.ref a))/\H a=some (.lst vs)/\xs.length=vs.length/\∃ F',Same F₀ F'/\
   Ok K F' (upd H a (.lst (match n with|none=>vs++[v]|some n=>vs.set n v))) (st.set i (some (m',.lst (match n with|none=>xs++[d]|some n=>xs.set n d)))) σ:=by
 obtain ⟨O,o0⟩:=ok;exact zmI n o0 hoa g hi hm r nd (o0.newSep new)
theorem Ok.mode {st:LSt}{σ:St}{i:Nat}{mi m':Md}{d:D}(ok:Ok K F H st σ)(hi:st[i]? =some (some (mi,d)))(hr:∀ v os,σ[i]? =some (some v)->RepS K F H mi d v os->RepS K F H m' d v os):Ok K F H (st.set i (some (m',d))) σ:=by
 obtain ⟨O,o⟩:=ok;have hl:=(List.getElem?_eq_some_iff.mp hi).1;refine ⟨O,by rw [List.length_set];exact o.len,o.sub,fun j m d' e=>?_,o.nd,o.dj,fun j hj=>o.emp j fun m d' e=>?_⟩
 ·by_cases hji:j=i
  ·subst hji;rw [List.getElem?_set_self hl] at e;cases e;obtain ⟨v,hv,r⟩:=o.rep j mi d hi;exact ⟨v,hv,hr v _ hv r⟩
  ·rw [List.getElem?_set_ne (Ne.symm hji)] at e;exact o.rep j m d' e
 ·by_cases hji:j=i
  ·subst hji;exact hj m' d (List.getElem?_set_self hl)
  ·exact hj m d' (by rw [List.getElem?_set_ne (Ne.symm hji)];exact e)
theorem Ok.weak {st:LSt}{σ:St}{i:Nat}{a:Addr}{d:D}(ok:Ok K F H st σ)(hi:st[i]? =some (some (.oa a,d))):Ok K F H (st.set i (some (.ow,d))) σ/\σ[i]? =some (some (.ref a)):=by
 refine ⟨ok.mode hi fun v os _ r=>r.2,?_⟩;obtain ⟨O,o⟩:=ok;obtain ⟨v,hv,r⟩:=o.rep i _ _ hi;rw [hv,r.1]
theorem Ok.strong {st:LSt}{σ:St}{i:Nat}{a:Addr}{d:D}(ok:Ok K F H st σ)(hi:st[i]? =some (some (.ow,d)))(hv:σ[i]? =some (some (.ref a))):Ok K F H (st.set i (some (.oa a,d))) σ:=
 ok.mode hi fun v os e r=>⟨by rw [hv] at e;cases e;rfl,r⟩
theorem zjy {F₀ H₀:Hp}{st:LSt}{σ:St}{i:Nat}{mi m m':Md}{xs:List D}{d:D}{v:V}{os:List Addr}(n:Option Nat)(ok:Ok K F₀ H₀ st σ)(g:Gr F₀ H₀ F H)(hi:st[i]? =some (some (mi,.lst xs)))(hm:appM mi m d=some m')(r:RepM K F H m d v os)(nd:os.Nodup)(new:∀ a∈os,H₀ a=none):
  ∃ a vs,σ[i]? =some (some (.ref a))/\H a=some (.lst vs)/\xs.length=vs.length/\∃ F',Same F₀ F'/\
   Ok K F' (upd H a (.lst (match n with|none=>vs++[v]|some n=>vs.set n v))) (st.set i (some (m',.lst (match n with|none=>xs++[d]|some n=>xs.set n d)))) σ:=by
 cases mi with
 |dw t k=>cases m<;>cases hm
 |ds t k=>cases m<;>cases hm
 |sh=>exact zhP n ok (fun a z=>by cases z) g hi hm r nd new
 |o1=>exact zhP n ok (fun a z=>by cases z) g hi hm r nd new
 |ow=>exact zhP n ok (fun a z=>by cases z) g hi hm r nd new
 |oa a0=>
  have hl:=(List.getElem?_eq_some_iff.mp hi).1;obtain ⟨ok0,hv⟩:=ok.weak hi;have hm2:appM .ow m d=some .ow/\m'= .oa a0:=by
   cases m with
   |ow=>exact ⟨rfl,(Option.some.inj hm).symm⟩
   |sh=>
    have hm:(if d.flat=true then some (Md.oa a0) else none)=some m':=hm;show (if d.flat=true then some Md.ow else none)=some .ow/\_
    by_cases fl:d.flat=true
    ·rw [if_pos fl] at hm ⊢;exact ⟨rfl,(Option.some.inj hm).symm⟩
    ·rw [if_neg fl] at hm;cases hm
   |o1=>cases hm
   |dw t k=>cases hm
   |ds t k=>cases hm
   |oa a=>cases hm
  obtain ⟨hm2,rfl⟩:=hm2;obtain ⟨a,vs,ha,q,hlen,F',hs,ok1⟩:=zhP n ok0 (fun a z=>by cases z) g (List.getElem?_set_self hl) hm2 r nd new;refine ⟨a,vs,ha,q,hlen,F',hs,?_⟩;rw [List.set_set] at ok1;have:=ok1.strong (List.getElem?_set_self hl) hv;rwa [List.set_set] at this
end
section
variable {X:Cx}{e c a b i1 i2:Expr}{pos apos cpos p p2 p3:Pos}{x:Str}
noncomputable def zn7 (i:Nat)(t:VO):VS:=fun E st=>match st[i]? with
 |some (some (mi,.lst xs))=>t st fun m d=>(match appM mi m d with
  |some m'=>xs.length<sizeLine/\E.nx (st.set i (some (m',.lst (xs++[d]))))
  |none=>False)
 |_=>False
theorem zkI (i:Nat){t:VO}(he:SO X e t)(hN:X.N[i]? =some x:=by rfl)(hv:Vis X.env.scope x:=by first|exact Or.inl rfl|exact Or.inr (Or.inl rfl)|exact Or.inr (Or.inr rfl))(hd:(x==("__debug__":Str))=false:=by decide)
  (hcd:(x==("__classdict__":Str))=false:=by decide)(hs:swapsWith (.Call (.Attribute (.Name x p) "append" apos) [e] [] cpos) none pos.line X.env=pure false:=by rfl)
  (hbase:attributeBase (.Name x p) "append" X.env (eval (.Name x p) X.env)=eval (.Name x p) X.env:=by rfl)
  (hfew:((backTo cpos (starEach [e] X.env)).all (fun x=> !x.1)&&(backToKw cpos (keywordEach [] X.env)).all (fun x=>x.1.isSome)&&decide ([e].length+([]:List Keyword).length+(if ([]:List Keyword).isEmpty then 0 else 1)<30))=true:=by rfl)
  (hline:(apos.endLine==cpos.line)=true:=by rfl)(hst:starEach [e] X.env=(false,eval e X.env)::starEach [] X.env:=by rfl)(hpl:(backTo cpos (starEach [] X.env)).any (·.1)=false:=by rfl):
  SS X (.Expr (.Call (.Attribute (.Name x p) "append" apos) [e] [] cpos) pos) (zn7 i t):=
 PS.wk (zgN (znT PySem.F.plainAttrs_list PySem.F.slot_list_append PySem.F.type_list_append zky (zdU hN hv hd hcd) (zcm he zfU hst) hbase hfew hline hst hpl) hs) fun De σ H zz=>by
 obtain ⟨F,st,E,ok,h,c⟩:=zz;unfold zn7 at h;split at h
 ·rename_i mi xs hi;obtain ⟨O,o⟩:=id ok;obtain ⟨w,hw,rw'⟩:=o.repL i mi _ hi;have rd:=rw'.read o.sub;unfold Rep at rd;obtain ⟨a,vs,rfl,hq,_⟩:=rd;refine ⟨.ref a,hw,.inl ⟨rfl,vs,hq⟩,F,st,_,ok,h,fun m d hd v H' F' os g r nd new=>?_⟩;split at hd
  ·rename_i m' hm;obtain ⟨a',vs',hw',q,hl,F2,s2,ok2⟩:=zjy none ok g hi hm r nd new;rw [hw] at hw';cases hw';exact ⟨a,vs',v,rfl,rfl,q,by rw [<-hl];exact hd.1,c.nx F2 _ _ σ ⟨s2,fun x y z=>Tp.upd q x y (Tp.of g.same x y z)⟩ ok2 hd.2⟩
  ·exact hd.elim
 ·exact h.elim
noncomputable def zqD (i:Nat)(t:VO)(tk:VE):VS:=fun E st=>match st[i]? with
 |some (some (mi,.lst xs))=>t st fun m d=>tk st fun j=>(match j with
  | .int k=>(match ixN xs.length k,appM mi m d with
   |some n,some m'=>E.nx (st.set i (some (m',.lst (xs.set n d))))
   |_,_=>False)
  |_=>False)
 |_=>False
theorem zn8 (i:Nat){t:VO}{tk:VE}(he:SO X e t)(hk:SB X i1 tk)(hN:X.N[i]? =some x:=by rfl)(hv:Vis X.env.scope x:=by first|exact Or.inl rfl|exact Or.inr (Or.inl rfl)|exact Or.inr (Or.inr rfl))(hd:(x==("__debug__":Str))=false:=by decide)
  (hcd:(x==("__classdict__":Str))=false:=by decide)
  (ha:∀ v,assign (.Subscript (.Name x p) i1 p2) X.env v=(do
   let ov <-holding [v] (eval (.Name x p) X.env)
   let iv <-holding [v,ov] (eval i1 X.env)
   standAt p2
   holding [v,ov,iv] (setItem ov iv v)
   release [v,ov,iv] []):=by intro _;rfl)
  (hs:swapsWithSole [.Subscript (.Name x p) i1 p2] e pos.line X.env=pure false:=by rfl)(hw:swappedStores [.Subscript (.Name x p) i1 p2] e X.env=pure none:=by rfl)
  (h1:(assignEach [.Subscript (.Name x p) i1 p2] X.env).map (·.2)=[assign (.Subscript (.Name x p) i1 p2) X.env]:=by rfl):
  SS X (.Assign [.Subscript (.Name x p) i1 p2] e pos) (zqD i t tk):=
 PS.wk (zqv he (zqu (zdU hN hv hd hcd) hk zmv ha) hs hw h1) fun De σ H zz=>by
 obtain ⟨F,st,E,ok,h,c⟩:=zz;unfold zqD at h;split at h
 ·rename_i mi xs hi;obtain ⟨O,o⟩:=id ok;obtain ⟨w,hw,rw'⟩:=o.repL i mi _ hi;have rd:=rw'.read o.sub;unfold Rep at rd;obtain ⟨a,vs,rfl,hq,rr⟩:=rd;refine ⟨F,st,_,ok,h,fun m d hd v H' F' os g r nd new=>?_⟩;refine ⟨.ref a,hw,F',st,_,ok.grow g,hd,fun j hj jv H2 s2 rj=>?_⟩;split at hj
  ·rename_i k;have rj:jv= .int k:=rj;subst rj;split at hj
   ·rename_i n m' hn hm;have g2:Gr F H F' H2:=g.trans (Gr.of g.sub s2);obtain ⟨a',vs',hw',q,hl,F2,s3,ok2⟩:=zjy (some n) ok g2 hi hm (r.stay (Tp.of s2) (Same.refl _) fun b hb=>by
     obtain ⟨f,zs,z⟩:=r.there b hb;exact ⟨(s2 _ _ z).trans z.symm,f⟩) nd new
    rw [hw] at hw';cases hw';exact ⟨a,vs',k,n,rfl,rfl,q,by rw [<-hl];exact hn,c.nx F2 _ _ σ ⟨s3,fun x y z=>Tp.upd q x y (Tp.of g2.same x y z)⟩ ok2 hj⟩
   ·exact hj.elim
  ·exact hj.elim
 ·exact h.elim
end
section
variable {K:PySem.W.Frag}{F H:Hp}
theorem RepDs.set2 {b:Addr}{ws:List V}{n:Nat}{d:D}{v:V}(hb:H b=some (.lst ws))(r:∀ x,Rep K F (upd H b (.lst x)) d v)(fl:d.flat=true):∀ {xs:List D} {vs:List V} {o:List Addr} (k:Nat) {ys:List D},RepDs K F H xs vs o->o.Nodup->xs[k]? =some (.lst ys)->vs[k]? =some (.ref b)->
  (∃ o',RepDs K F (upd H b (.lst (ws.set n v))) (xs.set k (.lst (ys.set n d))) vs o'/\o'.Nodup/\∀ c∈o',c∈o)/\b∈o/\ys.length=ws.length
 | [],vs,o,k,ys,h,nd,e,e2=>by simp at e
 |x::xs,vs,o,k,ys,h,nd,e,e2=>by
  unfold RepDs at h;obtain ⟨w,q,o1,o2,rfl,rfl,a,t⟩:=h;rw [List.nodup_append] at nd;cases k with
  |zero=>
   simp at e e2;subst e e2;unfold RepD at a;obtain ⟨a',zs,o1',e3,rfl,q',f,rr⟩:=a;cases e3;rw [hb] at q';cases q';have nb:b∉o1':=(List.nodup_cons.mp nd.1).1;have nb2:b∉o2:=fun z=>nd.2.2 b List.mem_cons_self b z rfl;refine ⟨?_,List.mem_append_left _ List.mem_cons_self,RepDs.len rr⟩;have rr':RepDs K F (upd H b (.lst (ws.set n v))) ys ws o1':=RepDs.stay (Tp.upd hb) ys ws o1' rr fun c hc=>⟨upd_ne (fun z=>nb (z▸hc)),(RepDs.there _ _ _ rr c hc).1⟩;obtain ⟨o',r',n',s'⟩:=RepDs.set n rr' (Rep.own d v (r _) fl) (List.nodup_cons.mp nd.1).2 List.nodup_nil (fun _ z=>nomatch z);have s'':∀ c∈o',c∈o1':=fun c hc=>(s' c hc).elim id fun z=>nomatch z
   refine ⟨(b::o')++o2,?_,?_,fun c hc=>?_⟩
   ·show RepDs K F (upd H b (.lst (ws.set n v))) (.lst (ys.set n d)::xs) (.ref b::q) ((b::o')++o2);unfold RepDs;refine ⟨.ref b,q,_,o2,rfl,rfl,?_,RepDs.stay (Tp.upd hb) xs q o2 t fun c hc=>⟨upd_ne (fun z=>nb2 (z▸hc)),(RepDs.there _ _ _ t c hc).1⟩⟩;unfold RepD;exact ⟨b,_,o',rfl,rfl,zaH,f,r'⟩
   ·rw [List.nodup_append];refine ⟨List.nodup_cons.mpr ⟨fun z=>nb (s'' b z),n'⟩,nd.2.1,fun c hc e he z=>?_⟩;rcases List.mem_cons.mp hc with y|y
    ·exact nb2 (by rw [<-y,z];exact he)
    ·exact nd.2.2 c (List.mem_cons_of_mem _ (s'' c y)) e he z
   ·rcases List.mem_append.mp hc with y|y
    ·rcases List.mem_cons.mp y with y|y
     ·rw [y];exact List.mem_append_left _ List.mem_cons_self
     ·exact List.mem_append_left _ (List.mem_cons_of_mem _ (s'' c y))
    ·exact List.mem_append_right _ y
  |succ k=>
   obtain ⟨⟨o',r',n',s'⟩,hbo,hl⟩:=RepDs.set2 hb r fl k t nd.2.1 (by simpa using e) (by simpa using e2);have nb1:b∉o1:=fun z=>nd.2.2 b z b hbo rfl;refine ⟨⟨o1++o',?_,?_,fun c hc=>?_⟩,List.mem_append_right _ hbo,hl⟩
   ·show RepDs K F (upd H b (.lst (ws.set n v))) (x::xs.set k (.lst (ys.set n d))) (w::q) (o1++o');unfold RepDs;exact ⟨w,q,o1,o',rfl,rfl,RepD.stay (Tp.upd hb) x w o1 a fun c hc=>⟨upd_ne (fun z=>nb1 (z▸hc)),(RepD.there _ _ _ a c hc).1⟩,r'⟩
   ·rw [List.nodup_append];exact ⟨nd.1,n',fun c hc e he z=>nd.2.2 c hc e (s' e he) z⟩
   ·rcases List.mem_append.mp hc with y|y
    ·exact List.mem_append_left _ y
    ·exact List.mem_append_right _ (s' c y)
end
section
variable {X:Cx}{e c a b i1 i2:Expr}{pos apos cpos p p2 p3:Pos}{x:Str}
noncomputable def zaG (i:Nat)(t tk tj:VE):VS:=fun E st=>match st[i]? with
 |some (some (mi,.lst xs))=>znW mi=true/\t st fun d=>tk st fun k=>(match k with
  | .int k=>(match ixN xs.length k with
   |some n=>(match xs[n]? with
    |some (.lst ys)=>tj st fun j=>(match j with
     | .int j=>(match ixN ys.length j with
      |some m=>d.flat=true/\E.nx (st.set i (some (mi,.lst (xs.set n (.lst (ys.set m d))))))
      |none=>False)
     |_=>False)
    |_=>False)
   |none=>False)
  |_=>False)
 |_=>False
theorem zeo (i:Nat){t tk tj:VE}(he:SB X e t)(hk:SB X i1 tk)(hj:SB X i2 tj)(hN:X.N[i]? =some x:=by rfl)(hv:Vis X.env.scope x:=by first|exact Or.inl rfl|exact Or.inr (Or.inl rfl)|exact Or.inr (Or.inr rfl))(hd:(x==("__debug__":Str))=false:=by decide)
  (hcd:(x==("__classdict__":Str))=false:=by decide)(hpx:zgO i1:=by intro _ _;rfl)
  (ha:∀ v,assign (.Subscript (.Subscript (.Name x p) i1 p2) i2 p3) X.env v=(do
   let ov <-holding [v] (eval (.Subscript (.Name x p) i1 p2) X.env)
   let iv <-holding [v,ov] (eval i2 X.env)
   standAt p3
   holding [v,ov,iv] (setItem ov iv v)
   release [v,ov,iv] []):=by intro _;rfl)
  (hs:swapsWithSole [.Subscript (.Subscript (.Name x p) i1 p2) i2 p3] e pos.line X.env=pure false:=by rfl)(hw:swappedStores [.Subscript (.Subscript (.Name x p) i1 p2) i2 p3] e X.env=pure none:=by rfl)
  (h1:(assignEach [.Subscript (.Subscript (.Name x p) i1 p2) i2 p3] X.env).map (·.2)=[assign (.Subscript (.Subscript (.Name x p) i1 p2) i2 p3) X.env]:=by rfl):
  SS X (.Assign [.Subscript (.Subscript (.Name x p) i1 p2) i2 p3] e pos) (zaG i t tk tj):=
 PS.wk (zqv he (zqu (znS ix_list (zdU hN hv hd hcd) hk hpx) hj zmv ha) hs hw h1) fun De σ H zz=>by
 obtain ⟨F,st,E,ok,h,c⟩:=zz;unfold zaG at h;split at h
 ·rename_i mi xs hi;obtain ⟨hmi,h⟩:=h;refine ⟨F,st,_,ok,h,fun d hd v H1 s1 r1=>?_⟩;have ok1:=ok.same s1;obtain ⟨O,o⟩:=id ok;obtain ⟨w,hw,rw0⟩:=o.repM i _ _ hi;have rw':RepD X.K F H (.lst xs) w (O i):=rw0.toD hmi;unfold RepD at rw';obtain ⟨a,vs,oi,rfl,eO,q,f,rr⟩:=rw';refine ⟨.ref a,hw,F,st,_,ok1,hd,fun kd hk kv H2 s2 rk=>?_⟩;split at hk
  ·rename_i k;have rk:kv= .int k:=rk;subst rk;split at hk
   ·rename_i n hn;split at hk
    ·rename_i ys hy;have s12:=s1.trans s2;have rdv:=RepDs.read xs vs oi rr;obtain ⟨bv,hbv,rb⟩:=rdv.at' hy;have hlx:xs.length=vs.length:=RepDs.len rr;refine ⟨a,vs,k,bv,rfl,rfl,SqL.of (s12 _ _ q),by unfold atI;rw [<-hlx,hn];exact hbv,?_⟩;refine ⟨F,st,_,ok.same s12,hk,fun jd hj jv H3 s3 rj=>?_⟩;split at hj
     ·rename_i j;have rj:jv= .int j:=rj;subst rj;split at hj
      ·rename_i m hm;have s13:=s12.trans s3;have o3:OkO X.K F H3 st σ O:=o.grow (Gr.of o.sub s13);obtain ⟨w3,hw3,rw3⟩:=o3.repM i _ _ hi;rw [hw] at hw3;cases hw3;have rw3:RepD X.K F H3 (.lst xs) (.ref a) (O i):=rw3.toD hmi;unfold RepD at rw3;obtain ⟨a3,vs3,oi3,e3,eO3,q3,f3,rr3⟩:=rw3;cases e3;have evs:vs3=vs:=by
        have z:=s13 _ _ q;rw [q3] at z;cases z;rfl
       subst evs;have ndO:=o3.nd i;rw [eO3,List.nodup_cons] at ndO;have haO:a∈O i:=by rw [eO3];exact List.mem_cons_self
       have rb3:∃ bb ws,bv= .ref bb/\H3 bb=some (.lst ws):=by
        clear hj hk hd h;have:∀ {xs:List D} {vs:List V} {oi:List Addr} {n:Nat},RepDs X.K F H3 xs vs oi->xs[n]? =some (.lst ys)->vs[n]? =some bv->∃ bb ws,bv= .ref bb/\H3 bb=some (.lst ws):=by
         intro xs
         induction xs with
         |nil=>intro vs oi n _ e _;simp at e
         |cons y xs ih=>
          intro vs oi n h e e2;unfold RepDs at h;obtain ⟨w,q,o1,o2,rfl,rfl,a,t⟩:=h;cases n with
          |zero=>
           simp at e e2;subst e e2;unfold RepD at a;obtain ⟨bb,ws,_,e,_,q,_⟩:=a;exact ⟨bb,ws,e,q⟩
          |succ n=>exact ih t (by simpa using e) (by simpa using e2)
        exact this rr3 hy hbv
       obtain ⟨bb,ws,rfl,qb⟩:=rb3;have rv:∀ x,Rep X.K F (upd H3 bb (.lst x)) d v:=fun x=>Rep.flatF d v (Rep.mono (F:=H1) (H:=H1) (F':=H3) (H':=upd H3 bb (.lst x)) (s2.trans s3) (fun a vs z=>Tp.upd qb a vs (Tp.of (s2.trans s3) a vs z)) d v r1) hj.1;obtain ⟨⟨o',r',n',s'⟩,hbo,hl⟩:=RepDs.set2 (n:=m) qb rv hj.1 n rr3 ndO.2 hy hbv;have hbO:bb∈O i:=by rw [eO3];exact List.mem_cons_of_mem _ hbo
       have nab:a≠bb:=fun z=>ndO.1 (by rw [z];exact hbo);refine ⟨bb,ws,j,m,rfl,rfl,qb,by rw [<-hl];exact hm,c.nx F _ _ σ ⟨Same.refl F,fun x y z=>Tp.upd qb x y (Tp.of s13 x y z)⟩ (o3.rewrite (os:=a::o') hi hw hbO (Same.refl F) (fun b u e=>?_) (fun j b hb=>(o3.there hb).1) ?_ ?_ fun j hj b hb hc=>?_) hj.2⟩
       ·rw [upd_ne (fun z=>by rw [z,(o3.there hbO).1] at e;cases e)];exact o3.sub b u e
       ·refine RepS.of (RepM.back hmi rw0 ?_);show RepD X.K F (upd H3 bb (.lst (ws.set m v))) (.lst (xs.set n (.lst (ys.set m d)))) (.ref a) (a::o');unfold RepD;exact ⟨a,vs3,o',rfl,rfl,by rw [upd_ne nab];exact q3,f3,r'⟩
       ·exact List.nodup_cons.mpr ⟨fun z=>ndO.1 (s' a z),n'⟩
       ·refine hj (o3.dj j i b hc ?_);rw [eO3];rcases List.mem_cons.mp hb with z|z
        ·rw [z];exact List.mem_cons_self
        ·exact List.mem_cons_of_mem _ (s' b z)
      ·exact hj.elim
     ·exact hj.elim
    ·exact hk.elim
   ·exact hk.elim
  ·exact hk.elim
 ·exact h.elim
noncomputable def zsi (i:Nat)(t:VAs):VS:=fun E st=>match st[i]? with
 |some (some (mi,.lst xs))=>znW mi=true/\t st fun ds=>xs.length+ds.length<=sizeLine/\flats ds=true/\E.nx (st.set i (some (mi,.lst (xs++ds))))
 |_=>False
end
section
variable {K:PySem.W.Frag}{F H:Hp}{st:LSt}{σ:St}
theorem Ok.give (ok:Ok K F H st σ){i:Nat}{m:Md}{d:D}(hi:st[i]? =some (some (m,d)))(hm:zkD m=false\/d≠ .non:=by first|exact .inl rfl|exact .inr (fun z=>by cases z)):∃ F',Same F F'/\Ok K F' H (st.set i (some (.sh,d))) σ:=by
 obtain ⟨O,o⟩:=ok;obtain ⟨v,hv,r⟩:=o.repM i m d hi hm;let F':Hp:=fun b=>if b∈O i then H b else F b
 have hFF:Same F F':=fun b u e=>by
  show (if b∈O i then H b else F b)=some u
  by_cases hb:b∈O i
  ·rw [if_pos hb];exact o.sub b u e
  ·rw [if_neg hb];exact e
 have sub:Same F' H:=fun b u e=>by
  have e:(if b∈O i then H b else F b)=some u:=e;by_cases hb:b∈O i
  ·rw [if_pos hb] at e;exact e
  ·rw [if_neg hb] at e;exact o.sub b u e
 have o1:=(o.drop i).stay (Tp.of (Same.refl H)) hFF sub fun j b hb=>by
  have hb:b∈(if j=i then [] else O j):=hb;split at hb
  ·cases hb
  ·rename_i n;refine ⟨rfl,?_⟩;show (if b∈O i then H b else F b)=none
   rw [if_neg (fun z=>n (o.dj _ _ _ hb z))];exact (o.there hb).1
 have hl:i<(st.set i none).length:=by rw [List.length_set];exact (List.getElem?_eq_some_iff.mp hi).1
 have o2:=o1.set hl (RepS.of (r.give hFF fun b hb=>if_pos hb)) List.nodup_nil fun j _ b hb=>nomatch hb
 rw [List.set_set,zhO hv] at o2;exact ⟨F',hFF,_,o2⟩
end
noncomputable def vFz (i:Nat)(t:VS):VS:=fun E st=>match st[i]? with
 |some (some (.dw _ _,_))=>False
 |some (some (.ds _ _,_))=>False
 |some (some (_,d))=>t E (st.set i (some (.sh,d)))
 |_=>False
section
variable {X:Cx}{s:Stmt}{ss rest:List Stmt}{t u tb:VS}{e c a b iter:Expr}{pos p:Pos}{x:Str}
theorem zun {i:Nat}{De:Ends}{σ:St}{H:Hp}(h:lS X.K (vFz i t) De σ H):lS X.K t De σ H:=by
 obtain ⟨F,st,E,ok,h,c⟩:=h;unfold vFz at h;split at h
 ·exact h.elim
 ·exact h.elim
 ·rename_i m d n1 n2 hi;obtain ⟨F',hF,ok'⟩:=ok.give hi (.inl (by cases m<;>first|rfl|exact (n1 _ _ hi).elim|exact (n2 _ _ hi).elim|exact (n1 _ _ rfl).elim|exact (n2 _ _ rfl).elim));exact ⟨F',_,E,ok',h,c.up ⟨hF,fun _ _ z=>z⟩⟩
 ·exact h.elim
theorem zs2 (i:Nat)(h:SS X s t):SS X s (vFz i t):=PS.wk h fun De σ H h=>zun h
noncomputable abbrev VG:=D->LSt->(LSt->Prop)->Prop
noncomputable def gV (i:Nat):VG:=fun d st Q=>Q (st.set i (some (.sh,d)))
noncomputable def gV2 (i j:Nat):VG:=fun d st Q=>match d with
 | .tup [x,y]=>Q ((st.set i (some (.sh,x))).set j (some (.sh,y)))
 |_=>False
noncomputable def lG (K:PySem.W.Frag)(g:VG):TG:=fun v σ H Q=>∃ F st d Qd,Ok K F H st σ/\Rep K F H d v/\g d st Qd/\∀ st' σ',Ok K F H st' σ'->Qd st'->Q σ' H
noncomputable def SG (X:Cx)(tg:Expr)(g:VG):Prop:=PG X tg (lG X.K g)
theorem PG.wk {tg:Expr}{t t':TG}(h:PG X tg t)(hm:∀ v σ H Q,t' v σ H Q->t v σ H Q):PG X tg t':=fun pins s σ H v u Q I r q=>h pins s σ H v u Q I r (hm v σ H Q q)
theorem zaO {i:Nat}(hN:X.N.Nodup)(hi:X.N[i]? =some x:=by rfl)(hx:Loc X.env.scope x:=by first|exact Or.inl rfl|exact Or.inr rfl)(hf:X.fn x=true\/X.env.scope.names.lookup x=some .local:=by first|exact .inl rfl|exact .inr rfl):SG X (.Name x pos) (gV i):=
 PG.wk (zdM hN hi hx hf) fun v σ H Q zz=>by
 obtain ⟨F,st,d,Qd,ok,r,h,k⟩:=zz;exact k _ _ (ok.put' (Gr.refl ok.sub) (m:=.sh) ⟨r,rfl⟩ List.nodup_nil (by simp)) h
theorem zn9 {i j:Nat}{y:Str}{k1}{q:Pos}(hc:X.calm=true)(hN:X.N.Nodup)(hi:X.N[i]? =some x:=by rfl)(hj:X.N[j]? =some y:=by rfl)(hx:Loc X.env.scope x:=by first|exact Or.inl rfl|exact Or.inr rfl)(hy:Loc X.env.scope y:=by first|exact Or.inl rfl|exact Or.inr rfl)
  (hf:X.fn x=true\/X.env.scope.names.lookup x=some .local:=by first|exact .inl rfl|exact .inr rfl)(hf2:X.fn y=true\/X.env.scope.names.lookup y=some .local:=by first|exact .inl rfl|exact .inr rfl):SG X (.Tuple [.Name x p,.Name y q] k1 pos) (gV2 i j):=
 PG.wk (zsC hc (zfS (zdM hN hi hx hf) (zfS (zdM hN hj hy hf2) znF))) fun v σ H Q zz=>by
  obtain ⟨F,st,d,Qd,ok,r,h,k⟩:=zz;unfold gV2 at h;split at h
  ·rename_i x y;unfold Rep at r;obtain ⟨a,vs,rfl,hq,r⟩:=r;obtain ⟨vx,vy,rfl,rx,ry⟩:=znf r;have ok2:=ok.put' (i:=i) (Gr.refl ok.sub) (m:=.sh) ⟨rx,rfl⟩ List.nodup_nil (by simp);have ok3:=ok2.put' (i:=j) (Gr.refl ok.sub) (m:=.sh) ⟨ry,rfl⟩ List.nodup_nil (by simp);exact ⟨a,_,rfl,hq,rfl,vx,[vy],rfl,vy,[],rfl,rfl,k _ _ ok3 h⟩
  ·exact h.elim
noncomputable def zfh (g:VG)(tb:VS)(E:VEnds):List D->LSt->Prop
 | [],st=>E.nx st
 |d::ds,st=>g d st fun st1=>tb {E with nx:=zfh g tb E ds,ct:=zfh g tb E ds,bk:=E.nx} st1
noncomputable def zlF (g:VG)(t:VO)(tb:VS):VS:=fun E st=>t st fun _ d=>match d with
 | .lst ds=>zfh g tb E ds st
 |_=>False
theorem zkJ {g:VG}{De:Ends}{E:VEnds}{ds:List D}{vs:List V}{i:Nat}{y:V}{σ:St}{F H F' H':Hp}{st':LSt}(hy:vs[i]? =some y)(rr:Reps X.K F H ds vs)(s':Fw X.K F H F' H')(ok':Ok X.K F' H' st' σ)(w:zfh g tb E (ds.drop i) st')(c:Clo X.K F H E De):
  lG X.K g y σ H' fun σ2 H2=>lS X.K tb {De with nx:=fun σ3 H3=>∃ F' st',Fw X.K F H F' H3/\Ok X.K F' H3 st' σ3/\zfh g tb E (ds.drop (i+1)) st',ct:=fun σ3 H3=>∃ F' st',Fw X.K F H F' H3/\Ok X.K F' H3 st' σ3/\zfh g tb E (ds.drop (i+1)) st',bk:=De.nx} σ2 H2:=by
 obtain ⟨d,hd,rd⟩:=rr.at hy;have hlt:i<ds.length:=(List.getElem?_eq_some_iff.mp hd).1;have ed:ds.drop i=d::ds.drop (i+1):=by
  rw [List.drop_eq_getElem_cons hlt];have:=(List.getElem?_eq_some_iff.mp hd).2;rw [this]
 rw [ed] at w;unfold zfh at w;refine ⟨F',st',d,_,ok',Rep.mono s'.f s'.t d y rd,w,fun st2 σ2 ok2 q=>⟨F',st2,_,ok2,q,?_⟩⟩;exact ⟨fun F3 H3 st3 σ3 s3 ok3 n3=>⟨F3,st3,s'.trans s3,ok3,n3⟩,fun F3 H3 st3 σ3 s3 ok3 n3=>c.nx F3 H3 st3 σ3 (s'.trans s3) ok3 n3,fun F3 H3 st3 σ3 s3 ok3 n3=>⟨F3,st3,s'.trans s3,ok3,n3⟩,(c.up s').rt,(c.up s').rd⟩
theorem zoa {g:VG}{De:Ends}{E:VEnds}{ds:List D}{vs:List V}{a:Addr}{σ:St}{F H:Hp}{st:LSt}(hq:SqL X.K F a vs)(rr:Reps X.K F H ds vs)(ok:Ok X.K F H st σ)(h:zfh g tb E ds st)(c:Clo X.K F H E De):
  ∃ W:Nat->Nat->L2.St->Hp->Prop,(∃ m,W 0 m σ H)/\∀ i m σ H,W i m σ H->
   ((Itl X.K a).stop i H/\De.nx σ H)\/((Itl X.K a).go i H/\∃ N:L2.St->Hp->Prop,(∀ σ' H',N σ' H'->∃ m',m'<m/\W (i+1) m' σ' H')/\∀ x H',(Itl X.K a).yld i H x H'->lG X.K g x σ H' fun σ2 H2=>lS X.K tb {De with nx:=N,ct:=N,bk:=De.nx} σ2 H2):=by
 refine zpl (K:=X.K) (a:=a) (xs:=vs) (g:=lG X.K g) (tb:=lS X.K tb) (D:=De) (fun i σ' H'=>∃ F' st',Fw X.K F H F' H'/\Ok X.K F' H' st' σ'/\zfh g tb E (ds.drop i) st') ⟨F,st,Fw.refl,ok,h⟩ (fun i σ H _ ⟨F',st',s',ok',_⟩=>ok'.sub.seq (s'.f.seq hq)) ?_ ?_
 ·rintro i y σ' H' hy ⟨F',st',s',ok',w⟩;exact zkJ hy rr s' ok' w c
 ·rintro σ' H' ⟨F',st',s',ok',w⟩;rw [<-rr.len,List.drop_length] at w;exact c.nx F' H' st' σ' s' ok' w
theorem zhw {body:List Stmt}{g:VG}{ti:VO}{tg:Expr}(hp:PassesOwn (model X.prog X.w) X.A X.env X.xe)(hc:X.calm=true)(hi:SO X iter ti)(hg:SG X tg g)(hb:SSs X body tb)
  (hs:∀ x,foldedSetIterable iter X.env x=pure x:=by intro _;rfl):SS X (.For tg iter body [] pos) (zlF g ti tb):=PS.wk (znI hp hc (znH hi) hg hb hs) fun De σ H zz=>by
 obtain ⟨F,st,E,ok,h,c⟩:=zz;refine ⟨F,st,_,ok,h,fun m d hd v H1 F1 os gr r nd new=>?_⟩;cases d with
 |lst ds=>
  let F2:Hp:=fun b=>if b∈os then H1 b else F1 b
  have hFF:Same F1 F2:=fun b u e=>by
   show (if b∈os then H1 b else F1 b)=some u
   by_cases hb:b∈os
   ·rw [if_pos hb];exact gr.sub b u e
   ·rw [if_neg hb];exact e
  have sub:Same F2 H1:=fun b u e=>by
   have e:(if b∈os then H1 b else F1 b)=some u:=e;by_cases hb:b∈os
   ·rw [if_pos hb] at e;exact e
   ·rw [if_neg hb] at e;exact gr.sub b u e
  have r2:=(r.give hFF fun b hb=>if_pos hb).1;have ok2:Ok X.K F2 H1 st σ:=by
   obtain ⟨O,o⟩:=ok;refine ⟨O,(o.grow gr).stay (Tp.of (Same.refl H1)) hFF sub fun j b hb=>⟨rfl,?_⟩⟩;show (if b∈os then H1 b else F1 b)=none
   rw [if_neg (fun z=>o.newSep new j b z hb)];exact ((o.grow gr).there hb).1
  have s02:Fw X.K F H F2 H1:=Fw.of ((gr.fsame ok.sub).trans hFF) gr.same;unfold Rep at r2;obtain ⟨a,vs,rfl,hq,rr⟩:=r2;exact ⟨a,rfl,⟨vs,sub.seq hq⟩,zoa hq rr ok2 hd (c.up s02)⟩
 |_=>exact hd.elim
theorem zjc {g:VG}{De:Ends}{E:VEnds}{lo:Int}{n:Nat}{σ:St}{F H:Hp}{st:LSt}(ok:Ok X.K F H st σ)(h:zfh g tb E ((List.range n).map fun k=>.int (lo+(k:Nat))) st)(c:Clo X.K F H E De):
  ∃ W:Nat->Nat->L2.St->Hp->Prop,(∃ m,W 0 m σ H)/\∀ i m σ H,W i m σ H->
   ((Itr lo n).stop i H/\De.nx σ H)\/((Itr lo n).go i H/\∃ N:L2.St->Hp->Prop,(∀ σ' H',N σ' H'->∃ m',m'<m/\W (i+1) m' σ' H')/\∀ x H',(Itr lo n).yld i H x H'->lG X.K g x σ H' fun σ2 H2=>lS X.K tb {De with nx:=N,ct:=N,bk:=De.nx} σ2 H2):=by
 have rr:∀ F H,Reps X.K F H ((List.range n).map fun k=>D.int (lo+(k:Nat))) ((List.range n).map fun k=>V.int (lo+(k:Nat))):=fun F H=>by
  generalize List.range n=l
  induction l with
  |nil=>unfold Reps;rfl
  |cons k l ih=>rw [List.map_cons,List.map_cons];unfold Reps;exact ⟨_,_,rfl,rfl,ih⟩
 refine znJ (lo:=lo) (n:=n) (g:=lG X.K g) (tb:=lS X.K tb) (D:=De) (fun i σ' H'=>∃ F' st',Fw X.K F H F' H'/\Ok X.K F' H' st' σ'/\zfh g tb E (((List.range n).map fun k=>D.int (lo+(k:Nat))).drop i) st') ⟨F,st,Fw.refl,ok,h⟩ ?_ ?_
 ·rintro i σ' H' hi ⟨F',st',s',ok',w⟩;exact zkJ (by rw [List.getElem?_map,List.getElem?_range hi];rfl) (rr F H) s' ok' w c
 ·rintro σ' H' ⟨F',st',s',ok',w⟩;rw [List.drop_eq_nil_of_le (by simp)] at w;exact c.nx F' H' st' σ' s' ok' w
noncomputable def zfz (g:VG)(t:VAs)(tb:VS):VS:=fun E st=>t st fun ds=>match ds with
 | [.int j]=>(-(2 ^ 62)<=j/\j<2 ^ 62)/\zfh g tb E ((List.range j.toNat).map fun k=>.int (0+(k:Nat))) st
 |_=>False
noncomputable def zfZ (g:VG)(t:VAs)(tb:VS):VS:=fun E st=>t st fun ds=>match ds with
 | [.int i,.int j]=>(-(2 ^ 62)<=i/\i<2 ^ 62/\ -(2 ^ 62)<=j/\j<2 ^ 62)/\zfh g tb E ((List.range (j - i).toNat).map fun k=>.int (i+(k:Nat))) st
 |_=>False
theorem zeO {body:List Stmt}{g:VG}{ti:VAs}{tg:Expr}{p2:Pos}(hp:PassesOwn (model X.prog X.w) X.A X.env X.xe)(hc:X.calm=true)(hm:X.mg "range"=none)(hi:SA X [a] ti)(hg:SG X tg g)(hb:SSs X body tb)(hgl:Gl X "range":=by rfl)
  (hst:starEach [a] X.env=[(false,eval a X.env)]:=by rfl)(hs:∀ x,foldedSetIterable (.Call (.Name "range" p) [a] [] p2) X.env x=pure x:=by intro _;rfl):SS X (.For tg (.Call (.Name "range" p) [a] [] p2) body [] pos) (zfz g ti tb):=
 PS.wk (znI hp hc (zkl hgl hm hi hst) hg hb hs) fun De σ H zz=>by
 obtain ⟨F,st,E,ok,h,c⟩:=zz;refine ⟨F,st,_,ok,h,fun ds hd vs H1 s1 r=>?_⟩;split at hd
 ·obtain ⟨v,rfl,r1⟩:=zhv r;obtain rfl:v=_:=r1;exact ⟨_,rfl,hd.1.1,hd.1.2,zjc (ok.same s1) hd.2 (c.up (Fw.hs s1))⟩
 ·exact hd.elim
theorem zhY {body:List Stmt}{g:VG}{ti:VAs}{tg:Expr}{p2:Pos}(hp:PassesOwn (model X.prog X.w) X.A X.env X.xe)(hc:X.calm=true)(hm:X.mg "range"=none)(hi:SA X [a,b] ti)(hg:SG X tg g)(hb:SSs X body tb)(hgl:Gl X "range":=by rfl)
  (hst:starEach [a,b] X.env=[(false,eval a X.env),(false,eval b X.env)]:=by rfl)(hst2:starEach [b] X.env=[(false,eval b X.env)]:=by rfl)(hs:∀ x,foldedSetIterable (.Call (.Name "range" p) [a,b] [] p2) X.env x=pure x:=by intro _;rfl):SS X (.For tg (.Call (.Name "range" p) [a,b] [] p2) body [] pos) (zfZ g ti tb):=
 PS.wk (znI hp hc (zkm hgl hm hi hst hst2) hg hb hs) fun De σ H zz=>by
 obtain ⟨F,st,E,ok,h,c⟩:=zz;refine ⟨F,st,_,ok,h,fun ds hd vs H1 s1 r=>?_⟩;split at hd
 ·obtain ⟨v,w,rfl,r1,r2⟩:=znf r;obtain rfl:v=_:=r1;obtain rfl:w=_:=r2;exact ⟨_,_,rfl,hd.1,zjc (ok.same s1) hd.2 (c.up (Fw.hs s1))⟩
 ·exact hd.elim
noncomputable def zkK (i:Nat):VO:=fun st Q=>match st[i]? with
 |some (some (.sh,d))=>Q .sh d
 |_=>False
theorem zhZ (i:Nat)(hN:X.N[i]? =some x:=by rfl)(hv:Vis X.env.scope x:=by first|exact Or.inl rfl|exact Or.inr (Or.inl rfl)|exact Or.inr (Or.inr rfl))(hd:(x==("__debug__":Str))=false:=by decide)
  (hcd:(x==("__classdict__":Str))=false:=by decide):SO X (.Name x pos) (zkK i):=PE.wk (zdU hN hv hd hcd) fun σ H Q zz=>by
 obtain ⟨F,st,Qd,ok,h,k⟩:=zz;unfold zkK at h;split at h
 ·rename_i d hi;obtain ⟨O,o⟩:=id ok;obtain ⟨v,hv,r⟩:=o.repM i _ _ hi;exact ⟨v,hv,k _ _ h v H F [] (Gr.refl o.sub) ⟨r.1,rfl⟩ List.nodup_nil (by simp)⟩
 ·exact h.elim
end
section
variable {P:Program}{w:World}{K:PySem.W.Frag}{mg:Str->Option Value}{base:Heap}
noncomputable def zaz (N:List Str)(ds:List D):LSt:=ds.map (fun d=>some (.sh,d))++List.replicate (N.length - ds.length) none
theorem zpB {H:Hp}{N:List Str}{ds:List D}{vs:List V}(r:Reps K H H ds vs):Ok K H H (zaz N ds) (zfV N vs):=by
 have hl:=r.len;refine ⟨fun _=>[],?_,Same.refl H,fun i m d e=>?_,fun _=>List.nodup_nil,(fun i j a ha=>nomatch ha),fun _ _=>rfl⟩
 ·unfold L2.zfV zaz;rw [List.length_append,List.length_append,List.length_map,List.length_map,List.length_replicate,List.length_replicate,hl]
 ·unfold zaz at e;by_cases hi:i<ds.length
  ·rw [List.getElem?_append_left (by simpa using hi),List.getElem?_map] at e;cases z:ds[i]? with
   |none=>rw [z] at e;cases e
   |some d'=>
    rw [z] at e;have e':(Md.sh,d')=(m,d):=Option.some.inj (Option.some.inj e);cases e';obtain ⟨v,hv,rv⟩:=r.at' z;refine ⟨v,?_,rv,rfl⟩;unfold L2.zfV;rw [List.getElem?_append_left (by rw [List.length_map,<-hl];exact hi),List.getElem?_map,hv];rfl
  ·rw [List.getElem?_append_right (by simpa using hi),List.getElem?_replicate] at e;split at e<;>cases e
theorem okV {x qual:Str}{st:Stmt}{f:Addr}{fd:FuncData}{N ps:List Str}{k:Nat}{m:VF}{t:VS}(F:Fun K x qual st f fd)(S:FnScope N ps (zab st))(hlen:∀ ds Q,m ds Q->ds.length=ps.length)
  (hb:∀ (cdv:Value) (A:Around) (outer:List Env) (s:Shared) (H:Hp) (E:XK),Room k (A.deeper (envOfC qual (zab st) s.heap.objs.size f cdv))->SSs (zpp CX0 P w K mg base N qual (zab st) f cdv A outer s H E).nox (zaj st) t)
  (hv:∀ ds Q,m ds Q->t {nx:=fun _=>Q .sh .non,rt:=Q} (zaz N ds)):FnOk P w K mg base CX0 (k+1) f fd ps (spV K m):=by
 refine F.ok S (fun vs H Q E ⟨ds,Qd,r,h,_⟩=>by rw [<-r.len];exact hlen ds Qd h) fun cdv A outer s H vs Q E hr ⟨ds,Qd,r,h,c⟩=>⟨_,hb cdv A outer s H E hr,H,_,_,zpB r,hv ds Qd h,?_⟩;have new:∀ {F' H':Hp} {md:Md} {d:D} {v:V} {os:List Addr},Same H F'->Same F' H'->RepM K F' H' md d v os->Gr H H F' H'/\∀ a∈os,H a=none:=fun {F' H' md d v os} s1 s2 r=>by
  refine ⟨⟨s1.trans s2,fun b o e=>(s1 b o e).trans e.symm,s2⟩,fun a ha=>?_⟩;cases z:H a with
  |none=>rfl
  |some o=>
   have:=s1 _ _ z;rw [(r.there a ha).1] at this;cases this
 refine ⟨fun F' H' st' σ' fw ok q=>?_,fun _ _ _ _ _ _ q=>q.elim,fun _ _ _ _ _ _ q=>q.elim,fun F' H' md d v os fw s2 r nd q=>?_,fun _ _ _ _ _ _ _ _ _ q=>q.elim⟩
 ·exact c _ _ q .non H' F' [] ⟨fw.f.trans ok.sub,fun b o e=>(fw.f b o e).trans e.symm,ok.sub⟩ ⟨rfl,rfl⟩ List.nodup_nil (by simp)
 ·obtain ⟨g,n⟩:=new fw.f s2 r;exact c _ _ q v H' F' os g r nd n
theorem zc4 {x qual:Str}{st:Stmt}{f:Addr}{fd:FuncData}{N ps:List Str}{k:Nat}{m:VF}{t:VS}(F:Fun K x qual st f fd)(hm:mg x=some (.ref f))(hbi:Binds K fd ps [])(S:FnScope N ps (zab st))(hlen:∀ ds Q,m ds Q->ds.length=ps.length)
  (hb:∀ (cdv:Value) (A:Around) (outer:List Env) (s:Shared) (H:Hp) (E:XK),Room k (A.deeper (envOfC qual (zab st) s.heap.objs.size f cdv))->SSs (zpp CX0 P w K mg base N qual (zab st) f cdv A outer s H E).nox (zaj st) t)
  (hv:∀ ds Q,m ds Q->t {nx:=fun _=>Q .sh .non,rt:=Q} (zaz N ds)):Cal P w K mg base (k+1) x m:=⟨f,fd,ps,okV F S hlen hb hv,hm,F.kp,hbi⟩
end
noncomputable def zeH (st:LSt):LSt:=st.map fun o=>match o with
 |some (.dw t k,d)=>some (.ds t k,d)
 |some (.ds t k,d)=>some (.ds t k,d)
 |some (_,d)=>some (.sh,d)
 |none=>none
theorem zob {st:LSt}{i:Nat}{m:Md}{d:D}(h:(zeH st)[i]? =some (some (m,d))):(∃ m',zkD m'=false/\m= .sh/\st[i]? =some (some (m',d)))\/∃ t k,m= .ds t k/\(st[i]? =some (some (.dw t k,d))\/st[i]? =some (some (.ds t k,d))):=by
 unfold zeH at h;rw [List.getElem?_map] at h;cases e:st[i]? with
 |none=>rw [e] at h;cases h
 |some o=>
  rw [e] at h;cases o with
  |none=>have h':some (none:Option (Md×D))=some (some (m,d)):=h;cases h'
  |some p=>
   obtain ⟨m',d'⟩:=p;cases m' with
   |dw t k=>
    have h':(Md.ds t k,d')=(m,d):=Option.some.inj (Option.some.inj h);cases h';exact .inr ⟨t,k,rfl,.inl rfl⟩
   |ds t k=>
    have h':(Md.ds t k,d')=(m,d):=Option.some.inj (Option.some.inj h);cases h';exact .inr ⟨t,k,rfl,.inr rfl⟩
   |sh=>
    have h':(Md.sh,d')=(m,d):=Option.some.inj (Option.some.inj h);cases h';exact .inl ⟨_,rfl,rfl,rfl⟩
   |o1=>
    have h':(Md.sh,d')=(m,d):=Option.some.inj (Option.some.inj h);cases h';exact .inl ⟨_,rfl,rfl,rfl⟩
   |ow=>
    have h':(Md.sh,d')=(m,d):=Option.some.inj (Option.some.inj h);cases h';exact .inl ⟨_,rfl,rfl,rfl⟩
   |oa a=>
    have h':(Md.sh,d')=(m,d):=Option.some.inj (Option.some.inj h);cases h';exact .inl ⟨_,rfl,rfl,rfl⟩
theorem Ok.view {K:PySem.W.Frag}{F H:Hp}{st:LSt}{σ:St}(ok:Ok K F H st σ):Ok K H H (zeH st) σ:=by
 refine ⟨fun _=>[],?_,Same.refl H,fun i m d e=>?_,fun _=>List.nodup_nil,(fun i j a ha=>nomatch ha),fun _ _=>rfl⟩
 ·unfold zeH;rw [List.length_map];exact ok.len
 ·rcases zob e with ⟨m',hm,em,e2⟩|⟨t,k,em,e2⟩
  ·obtain ⟨v,e1,r⟩:=ok.get e2 (.inl hm);subst em;exact ⟨v,e1,r,rfl⟩
  ·obtain ⟨O,o⟩:=ok;subst em;rcases e2 with e2|e2
   ·obtain ⟨v,e1,ed,a,ea,_,_,r⟩:=o.rep i _ _ e2;exact ⟨v,e1,ed,a,ea,rfl,r⟩
   ·obtain ⟨v,e1,ed,a,ea,_,r⟩:=o.rep i _ _ e2;exact ⟨v,e1,ed,a,ea,rfl,r.same o.sub (Tp.of (Same.refl H))⟩
theorem Ok.none {K:PySem.W.Frag}{F H:Hp}{st:LSt}{σ:St}(ok:Ok K F H st σ)(k:Nat):Ok K F H (List.replicate k none++st) (List.replicate k none++σ):=by
 obtain ⟨O,o⟩:=ok;refine ⟨fun i=>if i<k then [] else O (i - k),by rw [List.length_append,List.length_append,List.length_replicate,List.length_replicate,o.len],o.sub,fun i m d e=>?_,fun i=>?_,fun i j a ha hb=>?_,fun i hi=>?_⟩
 ·by_cases h:i<k
  ·rw [List.getElem?_append_left (by simpa using h),List.getElem?_replicate] at e;split at e<;>cases e
  ·rw [List.getElem?_append_right (by simpa using h),List.length_replicate] at e ⊢;obtain ⟨v,e1,r⟩:=o.rep _ m d e;refine ⟨v,e1,?_⟩;show RepS K F H m d v (if i<k then [] else O (i - k))
   rw [if_neg h];exact r
 ·show (if i<k then [] else O (i - k)).Nodup
  split
  ·exact List.nodup_nil
  ·exact o.nd _
 ·have ha:a∈(if i<k then [] else O (i - k)):=ha;have hb:a∈(if j<k then [] else O (j - k)):=hb;split at ha
  ·cases ha
  ·split at hb
   ·cases hb
   ·have:=o.dj _ _ a ha hb;omega
 ·show (if i<k then [] else O (i - k))=[]
  split
  ·rfl
  ·rename_i h;refine o.emp _ fun m d e=>hi m d ?_;rw [List.getElem?_append_right (by simpa using h),List.length_replicate];exact e
noncomputable def zlG (c:VT)(e:VE)(st:LSt):List D->List D->(List D->Prop)->Prop
 | [],acc,Q=>Q acc
 |d::ds,acc,Q=>c (some (.sh,d)::st) fun b=>if b=true then e (some (.sh,d)::st) fun y=>zlG c e st ds (acc++[y]) Q else zlG c e st ds acc Q
noncomputable def zb7 (src:VAs)(c:VT)(e:VE):VAs:=fun st Q=>src st fun ds=>ds.length<=sizeLine/\zlG c e (zeH st) ds [] Q
noncomputable def zqE (K:PySem.W.Frag)(J:It)(H:Hp)(ds:List D):Prop:=∀ H2,Same H H2->(∀ i,i<ds.length->J.go i H2)/\J.stop ds.length H2/\∀ i x H3,i<ds.length->J.yld i H2 x H3->H3=H2/\∃ d,ds[i]? =some d/\Rep K H2 H2 d x
noncomputable def lI (K:PySem.W.Frag)(t:VAs):TI:=fun σ H R=>∃ F st Qd,Ok K F H st σ/\t st Qd/\∀ ds,Qd ds->∀ J H',Same H H'->zqE K J H' ds->R J H'
noncomputable def SI (X:Cx)(tg iter:Expr)(t:VAs):Prop:=PI X tg iter (lI X.K t)
noncomputable def SCl (X:Cx)(ifs:List Expr)(t:VT):Prop:=PCl X ifs (lT X.K t)
noncomputable def zb5:VT:=fun _ Q=>Q true
section
variable {X:Cx}{tg l a b c elt iter:Expr}{es ifs:List Expr}{t tr:VAs}{ta:VE}{pos p:Pos}
theorem zaY:SCl X [] zb5:=fun pins s σ H Q I zz=>by
 obtain ⟨F,st,Qd,ok,h,k⟩:=zz;exact zrd pins s σ H Q I (k _ h H (Same.refl H))
theorem zlO {t:VT}(h:ST X c t):SCl X [c] t:=zre h
theorem PI.wk {t t':TI}(h:PI X tg iter t)(hm:∀ σ H R,t' σ H R->t σ H R):PI X tg iter t':=fun pins s σ H R I q=>h pins s σ H R I (hm σ H R q)
noncomputable def zdk (t:VE):VAs:=fun st Q=>t st fun d=>match d with
 | .lst ds=>Q ds
 |_=>False
theorem zco (h:SB X l ta):SI X tg l (zdk ta):=PI.wk (znH h) fun σ H R zz=>by
 obtain ⟨F,st,Qd,ok,h,k⟩:=zz;exact ⟨F,st,_,ok,h,fun d hd v H1 s1 r=>by
  split at hd
  ·unfold Rep at r;obtain ⟨a,vs,rfl,hq,rr⟩:=r;refine ⟨a,rfl,⟨vs,hq⟩,k _ hd _ H1 s1 fun H2 s2=>?_⟩;have hl:=rr.len;have hq2:=s2.seq hq;refine ⟨fun i hi=>⟨vs,vs[i]'(by omega),hq2,List.getElem?_eq_getElem _⟩,⟨vs,hq2,by omega⟩,fun i x H3 hi y=>?_⟩;obtain ⟨e,y⟩:=y;obtain ⟨d,hd,rd⟩:=rr.at (y vs hq2);exact ⟨e,d,hd,Rep.mono s2 (Tp.of s2) d x rd⟩
  ·exact hd.elim⟩
theorem zhf {K:PySem.W.Frag}{H:Hp}(lo:Int)(n:Nat):zqE K (Itr lo n) H ((List.range n).map fun k=>.int (lo+(k:Nat))):=fun H2 s2=>by
 have hl:((List.range n).map fun k=>D.int (lo+(k:Nat))).length=n:=by simp
 refine ⟨fun i hi=>by rw [hl] at hi;exact hi,by rw [hl];exact Nat.le_refl n,fun i x H3 hi y=>?_⟩;rw [hl] at hi;exact ⟨y.1,.int (lo+i),by rw [List.getElem?_map,List.getElem?_range hi];rfl,y.2⟩
noncomputable def zki (t:VAs):VAs:=fun st Q=>t st fun ds=>match ds with
 | [.int j]=>(-(2 ^ 62)<=j/\j<2 ^ 62)/\Q ((List.range j.toNat).map fun k=>.int (0+(k:Nat)))
 |_=>False
noncomputable def zru (t:VAs):VAs:=fun st Q=>t st fun ds=>match ds with
 | [.int i,.int j]=>(-(2 ^ 62)<=i/\i<2 ^ 62/\ -(2 ^ 62)<=j/\j<2 ^ 62)/\Q ((List.range (j - i).toNat).map fun k=>.int (i+(k:Nat)))
 |_=>False
theorem zep {p2:Pos}(hm:X.mg "range"=none)(hi:SA X [a] t)(hgl:Gl X "range":=by rfl)(hst:starEach [a] X.env=[(false,eval a X.env)]:=by rfl):SI X tg (.Call (.Name "range" p) [a] [] p2) (zki t):=
 PI.wk (zkl hgl hm hi hst) fun σ H R zz=>by
 obtain ⟨F,st,Qd,ok,h,k⟩:=zz;exact ⟨F,st,_,ok,h,fun ds hd vs H1 s1 r=>by
  split at hd
  ·obtain ⟨v,rfl,r1⟩:=zhv r;obtain rfl:v=_:=r1;exact ⟨_,rfl,hd.1.1,hd.1.2,k _ hd.2 _ H1 s1 (zhf 0 _)⟩
  ·exact hd.elim⟩
theorem zrv {p2:Pos}(hm:X.mg "range"=none)(hi:SA X [a,b] t)(hgl:Gl X "range":=by rfl)(hst:starEach [a,b] X.env=[(false,eval a X.env),(false,eval b X.env)]:=by rfl)(hst2:starEach [b] X.env=[(false,eval b X.env)]:=by rfl):SI X tg (.Call (.Name "range" p) [a,b] [] p2) (zru t):=
 PI.wk (zkm hgl hm hi hst hst2) fun σ H R zz=>by
 obtain ⟨F,st,Qd,ok,h,k⟩:=zz;exact ⟨F,st,_,ok,h,fun ds hd vs H1 s1 r=>by
  split at hd
  ·obtain ⟨v,w,rfl,r1,r2⟩:=znf r;obtain rfl:v=_:=r1;obtain rfl:w=_:=r2;exact ⟨_,_,rfl,hd.1,k _ hd.2 _ H1 s1 (zhf _ _)⟩
  ·exact hd.elim⟩
theorem zoc {src:VAs}{c:VT}{e:VE}{σ:St}{H:Hp}{Q:VK}(h:lN X.K (zb7 src c e) σ H Q):zpv (lI X.K src) 1 (ziL 0) (lT X.K c) (lB X.K e) σ H Q:=by
 obtain ⟨F,st,Qd,ok,h,k⟩:=h;refine ⟨F,st,_,ok,h,fun ds hd J H1 s1 yl=>?_⟩;refine ⟨fun i m ys H2=>∃ acc,Same H1 H2/\Reps X.K H2 H2 acc ys/\acc.length<=i/\i<=ds.length/\m=ds.length - i/\zlG c e (zeH st) (ds.drop i) acc Qd,⟨ds.length,[],Same.refl _,by unfold Reps;rfl,Nat.le_refl _,Nat.zero_le _,rfl,hd.2⟩,?_⟩;rintro i m ys H2 ⟨acc,s2,ra,la,hi,rfl,w⟩;obtain ⟨y1,y2,y3⟩:=yl H2 s2;have hys:ys.length<=sizeLine:=by rw [<-ra.len];exact Nat.le_trans la (Nat.le_trans hi hd.1)
 by_cases hlt:i<ds.length
 ·refine .inr ⟨y1 i hlt,hys,fun ys' H'=>∃ acc',Same H1 H'/\Reps X.K H' H' acc' ys'/\acc'.length<=i+1/\zlG c e (zeH st) (ds.drop (i+1)) acc' Qd,fun ys' H' ⟨acc',a1,a2,a3,a4⟩=>⟨_,by omega,acc',a1,a2,a3,hlt,rfl,a4⟩,fun x H3 yy=>?_⟩;obtain ⟨rfl,d,hdi,rd⟩:=y3 i x H3 hlt yy;have ed:ds.drop i=d::ds.drop (i+1):=by
   rw [List.drop_eq_getElem_cons hlt,(List.getElem?_eq_some_iff.mp hdi).2]
  rw [ed] at w;unfold zlG at w;refine ⟨⟨rfl,by show (some x::σ).length=1+σ.length;rw [List.length_cons,Nat.add_comm]⟩,?_⟩;have okb:∀ {H4:Hp},Same H3 H4->Ok X.K H4 H4 (some (.sh,d)::zeH st) (some x::σ):=fun {H4} s4=>by
   have o1:=(((ok.same (s1.trans (s2.trans s4))).view).none 1);have o2:=o1.put' (i:=0) (Gr.refl o1.sub) (m:=.sh) (d:=d) (v:=x) ⟨Rep.mono s4 (Tp.of s4) d x rd,rfl⟩ List.nodup_nil (by simp);exact o2
  refine ⟨_,_,_,okb (Same.refl _),w,fun bb hb H4 s4=>?_⟩;cases bb with
  |true=>
   rw [if_pos rfl] at hb ⊢;exact ⟨_,_,_,okb s4,hb,fun y hy v H5 s5 rv=>⟨acc++[y],s2.trans (s4.trans s5),(Reps.mono (s4.trans s5) (Tp.of (s4.trans s5)) acc ys ra).append (Reps.one rv),by rw [List.length_append,List.length_singleton];omega,hy⟩⟩
  |false=>
   rw [if_neg Bool.false_ne_true] at hb ⊢;exact ⟨acc,s2.trans s4,Reps.mono s4 (Tp.of s4) acc ys ra,by omega,hb⟩
 ·have e:i=ds.length:=by omega
  subst e;rw [List.drop_length] at w;exact .inl ⟨y2,hys,fun p hp=>k acc w ys H2 p (s1.trans s2) ra hp⟩
variable {y:Str}{py spos:Pos}{R:List Str}{scope:Scope}{src:VAs}{ct:VT}{ee:VE}
theorem zbR (hc:X.calm=true)(hNd:(y::R).Nodup)(hi:SI X (.Name y py) iter src)(ht:∀ fp L s H,SCl (cxC X (y::R) scope fp L s H) ifs ct)(he:∀ fp L s H,SB (cxC X (y::R) scope fp L s H) elt ee)
  (hch:zeJ R X.N scope.names X.env.scope.names=true:=by rfl)(hx:∀ fp L s H,Loc (cxC X (y::R) scope fp L s H).env.scope y:=by intros;first|exact Or.inl rfl|exact Or.inr rfl)
  (hf:∀ fp L s H,(cxC X (y::R) scope fp L s H).fn y=true\/(cxC X (y::R) scope fp L s H).env.scope.names.lookup y=some .local:=by intros;first|exact .inl rfl|exact .inr rfl)
  (hk:scope.kind= .function:=by rfl)(hs:∀ x,foldedSetIterable iter X.env x=pure x:=by intro _;rfl):SN X (.ListComp elt [⟨.Name y py,iter,ifs,0⟩] scope pos) (zb7 src ct ee):=
 PE.wk (zrf (N:=y::R) (tn:=[y]) (g:=ziL 0) (tc:=lT X.K ct) (te:=lB X.K ee) hc hi rfl hch (fun fp L s H=>zdM hNd rfl (hx fp L s H) (hf fp L s H)) ht he hk hs) fun _ _ _ h=>zoc h
theorem zkL {i:Nat}{z:Str}{pz:Pos}(hc:X.calm=true)(hX:X.N.Nodup)(hNd:(y::R).Nodup)(hi:SI X (.Name y py) iter src)(ht:∀ fp L s H,SCl (cxC X (y::R) scope fp L s H) ifs ct)(he:∀ fp L s H,SB (cxC X (y::R) scope fp L s H) elt ee)
  (hz:X.N[i]? =some z:=by rfl)(hl:Loc X.env.scope z:=by first|exact Or.inl rfl|exact Or.inr rfl)
  (hch:zeJ R X.N scope.names X.env.scope.names=true:=by rfl)(hx:∀ fp L s H,Loc (cxC X (y::R) scope fp L s H).env.scope y:=by intros;first|exact Or.inl rfl|exact Or.inr rfl)
  (hf:∀ fp L s H,(cxC X (y::R) scope fp L s H).fn y=true\/(cxC X (y::R) scope fp L s H).env.scope.names.lookup y=some .local:=by intros;first|exact .inl rfl|exact .inr rfl)
  (hsw:swapsWith (.ListComp elt [⟨.Name y py,iter,ifs,0⟩] scope pos) (some (.Name z pz)) spos.line X.env=pure true:=by rfl)(hfz:X.fn z=true\/X.env.scope.names.lookup z=some .local:=by first|exact .inl rfl|exact .inr rfl)
  (hk:scope.kind= .function:=by rfl)(hs:∀ x,foldedSetIterable iter X.env x=pure x:=by intro _;rfl):SS X (.Assign [.Name z pz] (.ListComp elt [⟨.Name y py,iter,ifs,0⟩] scope pos) spos) (zbd i (zds (zb7 src ct ee))):=
 PS.wk (zlK (N:=y::R) (tn:=[y]) (g:=ziL 0) (tc:=lT X.K ct) (te:=lB X.K ee) hc hX hz hl hi rfl hch (fun fp L s H=>zdM hNd rfl (hx fp L s H) (hf fp L s H)) ht he hsw hfz hk hs) fun De σ H zz=>by
 obtain ⟨F,st,E,ok,h,c⟩:=zz;refine zoc (X:=X) ⟨F,st,_,ok,h,fun ds hd vs H' p s r hp=>?_⟩;obtain ⟨g,r2⟩:=zmF (ok.same s).sub hp r hd.1;have g':=(Gr.of ok.sub s).trans g;refine c.nx F _ _ _ (Fw.of (Same.refl F) g'.same) (ok.put' g' r2 (by simp) fun a ha=>?_) hd.2;rw [List.mem_singleton] at ha;subst ha;exact s.free hp
theorem zrw (i:Nat){x:Str}{e:Expr}{apos cpos:Pos}{t:VAs}(he:SN X e t)(hN:X.N[i]? =some x:=by rfl)(hv:Vis X.env.scope x:=by first|exact Or.inl rfl|exact Or.inr (Or.inl rfl)|exact Or.inr (Or.inr rfl))(hd:(x==("__debug__":Str))=false:=by decide)
  (hcd:(x==("__classdict__":Str))=false:=by decide)(hs:swapsWith (.Call (.Attribute (.Name x p) "extend" apos) [e] [] cpos) none pos.line X.env=pure false:=by rfl)
  (hbase:attributeBase (.Name x p) "extend" X.env (eval (.Name x p) X.env)=eval (.Name x p) X.env:=by rfl)
  (hfew:((backTo cpos (starEach [e] X.env)).all (fun x=> !x.1)&&(backToKw cpos (keywordEach [] X.env)).all (fun x=>x.1.isSome)&&decide ([e].length+([]:List Keyword).length+(if ([]:List Keyword).isEmpty then 0 else 1)<30))=true:=by rfl)
  (hline:(apos.endLine==cpos.line)=true:=by rfl)(hst:starEach [e] X.env=(false,eval e X.env)::starEach [] X.env:=by rfl)(hpl:(backTo cpos (starEach [] X.env)).any (·.1)=false:=by rfl):
  SS X (.Expr (.Call (.Attribute (.Name x p) "extend" apos) [e] [] cpos) pos) (zsi i t):=
 PS.wk (zgN (znT PySem.F.plainAttrs_list PySem.F.slot_list_extend PySem.F.type_list_extend znU (zdU hN hv hd hcd) (zcm he zfU hst) hbase hfew hline hst hpl) hs) fun De σ H zz=>by
 obtain ⟨F,st,E,ok,h,c⟩:=zz;unfold zsi at h;split at h
 ·rename_i mi xs hi;obtain ⟨hmi,h⟩:=h;obtain ⟨O,o⟩:=id ok;obtain ⟨w,hw,rw0⟩:=o.repM i _ _ hi;have rw':RepD X.K F H (.lst xs) w (O i):=rw0.toD hmi;unfold RepD at rw';obtain ⟨a,vs,oi,rfl,eO,q,f,rr⟩:=rw';refine ⟨.ref a,hw,.inl ⟨rfl,vs,SqL.of q⟩,F,st,_,ok,h,fun ds hd ws H' p s r hp=>?_⟩;have s2:=s.trans (zbO (o:=.lst ws) hp);have o3:OkO X.K F (upd H' p (.lst ws)) st σ O:=o.grow (Gr.of o.sub s2);have q3:=s2 _ _ q;have nap:a≠p:=za3 (s _ _ q) hp;have haO:a∈O i:=by rw [eO];exact List.mem_cons_self
  have ndO:=o.nd i;rw [eO,List.nodup_cons] at ndO;have hl:xs.length=vs.length:=RepDs.len rr;refine ⟨a,p,vs,ws,rfl,rfl,q3,zaH,by rw [<-hl,<-r.len];exact hd.1,c.nx F _ _ σ ⟨Same.refl F,fun x y z=>Tp.upd q3 x y (Tp.of s2 x y z)⟩ (o3.rewrite (os:=a::oi) hi hw haO (Same.refl F) (fun b u e=>?_) (fun j b hb=>(o3.there hb).1) ?_ ?_ fun j hj b hb hc=>?_) hd.2.2⟩
  ·rw [upd_ne (fun z=>by rw [z,f] at e;cases e)];exact o3.sub b u e
  ·refine RepS.of (RepM.back hmi rw0 ?_);show RepD X.K F _ (.lst (xs++ds)) (.ref a) (a::oi);unfold RepD;refine ⟨a,_,oi,rfl,rfl,zaH,f,?_⟩;have rr3:RepDs X.K F (upd (upd H' p (.lst ws)) a (.lst (vs++ws))) xs vs oi:=RepDs.stay (fun x y z=>Tp.upd q3 x y (Tp.of s2 x y z)) xs vs oi rr fun b hb=>by
    obtain ⟨f',zs,z⟩:=RepDs.there _ _ _ rr b hb;have nb:b≠a:=fun e=>ndO.1 (by rw [<-e];exact hb);exact ⟨by rw [upd_ne nb];exact (s2 _ _ z).trans z.symm,f'⟩
   have add:∀ {ds:List D} {ws:List V} {xs:List D} {vs:List V} {Hx:Hp},RepDs X.K F Hx xs vs oi->RepDs X.K F Hx ds ws []->RepDs X.K F Hx (xs++ds) (vs++ws) oi:=by
    intro ds
    induction ds with
    |nil=>intro ws xs vs Hx h1 h2;unfold RepDs at h2;rw [h2.1,List.append_nil,List.append_nil];exact h1
    |cons d ds ih=>
     intro ws xs vs Hx h1 h2;unfold RepDs at h2;obtain ⟨v,r,o1,o2,rfl,e,b1,b2⟩:=h2;have e1:o1=[]:=(List.append_eq_nil_iff.mp e.symm).1;have e2:o2=[]:=(List.append_eq_nil_iff.mp e.symm).2;subst e1 e2;have h3:=ih (RepDs.append h1 b1 |> fun z=>by simpa using z) b2;simpa using h3
   have s23:Same H' (upd H' p (.lst ws)):=zbO hp;exact add rr3 (Reps.own ds ws (Reps.mono (F':=upd H' p (.lst ws)) s23 (fun x y z=>Tp.upd q3 x y (Tp.of s23 x y z)) ds ws r) hd.2.1)
  ·exact List.nodup_cons.mpr ndO
  ·exact hj (o.dj j i b hc (by rw [eO];exact hb))
 ·exact h.elim
end
open PySem PySem.Spec PyProof.Rows L2 PySem.SeqAt
mutual
noncomputable def deq:D->D->Bool
 | .non,.non=>true
 | .bl a,.bl b=>a==b
 | .bl a,.int b=>(if a then 1 else 0)==b
 | .int a,.bl b=>a==(if b then 1 else 0)
 | .int a,.int b=>a==b
 | .str a,.str b=>a==b
 | .tup xs,.tup ys=>deqs xs ys
 | .lst xs,.lst ys=>deqs xs ys
 |_,_=>false
noncomputable def deqs:List D->List D->Bool
 | [],[]=>true
 |x::xs,y::ys=>deq x y&&deqs xs ys
 |_,_=>false
end
mutual
noncomputable def D.dep:D->Nat
 | .tup xs=>deps xs+1
 | .lst xs=>deps xs+1
 |_=>0
noncomputable def deps:List D->Nat
 | []=>0
 |x::r=>max (D.dep x) (deps r)
end
mutual
theorem zjz:∀ d:D,deq d d=true
 | .non=>by unfold deq;rfl
 | .bl _=>by unfold deq;simp
 | .int _=>by unfold deq;simp
 | .str _=>by unfold deq;simp
 | .tup xs=>by unfold deq;exact deqs_refl xs
 | .lst xs=>by unfold deq;exact deqs_refl xs
theorem deqs_refl:∀ ds:List D,deqs ds ds=true
 | []=>by unfold deqs;rfl
 |x::r=>by unfold deqs;rw [zjz x,deqs_refl r];rfl
end
theorem zlP (xs ys:List D):deq (.tup xs) (.tup ys)=deqs xs ys:=by unfold deq;rfl
theorem zgS (xs ys:List D):deq (.lst xs) (.lst ys)=deqs xs ys:=by unfold deq;rfl
theorem zf0:∀ {xs ys:List D},xs.length≠ys.length->deqs xs ys=false
 | [],[],h=>absurd rfl h
 | [],_::_,_=>by unfold deqs;rfl
 |_::_,[],_=>by unfold deqs;rfl
 |x::xs,y::ys,h=>by unfold deqs;rw [zf0 (xs:=xs) (ys:=ys) (by simpa using h),Bool.and_false]
theorem zf1:∀ {xs ys:List D},xs.length=ys.length->deqs xs ys=(List.range xs.length).all fun j=>deq (xs.getD j .non) (ys.getD j .non)
 | [],[],_=>by unfold deqs;rfl
 | [],_::_,h=>by simp at h
 |_::_,[],h=>by simp at h
 |x::xs,y::ys,h=>by
  unfold deqs;rw [zf1 (xs:=xs) (ys:=ys) (by simpa using h),List.length_cons,List.range_succ_eq_map,List.all_cons,List.all_map];rfl
theorem zgT:∀ {xs:List D} {j:Nat} {d:D},xs[j]? =some d->d.dep<=deps xs
 | [],_,_,h=>by simp at h
 |x::xs,0,d,h=>by
  unfold deps;have:x=d:=by simpa using h
  subst this;omega
 |x::xs,j+1,d,h=>by
  unfold deps;have:=zgT (xs:=xs) (j:=j) (d:=d) (by simpa using h);omega
section
variable {X:Cx}{pins:List (Addr×Obj)}{σ:St}{H:Hp}{s:Shared}
theorem not_both (I:Inv X pins σ H s){a:Addr}{xs ys:List V}(h:SqL X.K H a xs)(h':SqT X.K H a ys):False:=by
 obtain ⟨its,r,⟨o,n,e,c,_,d⟩,_⟩:=I.list h;obtain ⟨its',r',⟨o',e',c',n',d'⟩,_⟩:=I.tuple h';rw [e] at e';cases e';rw [c] at c';exact absurd c' (by simp)
mutual
theorem rep_det (I:Inv X pins σ H s):∀ (d e:D) (v:V),Rep X.K H H d v->Rep X.K H H e v->d=e
 | .non,.non,_,_,_=>rfl
 | .bl a,.bl b,_,h,h'=>by unfold Rep at h h';subst h;injection h' with z;rw [z]
 | .int a,.int b,_,h,h'=>by unfold Rep at h h';subst h;injection h' with z;rw [z]
 | .str a,.str b,_,h,h'=>by unfold Rep at h h';subst h;injection h' with z;rw [z]
 | .tup xs,.tup ys,v,h,h'=>by
  unfold Rep at h h';obtain ⟨a,vs,e,q,r⟩:=h;obtain ⟨b,ws,e',q',r'⟩:=h';subst e;injection e' with z;subst z;have z:=I.tuple_inj q q';subst z;rw [reps_det I xs ys vs r r']
 | .lst xs,.lst ys,v,h,h'=>by
  unfold Rep at h h';obtain ⟨a,vs,e,q,r⟩:=h;obtain ⟨b,ws,e',q',r'⟩:=h';subst e;injection e' with z;subst z;have z:=I.list_inj q q';subst z;rw [reps_det I xs ys vs r r']
 | .tup xs,.lst ys,v,h,h'=>by
  unfold Rep at h h';obtain ⟨a,vs,e,q,r⟩:=h;obtain ⟨b,ws,e',q',r'⟩:=h';subst e;injection e' with z;subst z;exact (not_both I q' q).elim
 | .lst xs,.tup ys,v,h,h'=>by
  unfold Rep at h h';obtain ⟨a,vs,e,q,r⟩:=h;obtain ⟨b,ws,e',q',r'⟩:=h';subst e;injection e' with z;subst z;exact (not_both I q q').elim
 | .non,.bl _,_,h,h'=>by unfold Rep at h h';subst h;cases h'
 | .non,.int _,_,h,h'=>by unfold Rep at h h';subst h;cases h'
 | .non,.str _,_,h,h'=>by unfold Rep at h h';subst h;cases h'
 | .non,.tup _,_,h,h'=>by unfold Rep at h h';subst h;obtain ⟨_,_,z,_⟩:=h';cases z
 | .non,.lst _,_,h,h'=>by unfold Rep at h h';subst h;obtain ⟨_,_,z,_⟩:=h';cases z
 | .bl _,.non,_,h,h'=>by unfold Rep at h h';subst h;cases h'
 | .bl _,.int _,_,h,h'=>by unfold Rep at h h';subst h;cases h'
 | .bl _,.str _,_,h,h'=>by unfold Rep at h h';subst h;cases h'
 | .bl _,.tup _,_,h,h'=>by unfold Rep at h h';subst h;obtain ⟨_,_,z,_⟩:=h';cases z
 | .bl _,.lst _,_,h,h'=>by unfold Rep at h h';subst h;obtain ⟨_,_,z,_⟩:=h';cases z
 | .int _,.non,_,h,h'=>by unfold Rep at h h';subst h;cases h'
 | .int _,.bl _,_,h,h'=>by unfold Rep at h h';subst h;cases h'
 | .int _,.str _,_,h,h'=>by unfold Rep at h h';subst h;cases h'
 | .int _,.tup _,_,h,h'=>by unfold Rep at h h';subst h;obtain ⟨_,_,z,_⟩:=h';cases z
 | .int _,.lst _,_,h,h'=>by unfold Rep at h h';subst h;obtain ⟨_,_,z,_⟩:=h';cases z
 | .str _,.non,_,h,h'=>by unfold Rep at h h';subst h;cases h'
 | .str _,.bl _,_,h,h'=>by unfold Rep at h h';subst h;cases h'
 | .str _,.int _,_,h,h'=>by unfold Rep at h h';subst h;cases h'
 | .str _,.tup _,_,h,h'=>by unfold Rep at h h';subst h;obtain ⟨_,_,z,_⟩:=h';cases z
 | .str _,.lst _,_,h,h'=>by unfold Rep at h h';subst h;obtain ⟨_,_,z,_⟩:=h';cases z
 | .tup _,.non,_,h',h=>by unfold Rep at h h';subst h;obtain ⟨_,_,z,_⟩:=h';cases z
 | .tup _,.bl _,_,h',h=>by unfold Rep at h h';subst h;obtain ⟨_,_,z,_⟩:=h';cases z
 | .tup _,.int _,_,h',h=>by unfold Rep at h h';subst h;obtain ⟨_,_,z,_⟩:=h';cases z
 | .tup _,.str _,_,h',h=>by unfold Rep at h h';subst h;obtain ⟨_,_,z,_⟩:=h';cases z
 | .lst _,.non,_,h',h=>by unfold Rep at h h';subst h;obtain ⟨_,_,z,_⟩:=h';cases z
 | .lst _,.bl _,_,h',h=>by unfold Rep at h h';subst h;obtain ⟨_,_,z,_⟩:=h';cases z
 | .lst _,.int _,_,h',h=>by unfold Rep at h h';subst h;obtain ⟨_,_,z,_⟩:=h';cases z
 | .lst _,.str _,_,h',h=>by unfold Rep at h h';subst h;obtain ⟨_,_,z,_⟩:=h';cases z
theorem reps_det (I:Inv X pins σ H s):∀ (ds es:List D) (vs:List V),Reps X.K H H ds vs->Reps X.K H H es vs->ds=es
 | [],[],_,_,_=>rfl
 | [],_::_,vs,h,h'=>by unfold Reps at h h';subst h;obtain ⟨_,_,z,_⟩:=h';cases z
 |_::_,[],vs,h',h=>by unfold Reps at h h';subst h;obtain ⟨_,_,z,_⟩:=h';cases z
 |x::xs,y::ys,vs,h,h'=>by
  unfold Reps at h h';obtain ⟨v,r,e,a,b⟩:=h;obtain ⟨v',r',e',a',b'⟩:=h';subst e;injection e' with z1 z2;subst z1 z2;rw [rep_det I x y v a a',reps_det I xs ys r b b']
end
theorem zdl:∀ {xs:List V} {us:List Value} {j:Nat} {u:Value},Vals xs us->us[j]? =some u->∃ x,xs[j]? =some x/\RelV x u
 |_,_,j,u,.nil,h=>by simp at h
 |_,_,0,u,.cons (a:=x) r t,h=>⟨x,rfl,by
  rw [List.getElem?_cons_zero] at h;have h:=Option.some.inj h;rw [<-h];exact r⟩
 |_,_,j+1,u,.cons r t,h=>by
  obtain ⟨x,e,q⟩:=zdl (j:=j) t (by simpa using h);exact ⟨x,by simpa using e,q⟩
theorem zaC {h:Heap}{a:Addr}{its:Array Value}(p:PlainL h a its):h.IsList a its:=let ⟨o,n,e,c,_,d⟩:=p;⟨o,e,c,n,d⟩
theorem zjA (I:Inv X pins σ H s):∀ (n:Nat) (A:Around) (d e:D) (x y:V) (u v:Value),d.dep<=n->A.units+n<cLine->Rep X.K H H d x->Rep X.K H H e y->RelV x u->RelV y v->EqAt A s u v (deq d e)/\RcAt A s u v (deq d e):=by
 intro n
 induction n using Nat.strongRecOn with
 |ind n ih=>
  intro A d e x y u v hn hu rd re ru rv;have hu0:A.units<cLine:=by omega
  cases d with
  |non=>
   unfold Rep at rd;subst rd;cases ru;cases e with
   |non=>unfold Rep at re;subst re;cases rv;unfold deq;exact ⟨EqAt.same _,RcAt.none_none⟩
   |bl b=>unfold Rep at re;subst re;cases rv;unfold deq;exact ⟨EqAt.none_bool _,RcAt.none_bool _⟩
   |int b=>unfold Rep at re;subst re;obtain ⟨t,rfl⟩:=rv;unfold deq;exact ⟨EqAt.none_int _ _,RcAt.none_int _ _⟩
   |str b=>unfold Rep at re;subst re;obtain ⟨t,rfl⟩:=rv;unfold deq;exact ⟨EqAt.none_str _ _,RcAt.none_str _ _⟩
   |tup ys=>unfold Rep at re;obtain ⟨b,ws,rfl,q,r⟩:=re;cases rv;obtain ⟨its,_,p,_⟩:=I.tuple q;unfold deq;exact ⟨EqAt.none_tuple p hu0,RcAt.none_tuple p hu0⟩
   |lst ys=>unfold Rep at re;obtain ⟨b,ws,rfl,q,r⟩:=re;cases rv;obtain ⟨its,_,p,_⟩:=I.list q;unfold deq;exact ⟨EqAt.none_list (zaC p) hu0,RcAt.none_list (zaC p) hu0⟩
  |bl a=>
   unfold Rep at rd;subst rd;cases ru;cases e with
   |non=>unfold Rep at re;subst re;cases rv;unfold deq;exact ⟨EqAt.bool_none _,RcAt.bool_none _⟩
   |bl b=>unfold Rep at re;subst re;cases rv;unfold deq;exact ⟨EqAt.bool_bool _ _,RcAt.bool_bool _ _⟩
   |int b=>unfold Rep at re;subst re;obtain ⟨t,rfl⟩:=rv;unfold deq;exact ⟨EqAt.bool_int _ _ _,RcAt.bool_int _ _ _⟩
   |str b=>unfold Rep at re;subst re;obtain ⟨t,rfl⟩:=rv;unfold deq;exact ⟨EqAt.bool_str _ _ _,RcAt.bool_str _ _ _⟩
   |tup ys=>unfold Rep at re;obtain ⟨b,ws,rfl,q,r⟩:=re;cases rv;obtain ⟨its,_,p,_⟩:=I.tuple q;unfold deq;exact ⟨EqAt.bool_tuple _ p hu0,RcAt.bool_tuple _ p hu0⟩
   |lst ys=>unfold Rep at re;obtain ⟨b,ws,rfl,q,r⟩:=re;cases rv;obtain ⟨its,_,p,_⟩:=I.list q;unfold deq;exact ⟨EqAt.bool_list _ (zaC p) hu0,RcAt.bool_list _ (zaC p) hu0⟩
  |int a=>
   unfold Rep at rd;subst rd;obtain ⟨t0,rfl⟩:=ru;cases e with
   |non=>unfold Rep at re;subst re;cases rv;unfold deq;exact ⟨EqAt.int_none _ _,RcAt.int_none _ _⟩
   |bl b=>unfold Rep at re;subst re;cases rv;unfold deq;exact ⟨EqAt.int_bool _ _ _,RcAt.int_bool _ _ _⟩
   |int b=>unfold Rep at re;subst re;obtain ⟨t,rfl⟩:=rv;unfold deq;exact ⟨EqAt.int_int _ _ _ _,RcAt.int_int _ _ _ _⟩
   |str b=>unfold Rep at re;subst re;obtain ⟨t,rfl⟩:=rv;unfold deq;exact ⟨EqAt.int_str _ _ _ _,RcAt.int_str _ _ _ _⟩
   |tup ys=>unfold Rep at re;obtain ⟨b,ws,rfl,q,r⟩:=re;cases rv;obtain ⟨its,_,p,_⟩:=I.tuple q;unfold deq;exact ⟨EqAt.int_tuple _ _ p hu0,RcAt.int_tuple _ _ p hu0⟩
   |lst ys=>unfold Rep at re;obtain ⟨b,ws,rfl,q,r⟩:=re;cases rv;obtain ⟨its,_,p,_⟩:=I.list q;unfold deq;exact ⟨EqAt.int_list _ _ (zaC p) hu0,RcAt.int_list _ _ (zaC p) hu0⟩
  |str a=>
   unfold Rep at rd;subst rd;obtain ⟨t0,rfl⟩:=ru;cases e with
   |non=>unfold Rep at re;subst re;cases rv;unfold deq;exact ⟨EqAt.str_none _ _,RcAt.str_none _ _⟩
   |bl b=>unfold Rep at re;subst re;cases rv;unfold deq;exact ⟨EqAt.str_bool _ _ _,RcAt.str_bool _ _ _⟩
   |int b=>unfold Rep at re;subst re;obtain ⟨t,rfl⟩:=rv;unfold deq;exact ⟨EqAt.str_int _ _ _ _,RcAt.str_int _ _ _ _⟩
   |str b=>unfold Rep at re;subst re;obtain ⟨t,rfl⟩:=rv;unfold deq;exact ⟨EqAt.str_str _ _ _ _,RcAt.str_str _ _ _ _⟩
   |tup ys=>unfold Rep at re;obtain ⟨b,ws,rfl,q,r⟩:=re;cases rv;obtain ⟨its,_,p,_⟩:=I.tuple q;unfold deq;exact ⟨EqAt.str_tuple _ _ p hu0,RcAt.str_tuple _ _ p hu0⟩
   |lst ys=>unfold Rep at re;obtain ⟨b,ws,rfl,q,r⟩:=re;cases rv;obtain ⟨its,_,p,_⟩:=I.list q;unfold deq;exact ⟨EqAt.str_list _ _ (zaC p) hu0,RcAt.str_list _ _ (zaC p) hu0⟩
  |tup xs=>
   have rd0:=rd;unfold Rep at rd;obtain ⟨a,vs,rfl,q,r⟩:=rd;cases ru;obtain ⟨its,rv1,p,_⟩:=I.tuple q;cases e with
   |non=>unfold Rep at re;subst re;cases rv;unfold deq;exact ⟨EqAt.tuple_none p hu0,RcAt.tuple_none p hu0⟩
   |bl b=>unfold Rep at re;subst re;cases rv;unfold deq;exact ⟨EqAt.tuple_bool _ p hu0,RcAt.tuple_bool _ p hu0⟩
   |int b=>unfold Rep at re;subst re;obtain ⟨t,rfl⟩:=rv;unfold deq;exact ⟨EqAt.tuple_int _ _ p hu0,RcAt.tuple_int _ _ p hu0⟩
   |str b=>unfold Rep at re;subst re;obtain ⟨t,rfl⟩:=rv;unfold deq;exact ⟨EqAt.tuple_str _ _ p hu0,RcAt.tuple_str _ _ p hu0⟩
   |lst ys=>unfold Rep at re;obtain ⟨b,ws,rfl,q',r'⟩:=re;cases rv;obtain ⟨its',_,p',_⟩:=I.list q';unfold deq;exact ⟨EqAt.tuple_list p (zaC p') hu0,RcAt.tuple_list p (zaC p') hu0⟩
   |tup ys=>
    have re0:=re;unfold Rep at re;obtain ⟨b,ws,rfl,q',r'⟩:=re;cases rv;obtain ⟨its',rv1',p',_⟩:=I.tuple q';have l1:xs.length=its.length:=r.len.trans rv1.length;have l2:ys.length=its'.length:=r'.len.trans rv1'.length;have key:RcAt A s (.ref a) (.ref b) (deq (.tup xs) (.tup ys)):=by
     have he:∀ j (h1:j<its.toArray.size) (h2:j<its'.toArray.size),EqAt A.in1 s its.toArray[j] its'.toArray[j] (deq (xs.getD j .non) (ys.getD j .non)):=by
      intro j h1 h2;obtain ⟨x,ex,rx⟩:=zdl (j:=j) rv1 (List.getElem?_eq_getElem (by simpa using h1));obtain ⟨y,ey,ry⟩:=zdl (j:=j) rv1' (List.getElem?_eq_getElem (by simpa using h2));obtain ⟨d,ed,rd⟩:=r.at ex;obtain ⟨e,ee,re⟩:=r'.at ey;rw [List.getD_eq_getElem?_getD,List.getD_eq_getElem?_getD,ed,ee];exact (ih (n - 1) (by unfold D.dep at hn;omega) A.in1 d e x y _ _ (by have:=zgT ed;unfold D.dep at hn;omega) (by unfold D.dep at hn;show A.units+1+(n - 1)<_;omega) rd re rx ry).1
     have:=RcAt.tuples p p' hu0 he;have e1:((List.range (min its.toArray.size its'.toArray.size)).all (fun j=>deq (xs.getD j .non) (ys.getD j .non))&&its.toArray.size==its'.toArray.size)=deq (.tup xs) (.tup ys):=by
      rw [zlP];simp only [List.size_toArray];rw [<-l1,<-l2];by_cases z:xs.length=ys.length
      ·rw [zf1 z,z,Nat.min_self];simp
      ·rw [zf0 z];simp [z]
     rw [e1] at this;exact this
    refine ⟨?_,key⟩;by_cases z:a=b
    ·subst z;rw [rep_det I _ _ _ rd0 re0,zjz];exact EqAt.same _
    ·exact EqAt.of_refs z key
  |lst xs=>
   have rd0:=rd;unfold Rep at rd;obtain ⟨a,vs,rfl,q,r⟩:=rd;cases ru;obtain ⟨its,rv1,p,_⟩:=I.list q;have p:=zaC p;cases e with
   |non=>unfold Rep at re;subst re;cases rv;unfold deq;exact ⟨EqAt.list_none p hu0,RcAt.list_none p hu0⟩
   |bl b=>unfold Rep at re;subst re;cases rv;unfold deq;exact ⟨EqAt.list_bool _ p hu0,RcAt.list_bool _ p hu0⟩
   |int b=>unfold Rep at re;subst re;obtain ⟨t,rfl⟩:=rv;unfold deq;exact ⟨EqAt.list_int _ _ p hu0,RcAt.list_int _ _ p hu0⟩
   |str b=>unfold Rep at re;subst re;obtain ⟨t,rfl⟩:=rv;unfold deq;exact ⟨EqAt.list_str _ _ p hu0,RcAt.list_str _ _ p hu0⟩
   |tup ys=>unfold Rep at re;obtain ⟨b,ws,rfl,q',r'⟩:=re;cases rv;obtain ⟨its',_,p',_⟩:=I.tuple q';unfold deq;exact ⟨EqAt.list_tuple p p' hu0,RcAt.list_tuple p p' hu0⟩
   |lst ys=>
    have re0:=re;unfold Rep at re;obtain ⟨b,ws,rfl,q',r'⟩:=re;cases rv;obtain ⟨its',rv1',p',_⟩:=I.list q';have p':=zaC p';have l1:xs.length=its.length:=r.len.trans rv1.length;have l2:ys.length=its'.length:=r'.len.trans rv1'.length;have key:RcAt A s (.ref a) (.ref b) (deq (.lst xs) (.lst ys)):=by
     by_cases z:xs.length=ys.length
     ·have he:∀ j (h1:j<its.toArray.size) (h2:j<its'.toArray.size),EqAt A.in1 s its.toArray[j] its'.toArray[j] (deq (xs.getD j .non) (ys.getD j .non)):=by
       intro j h1 h2;obtain ⟨x,ex,rx⟩:=zdl (j:=j) rv1 (List.getElem?_eq_getElem (by simpa using h1));obtain ⟨y,ey,ry⟩:=zdl (j:=j) rv1' (List.getElem?_eq_getElem (by simpa using h2));obtain ⟨d,ed,rd⟩:=r.at ex;obtain ⟨e,ee,re⟩:=r'.at ey;rw [List.getD_eq_getElem?_getD,List.getD_eq_getElem?_getD,ed,ee];exact (ih (n - 1) (by unfold D.dep at hn;omega) A.in1 d e x y _ _ (by have:=zgT ed;unfold D.dep at hn;omega) (by unfold D.dep at hn;show A.units+1+(n - 1)<_;omega) rd re rx ry).1
      have:=RcAt.lists p p' (by simp only [List.size_toArray];omega) hu0 he;have e1:(List.range its.toArray.size).all (fun j=>deq (xs.getD j .non) (ys.getD j .non))=deq (.lst xs) (.lst ys):=by
       rw [zgS];simp only [List.size_toArray];rw [<-l1,zf1 z]
      rw [e1] at this;exact this
     ·have:=RcAt.lists_lengths (A:=A) p p' (by simp only [List.size_toArray,bne_iff_ne];omega) hu0;rw [zgS,zf0 z];exact this
    refine ⟨?_,key⟩;by_cases z:a=b
    ·subst z;rw [rep_det I _ _ _ rd0 re0,zjz];exact EqAt.same _
    ·exact EqAt.of_refs z key
end
open PySem PySem.Spec PyProof.Rows L2 PySem.SeqAt
section
variable {X:Cx}{pins:List (Addr×Obj)}{σ:St}{H:Hp}{s:Shared}
theorem zrx (I:Inv X pins σ H s)(n:Nat)(A:Around)(d e:D)(x y:V)(u v:Value)(hn:d.dep<=n)(hu:A.units+n<cLine)(rd:Rep X.K H H d x)(re:Rep X.K H H e y)(ru:RelV x u)(rv:RelV y v):RcNeAt A s u v (!deq d e):=by
 have hu0:A.units<cLine:=by omega
 cases d with
 |non=>
  unfold Rep at rd;subst rd;cases ru;cases e with
  |non=>unfold Rep at re;subst re;cases rv;unfold deq;exact RcNeAt.none_none
  |bl b=>unfold Rep at re;subst re;cases rv;unfold deq;exact RcNeAt.none_bool _
  |int b=>unfold Rep at re;subst re;obtain ⟨t,rfl⟩:=rv;unfold deq;exact RcNeAt.none_int _ _
  |str b=>unfold Rep at re;subst re;obtain ⟨t,rfl⟩:=rv;unfold deq;exact RcNeAt.none_str _ _
  |tup b=>unfold Rep at re;obtain ⟨b0,ws,rfl,q',r'⟩:=re;cases rv;obtain ⟨its',_,p',_⟩:=I.tuple q';unfold deq;exact RcNeAt.none_tuple p' hu0
  |lst b=>unfold Rep at re;obtain ⟨b0,ws,rfl,q',r'⟩:=re;cases rv;obtain ⟨its',_,p',_⟩:=I.list q';unfold deq;exact RcNeAt.none_list (zaC p') hu0
 |bl a=>
  unfold Rep at rd;subst rd;cases ru;cases e with
  |non=>unfold Rep at re;subst re;cases rv;unfold deq;exact RcNeAt.bool_none _
  |bl b=>unfold Rep at re;subst re;cases rv;unfold deq;exact RcNeAt.bool_bool _ _
  |int b=>unfold Rep at re;subst re;obtain ⟨t,rfl⟩:=rv;unfold deq;exact RcNeAt.bool_int _ _ _
  |str b=>unfold Rep at re;subst re;obtain ⟨t,rfl⟩:=rv;unfold deq;exact RcNeAt.bool_str _ _ _
  |tup b=>unfold Rep at re;obtain ⟨b0,ws,rfl,q',r'⟩:=re;cases rv;obtain ⟨its',_,p',_⟩:=I.tuple q';unfold deq;exact RcNeAt.bool_tuple _ p' hu0
  |lst b=>unfold Rep at re;obtain ⟨b0,ws,rfl,q',r'⟩:=re;cases rv;obtain ⟨its',_,p',_⟩:=I.list q';unfold deq;exact RcNeAt.bool_list _ (zaC p') hu0
 |int a=>
  unfold Rep at rd;subst rd;obtain ⟨t0,rfl⟩:=ru;cases e with
  |non=>unfold Rep at re;subst re;cases rv;unfold deq;exact RcNeAt.int_none _ _
  |bl b=>unfold Rep at re;subst re;cases rv;unfold deq;exact RcNeAt.int_bool _ _ _
  |int b=>unfold Rep at re;subst re;obtain ⟨t,rfl⟩:=rv;unfold deq;exact RcNeAt.int_int _ _ _ _
  |str b=>unfold Rep at re;subst re;obtain ⟨t,rfl⟩:=rv;unfold deq;exact RcNeAt.int_str _ _ _ _
  |tup b=>unfold Rep at re;obtain ⟨b0,ws,rfl,q',r'⟩:=re;cases rv;obtain ⟨its',_,p',_⟩:=I.tuple q';unfold deq;exact RcNeAt.int_tuple _ _ p' hu0
  |lst b=>unfold Rep at re;obtain ⟨b0,ws,rfl,q',r'⟩:=re;cases rv;obtain ⟨its',_,p',_⟩:=I.list q';unfold deq;exact RcNeAt.int_list _ _ (zaC p') hu0
 |str a=>
  unfold Rep at rd;subst rd;obtain ⟨t0,rfl⟩:=ru;cases e with
  |non=>unfold Rep at re;subst re;cases rv;unfold deq;exact RcNeAt.str_none _ _
  |bl b=>unfold Rep at re;subst re;cases rv;unfold deq;exact RcNeAt.str_bool _ _ _
  |int b=>unfold Rep at re;subst re;obtain ⟨t,rfl⟩:=rv;unfold deq;exact RcNeAt.str_int _ _ _ _
  |str b=>unfold Rep at re;subst re;obtain ⟨t,rfl⟩:=rv;unfold deq;exact RcNeAt.str_str _ _ _ _
  |tup b=>unfold Rep at re;obtain ⟨b0,ws,rfl,q',r'⟩:=re;cases rv;obtain ⟨its',_,p',_⟩:=I.tuple q';unfold deq;exact RcNeAt.str_tuple _ _ p' hu0
  |lst b=>unfold Rep at re;obtain ⟨b0,ws,rfl,q',r'⟩:=re;cases rv;obtain ⟨its',_,p',_⟩:=I.list q';unfold deq;exact RcNeAt.str_list _ _ (zaC p') hu0
 |tup a=>
  unfold Rep at rd;obtain ⟨a0,vs,rfl,q,r⟩:=rd;cases ru;obtain ⟨its,rv1,p,_⟩:=I.tuple q;cases e with
  |non=>unfold Rep at re;subst re;cases rv;unfold deq;exact RcNeAt.tuple_none p hu0
  |bl b=>unfold Rep at re;subst re;cases rv;unfold deq;exact RcNeAt.tuple_bool _ p hu0
  |int b=>unfold Rep at re;subst re;obtain ⟨t,rfl⟩:=rv;unfold deq;exact RcNeAt.tuple_int _ _ p hu0
  |str b=>unfold Rep at re;subst re;obtain ⟨t,rfl⟩:=rv;unfold deq;exact RcNeAt.tuple_str _ _ p hu0
  |tup b=>
   unfold Rep at re;obtain ⟨b0,ws,rfl,q',r'⟩:=re;cases rv;obtain ⟨its',rv1',p',_⟩:=I.tuple q';have l1:a.length=its.length:=r.len.trans rv1.length;have l2:b.length=its'.length:=r'.len.trans rv1'.length;have he:∀ j (h1:j<its.toArray.size) (h2:j<its'.toArray.size),EqAt A.in1 s its.toArray[j] its'.toArray[j] (deq (a.getD j .non) (b.getD j .non)):=by
    intro j h1 h2;obtain ⟨x,ex,rx⟩:=zdl (j:=j) rv1 (List.getElem?_eq_getElem (by simpa using h1));obtain ⟨y,ey,ry⟩:=zdl (j:=j) rv1' (List.getElem?_eq_getElem (by simpa using h2));obtain ⟨d,ed,rd⟩:=r.at ex;obtain ⟨e,ee,re⟩:=r'.at ey;rw [List.getD_eq_getElem?_getD,List.getD_eq_getElem?_getD,ed,ee];unfold D.dep at hn;exact (zjA I (n - 1) A.in1 d e x y _ _ (by have:=zgT ed;omega) (by show A.units+1+(n - 1)<_;omega) rd re rx ry).1
   have:=RcNeAt.tuples p p' hu0 he;have e1:((List.range (min its.toArray.size its'.toArray.size)).all (fun j=>deq (a.getD j .non) (b.getD j .non))&&its.toArray.size==its'.toArray.size)=deq (.tup a) (.tup b):=by
    rw [zlP];simp only [List.size_toArray];rw [<-l1,<-l2];by_cases z:a.length=b.length
    ·rw [zf1 z,z,Nat.min_self];simp
    ·rw [zf0 z];simp [z]
   rw [e1] at this;exact this
  |lst b=>unfold Rep at re;obtain ⟨b0,ws,rfl,q',r'⟩:=re;cases rv;obtain ⟨its',_,p',_⟩:=I.list q';unfold deq;exact RcNeAt.tuple_list p (zaC p') hu0
 |lst a=>
  unfold Rep at rd;obtain ⟨a0,vs,rfl,q,r⟩:=rd;cases ru;obtain ⟨its,rv1,p,_⟩:=I.list q;have p:=zaC p;cases e with
  |non=>unfold Rep at re;subst re;cases rv;unfold deq;exact RcNeAt.list_none p hu0
  |bl b=>unfold Rep at re;subst re;cases rv;unfold deq;exact RcNeAt.list_bool _ p hu0
  |int b=>unfold Rep at re;subst re;obtain ⟨t,rfl⟩:=rv;unfold deq;exact RcNeAt.list_int _ _ p hu0
  |str b=>unfold Rep at re;subst re;obtain ⟨t,rfl⟩:=rv;unfold deq;exact RcNeAt.list_str _ _ p hu0
  |tup b=>unfold Rep at re;obtain ⟨b0,ws,rfl,q',r'⟩:=re;cases rv;obtain ⟨its',_,p',_⟩:=I.tuple q';unfold deq;exact RcNeAt.list_tuple p p' hu0
  |lst b=>
   unfold Rep at re;obtain ⟨b0,ws,rfl,q',r'⟩:=re;cases rv;obtain ⟨its',rv1',p',_⟩:=I.list q';have p':=zaC p';have l1:a.length=its.length:=r.len.trans rv1.length;have l2:b.length=its'.length:=r'.len.trans rv1'.length;have he:∀ j (h1:j<its.toArray.size) (h2:j<its'.toArray.size),EqAt A.in1 s its.toArray[j] its'.toArray[j] (deq (a.getD j .non) (b.getD j .non)):=by
    intro j h1 h2;obtain ⟨x,ex,rx⟩:=zdl (j:=j) rv1 (List.getElem?_eq_getElem (by simpa using h1));obtain ⟨y,ey,ry⟩:=zdl (j:=j) rv1' (List.getElem?_eq_getElem (by simpa using h2));obtain ⟨d,ed,rd⟩:=r.at ex;obtain ⟨e,ee,re⟩:=r'.at ey;rw [List.getD_eq_getElem?_getD,List.getD_eq_getElem?_getD,ed,ee];unfold D.dep at hn;exact (zjA I (n - 1) A.in1 d e x y _ _ (by have:=zgT ed;omega) (by show A.units+1+(n - 1)<_;omega) rd re rx ry).1
   by_cases z:a.length=b.length
   ·have:=RcNeAt.lists p p' (by simp only [List.size_toArray];omega) hu0 he;have e1:(List.range its.toArray.size).all (fun j=>deq (a.getD j .non) (b.getD j .non))=deq (.lst a) (.lst b):=by
     rw [zgS];simp only [List.size_toArray];rw [<-l1,zf1 z]
    rw [e1] at this;exact this
   ·have:=RcNeAt.lists_lengths (A:=A) p p' (by simp only [List.size_toArray,bne_iff_ne];omega) hu0;rw [zgS,zf0 z];exact this
noncomputable def zuF (K:PySem.W.Frag):R2:=fun x y H Q=>∃ d e,Rep K H H d x/\Rep K H H e y/\d.dep<=100/\Q (.bl (deq d e)) H
noncomputable def zuG (K:PySem.W.Frag):R2:=fun x y H Q=>∃ d e,Rep K H H d x/\Rep K H H e y/\d.dep<=100/\Q (.bl (!deq d e)) H
theorem zqF {k:Nat}(hr:Room k X.A):OpR X (compareOp .Eq) (zuF X.K):=by
 intro pins s σ H x y v u Q I rx ry ⟨d,e,rd,re,hd,q⟩;exact (zjA I 100 X.A d e x y v u hd (by have:=hr.un;omega) rd re rx ry).2 X.prog X.w X.xe _ (zi9 I q rfl)
theorem zs3 {k:Nat}(hr:Room k X.A):OpR X (compareOp .NotEq) (zuG X.K):=by
 intro pins s σ H x y v u Q I rx ry ⟨d,e,rd,re,hd,q⟩;exact zrx I 100 X.A d e x y v u hd (by have:=hr.un;omega) rd re rx ry X.prog X.w X.xe _ (zi9 I q rfl)
noncomputable def fEq:V2:=fun d e Q=>d.dep<=100/\Q (.bl (deq d e))
noncomputable def fNe:V2:=fun d e Q=>d.dep<=100/\Q (.bl (!deq d e))
theorem zs4 {K:PySem.W.Frag}:Lf K fEq (zuF K):=fun H x y d e Qd Q rx ry h k=>⟨d,e,rx,ry,h.1,k _ h.2 _ H (Same.refl H) rfl⟩
theorem zuo {K:PySem.W.Frag}:Lf K fNe (zuG K):=fun H x y d e Qd Q rx ry h k=>⟨d,e,rx,ry,h.1,k _ h.2 _ H (Same.refl H) rfl⟩
variable {a b c e:Expr}{es:List Expr}{ta tb tc:VE}{pos p:Pos}{k:Nat}
theorem zhx (hr:Room k X.A)(ha:SB X a ta)(hb:SB X b tb):SB X (.Compare a [.Eq] [b] pos) (vBin fEq ta tb):=zkE (zqF hr) zs4 ha hb (zhd _)
theorem zgU (hr:Room k X.A)(ha:SB X a ta)(hb:SB X b tb):ST X (.Compare a [.Eq] [b] pos) (zb4 (vBin fEq ta tb)):=zkF (zqF hr) zs4 ha hb (zhd _)
theorem zpC (hr:Room k X.A)(ha:SB X a ta)(hb:SB X b tb):ST X (.Compare a [.NotEq] [b] pos) (zb4 (vBin fNe ta tb)):=zkF (zs3 hr) zuo ha hb (zhd _)
theorem zmJ:∀ {xs:List V} {us:List Value} {ds:List D} (f:Value->Bool) (g:D->Bool),Vals xs us->Reps X.K H H ds xs->(∀ x u d,RelV x u->Rep X.K H H d x->u∈us->f u=g d)->us.any f=ds.any g
 |_,_,ds,f,g,.nil,r,h=>by
  have:=r.len;cases ds with
  |nil=>rfl
  |cons _ _=>simp at this
 |_,_,ds,f,g,.cons (a:=x) (b:=u) rv t,r,h=>by
  cases ds with
  |nil=>have:=r.len;simp at this
  |cons d ds=>
   unfold Reps at r;obtain ⟨v,r',e,r1,r2⟩:=r;injection e with z1 z2;subst z1 z2;rw [List.any_cons,List.any_cons,h x u d rv r1 List.mem_cons_self,zmJ f g t r2 fun x u d a b c=>h x u d a b (List.mem_cons_of_mem _ c)]
open Classical in
theorem zod (I:Inv X pins σ H s){A:Around}{d:D}{ds:List D}{x:V}{xs:List V}{u:Value}{us:List Value}(hn:deps ds<=100)(hu:A.units+200<cLine)(rd:Rep X.K H H d x)(ru:RelV x u)(rs:Reps X.K H H ds xs)(rv:Vals xs us):
  ∃ f:Value->Bool,(∀ y∈us,EqAt A.in1 s y u (f y))/\us.any f=ds.any fun z=>deq z d:=by
 refine ⟨fun y=>decide (∃ z v,RelV v y/\Rep X.K H H z v/\deq z d=true),?_,?_⟩
 ·intro y hy;obtain ⟨j,hj,ej⟩:=List.mem_iff_getElem.mp hy;obtain ⟨v,ev,rel⟩:=zdl (j:=j) rv (List.getElem?_eq_getElem hj);obtain ⟨z,ez,rz⟩:=rs.at ev;rw [ej] at rel;have key:=(zjA I 100 A.in1 z d v x y u (by have:=zgT ez;omega) (by show A.units+1+100<_;omega) rz rd rel ru).1;have e1:decide (∃ z v,RelV v y/\Rep X.K H H z v/\deq z d=true)=deq z d:=by
   rw [Bool.eq_iff_iff,decide_eq_true_iff];constructor
   ·rintro ⟨z',v',r1,r2,r3⟩;have:=rel.inj r1;subst this;rw [rep_det I z z' v rz r2];exact r3
   ·intro h;exact ⟨z,v,rel,rz,h⟩
  show EqAt A.in1 s y u (decide _)
  rw [e1];exact key
 ·refine zmJ (X:=X) (H:=H) _ _ rv rs fun v y z rel rz _=>?_;show decide _=_
  rw [Bool.eq_iff_iff,decide_eq_true_iff];constructor
  ·rintro ⟨z',v',r1,r2,r3⟩;have:=rel.inj r1;subst this;rw [rep_det I z z' v rz r2];exact r3
  ·intro h;exact ⟨z,v,rel,rz,h⟩
noncomputable def zuH (K:PySem.W.Frag)(neg:Bool):R2:=fun x y H Q=>∃ d ds,Rep K H H d x/\(Rep K H H (.lst ds) y\/Rep K H H (.tup ds) y)/\deps ds<=100/\Q (.bl (if neg then !(ds.any fun z=>deq z d) else ds.any fun z=>deq z d)) H
theorem zkM (hr:Room k X.A):OpR X (compareOp .NotIn) (zuH X.K true):=by
 intro pins s σ H x y v u Q I rx ry ⟨d,ds,rd,rs,hd,q⟩;rcases rs with rs|rs<;>unfold Rep at rs<;>obtain ⟨a,vs,rfl,sq,rr⟩:=rs<;>cases ry
 ·obtain ⟨its,rv,p,_⟩:=I.list sq;obtain ⟨f,h1,h2⟩:=zod I (A:=X.A) hd (by have:=hr.un;omega) rd rx rr rv;refine notIn_listAt f (zaC p) (fun y hy=>h1 y (by simpa using hy)) (zi9 I q (by rw [show its.toArray.any f=its.any f by simp,h2];rfl))
 ·obtain ⟨its,rv,p,_⟩:=I.tuple sq;obtain ⟨f,h1,h2⟩:=zod I (A:=X.A) hd (by have:=hr.un;omega) rd rx rr rv;refine notIn_tupleAt f p (fun y hy=>h1 y (by simpa using hy)) (zi9 I q (by rw [show its.toArray.any f=its.any f by simp,h2];rfl))
noncomputable def zh0:V2:=fun d e Q=>match e with
 | .lst ds=>deps ds<=100/\Q (.bl (!(ds.any fun z=>deq z d)))
 | .tup ds=>deps ds<=100/\Q (.bl (!(ds.any fun z=>deq z d)))
 |_=>False
theorem zmK {K:PySem.W.Frag}:Lf K zh0 (zuH K true):=fun H x y d e Qd Q rx ry h k=>by
 unfold zh0 at h;split at h
 ·exact ⟨d,_,rx,.inl ry,h.1,k _ h.2 _ H (Same.refl H) rfl⟩
 ·exact ⟨d,_,rx,.inr ry,h.1,k _ h.2 _ H (Same.refl H) rfl⟩
 ·exact h.elim
theorem zpD (hr:Room k X.A)(ha:SB X a ta)(hb:SB X b tb)(hm:behindInMarks .NotIn b=false:=by rfl):SB X (.Compare a [.NotIn] [b] pos) (vBin zh0 ta tb):=zkE (zkM hr) zmK ha hb hm
theorem zpE (hr:Room k X.A)(ha:SB X a ta)(hb:SB X b tb)(hm:behindInMarks .NotIn b=false:=by rfl):ST X (.Compare a [.NotIn] [b] pos) (zb4 (vBin zh0 ta tb)):=zkF (zkM hr) zmK ha hb hm
noncomputable def dTy:D->String
 | .non=>"NoneType"| .bl _=>"bool"| .int _=>"int"| .str _=>"str"| .tup _=>"tuple"| .lst _=>"list"
theorem zs5 {A:Around}{E:Value->Shared->Prop}{Q:Value->Shared->Prop}{c:Value}{r:Bool}{d:D}{x:V}{u:Value}(I:Inv X pins σ H s)(rd:Rep X.K H H d x)(rx:RelV x u)(e:PySem.W.kitOne X.K (.type (dTy d)) c=some r)(h:∀ tk,Q (.bool r) {s with toks:=tk}):
  wpAny (model X.prog X.w) A (call (.builtin "isinstance") [u,c]) Q E s:=by
 cases d with
 |non=>unfold Rep at rd;subst rd;exact zfT I rx (.non) e h
 |bl b=>unfold Rep at rd;subst rd;exact zfT I rx (.bl b) e h
 |int b=>unfold Rep at rd;subst rd;exact zfT I rx (.int b) e h
 |str b=>unfold Rep at rd;subst rd;exact zfT I rx (.str b) e h
 |tup xs=>
  unfold Rep at rd;obtain ⟨a,vs,rfl,sq,rr⟩:=rd;cases rx;obtain ⟨its,rv,p,_⟩:=I.tuple sq;obtain ⟨o,h1,h2,_⟩:=p;exact PySem.W.kia_one PySem.W.kitx_tuple I.kIn ⟨o,h1,h2⟩ e (fun z=>nomatch z) h
 |lst xs=>
  unfold Rep at rd;obtain ⟨a,vs,rfl,sq,rr⟩:=rd;cases rx;obtain ⟨its,rv,p,_⟩:=I.list sq;obtain ⟨o,n,h1,h2,_⟩:=p;exact PySem.W.kia_one PySem.W.kitx_list I.kIn ⟨o,h1,h2⟩ e (fun z=>nomatch z) h
noncomputable def zsj (f:D->Bool)(t:VE):VE:=fun st Q=>t st fun d=>Q (.bl (f d))
theorem zpF {C:String}{f:D->Bool}(hf:∀ d,PySem.W.kitOne X.K (.type (dTy d)) (.type C)=some (f d)):CallR X (.builtin "isinstance") (fun xs H Q=>∃ x d,xs=[x,.ty C]/\Rep X.K H H d x/\Q (.bl (f d)) H):=by
 intro pins s σ H xs us Q I rv ⟨x,d,e,rd,q⟩;subst e;obtain ⟨u,v,rfl,r1,r2⟩:=Vals.two rv;cases r2;exact zs5 I rd r1 (hf d) fun tk=>zi9 (I.tok tk) q rfl
theorem zmL {C:Str}{T:String}{f:D->Bool}{p1 p2 p3:Pos}(hf:∀ d,PySem.W.kitOne X.K (.type (dTy d)) (.type T)=some (f d))(hm:X.mg "isinstance"=none)(hm2:X.mg C=none)(hv:bootBuiltins C=some (.type T))(ha:SB X e ta)(hg:Gl X "isinstance":=by rfl)(hg2:Gl X C:=by rfl)
  (hn:C≠"__name__":=by decide)(hdb:(C==("__debug__":Str))=false:=by decide)(he:starEach [e,.Name C p2] X.env=(false,eval e X.env)::starEach [.Name C p2] X.env:=by rfl)(he2:starEach [.Name C p2] X.env=(false,eval (.Name C p2) X.env)::starEach [] X.env:=by rfl)(hpl:(backTo p3 (starEach [.Name C p2] X.env)).any (·.1)=false:=by rfl):
  SB X (.Call (.Name "isinstance" p1) [e,.Name C p2] [] p3) (zsj f ta):=
 PE.wk (zmu (zpF hf) hg hm (by rfl) (zcm ha (zcm (zqV hg2 hm2 hv (v:=.ty T) rfl hn hdb) zfU he2) he) (by decide) (by decide) he hpl) fun σ H Q ⟨F,st,Qd,ok,h,k⟩=>
  ⟨F,st,_,ok,h,fun d hd v H1 s1 r1=>⟨v,d,rfl,r1,k _ hd _ H1 s1 rfl⟩⟩
noncomputable def isI:D->Bool
 | .int _=>true| .bl _=>true|_=>false
noncomputable def zqG:D->Bool
 | .bl _=>true|_=>false
noncomputable def zkN:D->Bool
 | .lst _=>true|_=>false
noncomputable def zoe:D->Bool
 | .tup _=>true|_=>false
noncomputable def zof:D->Bool
 | .str _=>true|_=>false
theorem zry {K:PySem.W.Frag}(d:D):PySem.W.kitOne K (.type (dTy d)) (.type "int")=some (isI d):=by cases d<;>rfl
theorem zpG {K:PySem.W.Frag}(d:D):PySem.W.kitOne K (.type (dTy d)) (.type "bool")=some (zqG d):=by cases d<;>rfl
theorem zmM {K:PySem.W.Frag}(d:D):PySem.W.kitOne K (.type (dTy d)) (.type "list")=some (zkN d):=by cases d<;>rfl
variable {x:Str}{m:VF}
end
open PySem PySem.Spec PyProof.Rows L2 PySem.W PySem.Calls Att
noncomputable def bts (x:Int):Nat:=Builtin.Int.intBits x
theorem zh1:∀ {ns:List Int} {x:Int},x∈ns->bts x<=WData.weightAll (ns.map WData.int)
 | [],_,h=>by cases h
 |y::r,x,h=>by
  rw [List.map_cons,WData.weightAll];rcases List.mem_cons.mp h with z|z
  ·subst z;show bts x<=WData.weight (.int x)+1+_
   have:bts x=WData.weight (.int x):=by rw [WData.weight];rfl
   omega
  ·have:=zh1 z;omega
theorem zlQ {ns:List Int}(h:WData.layableAll [WData.list (ns.map WData.int)]=true):∀ x∈ns,bts x<=1048576:=by
 intro x hx;unfold WData.layableAll at h;rw [List.all_cons,List.all_nil,Bool.and_true] at h;unfold WData.layable at h;rw [Bool.and_eq_true,decide_eq_true_iff] at h;have h2:=h.2;rw [WData.weight] at h2;have:=zh1 hx;omega
theorem zkO {l:OpenLaw}{n:Nat}{q:Program}{loose:List Str}{XP:(Str->Option Value)->Heap->Prop}{YP:World->Heap->Prop}{d:DefRec}
  (hn:l.most=some n)(hdf:d.params.defaults=[])
  (call:∀ (w:World) (s₀ s₁:Shared) (mg mb:Str->Option Value) (fa:Addr) (o:Obj) (pm cd doc:Value) (a:Addr) (vs:List Value) (ns:List Int),
   Ground q loose [] XP w s₀ mg mb s₁.heap->YP w s₁.heap->
   s₁.heap.get? fa=some o->o.data= .func (docDef d.name d.params d.body d.scope pm cd doc)->s₁.heap.CodeRec cd d.name->mg d.name=some (.ref fa)->
   s₁.heap.get? a=some {cls:=.type "list",data:=.seq vs.toArray}->IntsAre vs ns->ns.length<=n->(∀ x∈ns,bts x<=1048576)->s₁.gens= #[]->
   codeAny (model l.prog w) callerA (.call (.ref fa) ⟨[.ref a],[]⟩) (fun r s'=>r= .ok (.ret (.bool true))/\OldK s₁.heap s'.heap/\s'.os=s₁.os/\AllBare s'.gens) s₁):
  WalkO q loose XP YP l.row.toRowW d [] (fun f vs=>PySem.call f vs):=by
 intro w s₀ s₁ mg mb G Y fa o pm cd doc dV kV ho hd hcd hD hmg hg args vals as hpre hlay hrd hwl hlo;obtain rfl:dV= .none:=Dflts.none hD hdf;obtain rfl:kV= .none:=Dflts.noKw hD;obtain ⟨a,vs,ns,rfl,rfl,hobj,hints,hlen⟩:=zkz hn hpre hwl;refine enter_call (codeAny_mono (call w s₀ s₁ mg mb fa o pm cd doc a vs ns G Y ho (fd_plain hd) hcd hmg hobj hints hlen (zlQ hlay) hg) fun r s' hq=>?_);obtain ⟨rfl,h2,h3,h4⟩:=hq;exact ⟨.inl ⟨.bool true,.bool true,[],rfl,fun _=>rfl,.bool true,zkA l _,fun _=>⟨List.Pairwise.nil,fun _ hm=>(nomatch hm)⟩⟩,h2,h3,h4⟩
noncomputable def zs6:VF:=fun ds Q=>∃ ns:List Int,ds=[.lst (ns.map .int)]/\ns.length<=63/\(∀ x∈ns,bts x<=1048576)/\Q .sh (.bl true)
theorem zkP {K:PySem.W.Frag}{F H:Hp}:∀ ns:List Int,Reps K F H (ns.map D.int) (ns.map V.int)
 | []=>by unfold Reps;rfl
 |x::r=>by
  rw [List.map_cons,List.map_cons];unfold Reps;exact ⟨_,_,rfl,by unfold Rep;rfl,zkP r⟩
theorem zup {l:PySem.W.OpenLaw}{k:Nat}{q:Program}{loose:List Str}{XP:(Str->Option Value)->Heap->Prop}{YP:World->Heap->Prop}{d:DefRec}{K:Params->PySem.W.Frag}{x:Str}
  (hn:l.most=some 63)(hdf:d.params.defaults=[])(hr:Room k callerA)
  (hY:∀ (w:World) (h:Heap),YP w h->(K w.params).In h)
  (F:∀ (w:World) (mg:Str->Option Value) (fa:Addr) (h:Heap),(K w.params).In h->h.Ns mainGlobals mg->mg d.name=some (.ref fa)->
   ∃ fd:FuncData,(∀ (s:Shared) (u:Value),BindsTo s fd ⟨[u],[]⟩ [(x,u)])/\
    ∀ base:Heap,(K w.params).In base->base.Ns mainGlobals mg->FnOk l.prog w (K w.params) mg base CX0 k fa fd [x] (spV (K w.params) zs6)):
  PySem.W.WalkO q loose XP YP l.row.toRowW d [] (fun f vs=>PySem.call f vs):=by
 refine zkO hn hdf fun w s₀ s₁ mg mb fa o pm cd doc a vs ns G Y ho hd hcd hmg hobj hints hlen hbits hg=>?_;have KX:=hY w _ Y;obtain ⟨fd,hb,hF⟩:=F w mg fa _ KX G.T.g hmg;refine zmx KX G.T.g G.T.b G.T.builtins G.T.nolimit hg hobj hints (Nat.le_trans hlen (by decide)) hr hF hb (fun H hO hS=>?_) fun H e s' z=>z;refine ⟨[.lst (ns.map .int)],fun md d=>d= .bl true,?_,⟨ns,rfl,hlen,hbits,rfl⟩,fun md d hd v H' F' os g r nd new=>?_⟩
 ·refine Reps.one ?_;unfold Rep;exact ⟨a,_,rfl,hS,zkP ns⟩
 ·subst hd;have:=r.read g.sub;unfold Rep at this;exact this
theorem ifT {c:Prop}{i:Decidable c}{A B:Prop}(hc:c)(h:A): @ite Prop c i A B:=by rw [if_pos hc];exact h
theorem ifF {c:Prop}{i:Decidable c}{A B:Prop}(hc:¬ c)(h:B): @ite Prop c i A B:=by rw [if_neg hc];exact h
theorem if2 {c:Prop}{i:Decidable c}{A B:Prop}(h1:c->A)(h2:¬ c->B): @ite Prop c i A B:=by
 by_cases hc:c
 ·rw [if_pos hc];exact h1 hc
 ·rw [if_neg hc];exact h2 hc
theorem zjB {α β:Type}(f:α->β)(xs:List α)(x:α):xs.map f++[f x]=(xs++[x]).map f:=by simp
theorem bts_le {m:Nat}{x:Int}:bts x<=m↔x.natAbs<2 ^ m:=intBits_le_iff
theorem zjC {m n:Nat}{x:Int}(hx:bts x<=m)(h:m<=n):bts x<=n:=Nat.le_trans hx h
theorem zqH {m:Nat}{x:Int}(h1: -(2 ^ m:Int)<x)(h2:x<(2 ^ m:Int)):bts x<=m:=by
 rw [bts_le];have e:((2 ^ m:Nat):Int)=(2 ^ m:Int):=by rw [Int.natCast_pow];rfl
 omega
theorem zcp {x y:Int}(h:bts y<=64):IntMulOk x y:=IntMulOk.of_right h
theorem zjD {x y:Int}(h:bts x<=64):IntMulOk x y:=IntMulOk.of_left h
theorem zgV {i j:Int}(h:0<j)(h2:bts j<=9000):zfg i j:=by
 refine ⟨h,?_⟩;have:=bts_le.mp h2;exact (Nat.log2_lt (by omega)).mpr this
theorem zrz {α:Type}{xs:List α}{i:Int}{d:α}(h0:0<=i)(h:xs[i.toNat]? =some d):atI xs i=some d:=by
 have:=L2.zaW h;rwa [Int.toNat_of_nonneg h0] at this
theorem zrA {α:Type}{xs:List α}{n:Nat}{d:α}(hn:0<n)(hl:n<=xs.length)(h:xs[xs.length - n]? =some d):atI xs (-(n:Int))=some d:=by
 unfold atI ixN;rw [if_neg (by omega),if_pos (by omega)];have e:(-(n:Int)+(xs.length:Int)).toNat=xs.length - n:=by omega
 rw [e];simpa using h
theorem zrB {n:Nat}{i:Int}(h0:0<=i)(h1:i<n):ixN n i=some i.toNat:=by
 unfold ixN;rw [if_pos h0,if_pos h1]
theorem ixN_nat {n k:Nat}(h1:k<n):ixN n (k:Int)=some k:=by rw [zrB (by omega) (by omega)];simp
theorem zbw {β:Type}{g:VG}{tb:VS}{E:VEnds}(j:β->D)(bs:List β)(I:List β->LSt->Prop)(step:∀ pre b post st kk,bs=pre++b::post->I pre st->(∀ st,I (pre++[b]) st->kk st)->g (j b) st fun st1=>tb {E with nx:=kk,ct:=kk,bk:=E.nx} st1)
  (done:∀ st,I bs st->E.nx st){st:LSt}(h0:I [] st):zfh g tb E (bs.map j) st:=by
 have key:∀ (post pre:List β) (st:LSt),bs=pre++post->I pre st->zfh g tb E (post.map j) st:=by
  intro post
  induction post with
  |nil=>
   intro pre st e h;rw [List.append_nil] at e;subst e;exact done st h
  |cons b post ih=>
   intro pre st e h;exact step pre b post st _ e h fun st' h'=>ih (pre++[b]) st' (by rw [e];simp) h'
 exact key bs [] st rfl h0
theorem zb8 {g:VG}{tb:VS}{E:VEnds}(n:Nat)(I:Nat->LSt->Prop)(step:∀ k st kk,k<n->I k st->(∀ st,I (k+1) st->kk st)->g (.int (k:Int)) st fun st1=>tb {E with nx:=kk,ct:=kk,bk:=E.nx} st1)
  (done:∀ st,I n st->E.nx st){st:LSt}(h0:I 0 st):zfh g tb E ((List.range n).map fun k=>.int ((k:Nat):Int)) st:=by
 refine zbw (fun k:Nat=>.int (k:Int)) (List.range n) (fun pre st=>pre=List.range pre.length/\pre.length<=n/\I pre.length st) ?_ ?_ ⟨rfl,Nat.zero_le _,h0⟩
 ·rintro pre b post st kk e ⟨ep,hl,h⟩ hk;have hb:(List.range n)[pre.length]? =some b:=by rw [e];simp
  have hlt:pre.length<n:=by
   have:=(List.getElem?_eq_some_iff.mp hb).1;simpa using this
  rw [List.getElem?_range hlt] at hb;have hb:=Option.some.inj hb;subst hb;refine step pre.length st kk hlt h fun st' h'=>hk st' ⟨?_,by rw [List.length_append];exact hlt,by rw [List.length_append];exact h'⟩;rw [List.length_append,List.length_singleton,List.range_succ,<-ep]
 ·rintro st ⟨_,_,h⟩;rw [List.length_range] at h;exact done st h
theorem ze8 {β:Type}{c:VT}{e:VE}{st:LSt}(j:β->D)(p:β->Bool)(f:β->D):∀ (bs:List β) (acc:List D) (Q:List D->Prop),
  (∀ b∈bs,∀ Q:Bool->Prop,Q (p b)->c (some (.sh,j b)::st) Q)->(∀ b∈bs,p b=true->∀ Q:D->Prop,Q (f b)->e (some (.sh,j b)::st) Q)->Q (acc++(bs.filter p).map f)->zlG c e st (bs.map j) acc Q
 | [],acc,Q,_,_,h=>by rw [List.map_nil];unfold zlG;simpa using h
 |d::ds,acc,Q,hc,he,h=>by
  rw [List.map_cons];unfold zlG;refine hc d List.mem_cons_self _ ?_;have rc:∀ x∈ds,∀ Q:Bool->Prop,Q (p x)->c (some (.sh,j x)::st) Q:=fun x hx=>hc x (List.mem_cons_of_mem _ hx);have re:∀ x∈ds,p x=true->∀ Q:D->Prop,Q (f x)->e (some (.sh,j x)::st) Q:=fun x hx=>he x (List.mem_cons_of_mem _ hx);by_cases hp:p d=true
  ·rw [if_pos hp];refine he d List.mem_cons_self hp _ (ze8 j p f ds _ Q rc re ?_);rw [List.filter_cons_of_pos hp,List.map_cons] at h;simpa using h
  ·rw [if_neg hp];refine ze8 j p f ds acc Q rc re ?_;rwa [List.filter_cons_of_neg hp] at h
theorem za0 {β:Type}{e:VE}{st:LSt}(j:β->D)(f:β->D)(bs:List β)(Q:List D->Prop)(he:∀ b∈bs,∀ Q:D->Prop,Q (f b)->e (some (.sh,j b)::st) Q)(h:Q (bs.map f)):zlG zb5 e st (bs.map j) [] Q:=
 ze8 j (fun _=>true) f bs [] Q (fun _ _ _ h=>h) (fun b hb _=>he b hb) (by rw [List.filter_eq_self.mpr (fun _ _=>rfl)];simpa using h)
theorem zjE {β:Type}[DecidableEq β](j:β->D)(hj:∀ a b,deq (j a) (j b)=decide (a=b)):∀ xs ys:List β,deqs (xs.map j) (ys.map j)=decide (xs=ys)
 | [],[]=>by simp [deqs]
 | [],_::_=>by simp [deqs]
 |_::_,[]=>by simp [deqs]
 |x::xs,y::ys=>by
  rw [List.map_cons,List.map_cons,deqs,hj,zjE j hj xs ys,Bool.eq_iff_iff];simp
theorem zea (a b:Int):deq (.int a) (.int b)=decide (a=b):=by unfold deq;rfl
theorem zkQ (a b:Bool):deq (.bl a) (.bl b)=decide (a=b):=by unfold deq;cases a<;>cases b<;>rfl
theorem zdX {β:Type}{j:β->D}(hj:∀ a,(j a).flat=true):∀ xs:List β,flats (xs.map j)=true
 | []=>by simp [flats]
 |x::xs=>by rw [List.map_cons,flats,hj,zdX hj xs];rfl
theorem zgW (xs:List Int):flats (xs.map .int)=true:=zdX (fun _=>by simp [D.flat]) xs
theorem zf2 {β:Type}{j:β->D}{n:Nat}(hj:∀ a,(j a).dep<=n):∀ xs:List β,deps (xs.map j)<=n
 | []=>by simp [deps]
 |x::xs=>by rw [List.map_cons,deps];have:=hj x;have:=zf2 hj xs;omega
theorem deps_ints (xs:List Int):deps (xs.map .int)<=0:=zf2 (fun _=>by simp [D.dep]) xs
theorem zs7 (xs:List D)(n:Nat):zqA xs none (some (n:Int))=xs.take n:=by
 unfold zqA;rw [HT.sIx_none,HT.sIx_nat,List.drop_zero,Nat.sub_zero];by_cases h:n<=xs.length
 ·rw [Nat.min_eq_left h]
 ·rw [Nat.min_eq_right (by omega),List.take_of_length_le (Nat.le_refl _),List.take_of_length_le (by omega)]
theorem zmN (xs:List D)(m:Nat):zqA xs (some (m:Int)) none=xs.drop m:=by
 unfold zqA;rw [HT.sIx_nat,HT.sIx_none];by_cases h:m<=xs.length
 ·rw [Nat.min_eq_left h,List.take_of_length_le (by simp)]
 ·rw [Nat.min_eq_right (by omega),List.drop_length,List.take_nil,List.drop_of_length_le (by omega)]
open PySem PySem.Spec PyProof.Rows L2 PySem.SeqAt
section
variable {X:Cx}{a b c e o:Expr}{es:List Expr}{ta tb tc t:VE}{pos p apos cpos:Pos}{k:Nat}
noncomputable def zjF (t:VE):VE:=fun st Q=>t st fun d=>match d with
 | .int i=>Q (.int (bts i))
 |_=>False
theorem zog (ho:SB X o t)(hbase:attributeBase o "bit_length" X.env (eval o X.env)=eval o X.env:=by rfl)(hline:(apos.endLine==cpos.line)=true:=by rfl):SB X (.Call (.Attribute o "bit_length" apos) [] [] cpos) (zjF t):=by
 intro pins s σ H Q I ⟨F,st,Qd,ok,h,k⟩;have key:=ho pins s σ H (fun x H1=>∃ i,x= .int i/\Q (.int (bts i)) H1) I ⟨F,st,_,ok,h,fun d hd v H1 s1 r1=>by
  cases d with
  |int i=>
   unfold Rep at r1;exact ⟨i,r1,k _ hd _ H1 s1 (by unfold Rep;rfl)⟩
  |_=>exact hd.elim⟩
 refine wpAny_Call_method0_late hbase hline (thn key fun v s1 zz=>?_);obtain ⟨x,H1,I1,r1,i,e,q1⟩:=zz;subst e;obtain ⟨t,rfl⟩:=r1;exact ⟨"int","int.bit_length",PySem.F.plainAttrs_int,PySem.F.slot_int_bit_length,PySem.F.type_int_bit_length,typeIs_int _ _ _,(fun _ e=>nomatch e),Calls.callWith_builtin rfl (PySem.evalArgs_none (call_int_bit_length ⟨.int _,H1,I1.tok _,⟨_,rfl⟩,q1⟩))⟩
noncomputable def zkR (f g:V2)(ta tb tc:VE):VE:=fun st Q=>ta st fun d=>tb st fun e=>f d e fun z=>match z with
 | .bl k=>if k=true then tc st fun u=>g e u Q else Q (.bl false)
 |_=>False
theorem zpH {f g:V2}{r r':R2}(hf:Lf X.K f r)(hg:Lf X.K g r'){σ:St}{H:Hp}{Q:VK}(h:lB X.K (zkR f g ta tb tc) σ H Q):zqx r r' (lB X.K ta) (lB X.K tb) (lB X.K tc) σ H Q:=by
 obtain ⟨F,st,Qd,ok,h,k⟩:=h;refine ⟨F,st,_,ok,h,fun d hd v H1 s1 r1=>⟨F,st,_,ok.same s1,hd,fun e he u H2 s2 r2=>?_⟩⟩;refine hf H2 v u d e _ _ (Rep.mono s2 (Tp.of s2) d v r1) r2 he fun z hz w H3 s3 r3=>?_;cases z with
 |bl b=>
  unfold Rep at r3;refine ⟨b,r3,?_⟩;have hz:if b=true then tc st fun u=>g e u Qd else Qd (.bl false):=hz
  cases b with
  |true=>
   rw [if_pos rfl] at hz ⊢;have s12:=s1.trans (s2.trans s3);refine ⟨F,st,_,ok.same s12,hz,fun u' hu' y H4 s4 r4=>?_⟩;have s34:=s3.trans s4;exact hg H4 u y e u' Qd Q (Rep.mono s34 (Tp.of s34) e u r2) r4 hu' fun z hz w H5 s5 r5=>k z hz w H5 (s12.trans (s4.trans s5)) r5
  |false=>
   rw [if_neg Bool.false_ne_true] at hz ⊢;exact k _ hz _ H3 (s1.trans (s2.trans s3)) (by unfold Rep;rfl)
 |_=>exact hz.elim
theorem zmO {op op':CmpOp}{f g:V2}{r r':R2}(ho:OpR X (compareOp op) r)(ho':OpR X (compareOp op') r')(hf:Lf X.K f r)(hg:Lf X.K g r')(ha:SB X a ta)(hb:SB X b tb)(hc:SB X c tc)
  (hm:lastMarks [op,op'] [b,c]=false:=by with_unfolding_all rfl):SB X (.Compare a [op,op'] [b,c] pos) (zkR f g ta tb tc):=PE.wk (zpn ho ho' ha hb hc hm) fun _ _ _ h=>zpH hf hg h
theorem zmP {K:PySem.W.Frag}{F H:Hp}:∀ {bs:List Bool} {vs:List V} {us:List Value},Reps K F H (bs.map D.bl) vs->Vals vs us->LSm.BoolsAre us bs
 | [],vs,us,r,rv=>by
  unfold Reps at r;subst r;cases rv;exact .nil
 |b::bs,vs,us,r,rv=>by
  rw [List.map_cons] at r;unfold Reps at r;obtain ⟨v,r',rfl,r1,r2⟩:=r;unfold Rep at r1;subst r1;cases rv with
  |cons h t=>
   cases h;exact .cons b (zmP r2 t)
theorem zoh (hc:X.calm=true):CallR X (.builtin "all") (fun xs H Q=>∃ a vs,∃ bs:List Bool,xs=[.ref a]/\SqL X.K H a vs/\Reps X.K H H (bs.map D.bl) vs/\Q (.bl (bs.all id)) H):=by
 intro pins s σ H xs us Q I rv ⟨a,vs,bs,e,sq,rr,q⟩;subst e;obtain ⟨u,rfl,r1⟩:=Vals.one rv;cases r1;obtain ⟨its,rv1,pl,_⟩:=I.list sq;have hl:=zaC pl;have hb:=zmP rr rv1;have hlt:a<s.heap.objs.size:=by obtain ⟨_,e,_⟩:=hl;exact Heap.lt_size e
 refine call_all_walk (wpAny_pyIter_list hl ?_)
 refine ⟨s.heap.objs.size,[s.heap.objs.size,a],[s.heap.objs.size],its.toArray.size,_,_,fun i=>(bs[i]?).getD true,rfl,Walks.list (A:=X.A.in1) (I.ok.hd hc) _ a (Nat.ne_of_lt hlt) its.toArray,
  ⟨⟨_,Heap.get?_push_size _ rfl,rfl,rfl⟩,hl.push _⟩,fun i v s' Q' E' hP hQ=>?_,fun h' tk hk=>?_⟩
 ·obtain ⟨b,e,rfl⟩:=LSm.BoolsAre.get hb i v (by simpa using hP);simp only [e,Option.getD_some] at hQ;exact wpAny_truthy_bool hQ
 ·have e:((List.range its.toArray.size).all fun i=>(bs[i]?).getD true)=bs.all id:=by
   rw [List.size_toArray,LSm.BoolsAre.length hb];exact LSm.range_all bs
  rw [e];exact zi9 (I.kept (LSm.kept_iter hk)) q rfl
noncomputable def zrC:VB':=fun ds Q=>∃ bs:List Bool,ds=[.lst (bs.map .bl)]/\Q (.bl (bs.all id))
theorem zs8 {K:PySem.W.Frag}:LfA K zrC (fun xs H Q=>∃ a vs,∃ bs:List Bool,xs=[.ref a]/\SqL K H a vs/\Reps K H H (bs.map D.bl) vs/\Q (.bl (bs.all id)) H):=fun H vs ds Qd Q r h k=>by
 obtain ⟨bs,rfl,q⟩:=h;obtain ⟨v,rfl,r1⟩:=zhv r;unfold Rep at r1;obtain ⟨a,ws,rfl,sq,rr⟩:=r1;exact ⟨a,ws,bs,rfl,sq,rr,k _ q _ H (Same.refl H) (by unfold Rep;rfl)⟩
variable {tt:VAs}
theorem zkS (hc:X.calm=true)(hm:X.mg "all"=none)(ha:SA X [a] tt)(hg:Gl X "all":=by rfl)(he:starEach [a] X.env=(false,eval a X.env)::starEach [] X.env:=by rfl)(hpl:(backTo pos (starEach [] X.env)).any (·.1)=false:=by rfl):
  SB X (.Call (.Name "all" p) [a] [] pos) (vCB zrC tt):=zhN (zoh hc) zs8 hg hm (by rfl) ha (by decide) (by decide) he hpl
end
noncomputable def bm:Nat->(Nat->Bool)->Nat
 |0,_=>0
 |n+1,f=>bm n f+if f n then 2 ^ n else 0
theorem zkT:∀ n f,bm n f<2 ^ n
 |0,_=>by simp [bm]
 |n+1,f=>by
  have:=zkT n f;rw [bm,Nat.pow_succ];split<;>omega
theorem bm_bit:∀ n f p,(bm n f).testBit p=(decide (p<n)&&f p)
 |0,_,p=>by simp [bm]
 |n+1,f,p=>by
  have h:=zkT n f;rw [bm];by_cases hf:f n=true
  ·rw [if_pos hf,Nat.add_comm];by_cases hp:p=n
   ·subst hp;rw [Nat.testBit_two_pow_add_eq,Nat.testBit_lt_two_pow h];simp [hf]
   ·by_cases hl:p<n
    ·rw [Nat.testBit_two_pow_add_gt (by omega),bm_bit n f p];simp [hl,Nat.lt_succ_of_lt hl]
    ·rw [Nat.testBit_lt_two_pow (Nat.lt_of_lt_of_le (by omega:2 ^ n+bm n f<2 ^ (n+1)) (Nat.pow_le_pow_right (by decide) (by omega)))];simp [show ¬ p<n+1 by omega]
  ·rw [if_neg hf,Nat.add_zero,bm_bit n f p];by_cases hp:p=n
   ·subst hp;simp [hf]
   ·by_cases hl:p<n
    ·simp [hl,Nat.lt_succ_of_lt hl]
    ·simp [hl,show ¬ p<n+1 by omega]
theorem zs9 {n m:Nat}{f g:Nat->Bool}(h:∀ p,(decide (p<n)&&f p)=(decide (p<m)&&g p)):bm n f=bm m g:=by
 apply Nat.eq_of_testBit_eq;intro p;rw [bm_bit,bm_bit,h]
theorem zjG {n:Nat}{f g:Nat->Bool}(h:∀ p,p<n->f p=g p):bm n f=bm n g:=zs9 fun p=>by
 by_cases hp:p<n
 ·simp [hp,h p hp]
 ·simp [hp]
theorem zta (a b:Nat):Builtin.bitAnd (a:Int) (b:Int)=((a &&& b:Nat):Int):=by
 unfold Builtin.bitAnd;rw [decide_eq_true (Int.natCast_nonneg a),decide_eq_true (Int.natCast_nonneg b)];simp
theorem znh (a b:Nat):Builtin.bitOr (a:Int) (b:Int)=((a ||| b:Nat):Int):=by
 unfold Builtin.bitOr Builtin.bitAnd;have h1:¬ (0:Int)<=Builtin.bitNot (a:Int):=by unfold Builtin.bitNot;omega
 have h2:¬ (0:Int)<=Builtin.bitNot (b:Int):=by unfold Builtin.bitNot;omega
 rw [decide_eq_false h1,decide_eq_false h2];have e1:∀ x:Int,Builtin.bitNot (Builtin.bitNot x)=x:=fun x=>by unfold Builtin.bitNot;omega
 simp only [e1];simp
theorem zpI (a b:Nat):Builtin.bitAnd (a:Int) (Builtin.bitNot (b:Int))=((a - (a &&& b):Nat):Int):=by
 unfold Builtin.bitAnd;have h2:¬ (0:Int)<=Builtin.bitNot (b:Int):=by unfold Builtin.bitNot;omega
 rw [decide_eq_true (Int.natCast_nonneg a),decide_eq_false h2];have e1:∀ x:Int,Builtin.bitNot (Builtin.bitNot x)=x:=fun x=>by unfold Builtin.bitNot;omega
 simp only [e1];have:a &&& b<=a:=Nat.and_le_left;simp;omega
theorem zlR (a b p:Nat):(a - (a &&& b)).testBit p=(a.testBit p&& !b.testBit p):=by
 have h:a - (a &&& b)=a ^^^ (a &&& b):=by
  have key:∀ x y:Nat,x &&& y=y->x - y=x ^^^ y:=by
   intro x
   induction x using Nat.strongRecOn with
   |ind x ih=>
    intro y hxy;by_cases hx:x=0
    ·subst hx;have:y=0:=by rw [<-hxy];simp
     subst this;rfl
    ·have h1:x / 2 &&& y / 2=y / 2:=by
      have:=congrArg (· / 2) hxy;simpa [Nat.and_div_two] using this
     have h2:=ih (x / 2) (by omega) (y / 2) h1;have h3:(x ^^^ y) / 2=x / 2 ^^^ y / 2:=Nat.xor_div_two;have h4:(x ^^^ y) % 2=(x+y) % 2:=by
      have e1:=Nat.testBit_xor x y 0;rw [Nat.testBit_zero,Nat.testBit_zero,Nat.testBit_zero] at e1;generalize x ^^^ y=z at e1 ⊢;rcases Nat.mod_two_eq_zero_or_one x with a|a<;>rcases Nat.mod_two_eq_zero_or_one y with b|b<;>rw [a,b] at e1<;>simp at e1<;>omega
     have h5:y % 2<=x % 2:=by
      have:=congrArg (· % 2) hxy;simp only [Nat.and_mod_two_pow (n:=1)] at this;have h6:(x &&& y) % 2=y % 2:=congrArg (· % 2) hxy;by_cases hy:y % 2=1
      ·have hb:(x &&& y).testBit 0=true:=by rw [Nat.testBit_zero];simp [h6,hy]
       rw [Nat.testBit_and,Bool.and_eq_true,Nat.testBit_zero] at hb;have:=of_decide_eq_true hb.1;omega
      ·omega
     have h7:y<=x:=by rw [<-hxy];exact Nat.and_le_left
     omega
  refine key a (a &&& b) ?_;apply Nat.eq_of_testBit_eq;intro i;simp only [Nat.testBit_and];cases a.testBit i<;>cases b.testBit i<;>rfl
 rw [h];simp only [Nat.testBit_xor,Nat.testBit_and];cases a.testBit p<;>cases b.testBit p<;>rfl
noncomputable def zmQ (a b:Nat):Nat:=a - (a &&& b)
theorem less_bit (a b p:Nat):(zmQ a b).testBit p=(a.testBit p&& !b.testBit p):=zlR a b p
theorem zrD (a b:Nat):zmQ a b<=a:=Nat.sub_le _ _
theorem zrE (s p:Nat):decide ((s:Int) / 2 ^ p % 2=1)=s.testBit p:=by
 have e:((s:Int) / 2 ^ p % 2)=((s / 2 ^ p % 2:Nat):Int):=by simp
 rw [e,Nat.testBit_eq_decide_div_mod_eq];have:(((s / 2 ^ p % 2:Nat):Int)=1)↔(s / 2 ^ p % 2=1):=by omega
 exact decide_eq_decide.mpr this
noncomputable abbrev natD (s:Nat):D:=.int (s:Int)
noncomputable def zhQ (n:Nat)(f:Nat->Bool):D:=.lst ((List.range n).map fun b=>.bl (f b))
noncomputable def zhy (n:Nat)(M:Nat->Nat->Bool):List D:=(List.range n).map fun a=>zhQ n (M a)
noncomputable abbrev zcj (n:Nat)(M:Nat->Nat->Bool):D:=.lst (zhy n M)
noncomputable abbrev zaF (w:List Nat):D:=.lst (w.map natD)
noncomputable def webOf (n:Nat)(M:Nat->Nat->Bool):List Nat:=(List.range n).map fun a=>bm n (M a)
structure Good (M:Nat->Nat->Bool):Prop where
 sym:∀ a b,M a b=M b a
 irr:∀ a,M a a=false
noncomputable def ziN (M:Nat->Nat->Bool)(a b:Nat)(v:Bool):Nat->Nat->Bool:=fun a' b'=>if a'=a/\b'=b then v else M a' b'
theorem zh2 {α:Type}(f:Nat->α)(n i:Nat)(x:α):((List.range n).map f).set i x=(List.range n).map fun j=>if j=i then x else f j:=by
 apply List.ext_getElem?;intro j;rw [List.getElem?_set,List.getElem?_map,List.getElem?_map];by_cases h:i=j
 ·subst h;rw [if_pos rfl];by_cases hj:i<n
  ·rw [if_pos (by simpa using hj),List.getElem?_range hj];simp
  ·rw [if_neg (by simpa using hj),List.getElem?_eq_none (by simpa using hj)];rfl
 ·rw [if_neg h];by_cases hj:j<n
  ·rw [List.getElem?_range hj];simp [show ¬ j=i from fun z=>h z.symm]
  ·rw [List.getElem?_eq_none (by simpa using hj)];rfl
theorem zdt {α:Type}(f:Nat->α){n i:Nat}(h:i<n):((List.range n).map f)[i]? =some (f i):=by
 rw [List.getElem?_map,List.getElem?_range h];rfl
theorem zaM {α:Type}{f g:Nat->α}{n:Nat}(h:∀ i,i<n->f i=g i):(List.range n).map f=(List.range n).map g:=
 List.map_congr_left fun i hi=>h i (List.mem_range.mp hi)
theorem ze9 (n:Nat)(M:Nat->Nat->Bool):(zhy n M).length=n:=by unfold zhy;simp
theorem zh3 {n a:Nat}{M:Nat->Nat->Bool}(h:a<n):(zhy n M)[a]? =some (zhQ n (M a)):=zdt _ h
theorem zhR {n a b:Nat}{M:Nat->Nat->Bool}{v:Bool}:(zhy n M).set a (.lst (((List.range n).map fun b=>D.bl (M a b)).set b (.bl v)))=zhy n (ziN M a b v):=by
 unfold zhy;rw [zh2,zh2];refine zaM fun i hi=>?_;by_cases h:i=a
 ·subst h;rw [if_pos rfl];unfold zhQ ziN;congr 1;refine zaM fun j hj=>?_;by_cases h2:j=b
  ·simp [h2]
  ·simp [h2]
 ·rw [if_neg h];unfold zhQ ziN;congr 1;refine zaM fun j hj=>?_;simp [h]
theorem Good.upd {M:Nat->Nat->Bool}(g:Good M){a b:Nat}(h:a≠b)(v:Bool):Good (ziN (ziN M a b v) b a v) where
 sym:=fun x y=>by
  unfold ziN;by_cases h1:x=a<;>by_cases h2:y=b<;>by_cases h3:x=b<;>by_cases h4:y=a<;>simp [h1,h2,h3,h4,g.sym x y]<;>simp_all [g.sym]
 irr:=fun x=>by
  unfold ziN;by_cases h1:x=a
  ·have:¬ x=b:=fun z=>h (by rw [<-h1,z]);simp [this,g.irr]
  ·simp [h1,g.irr]
theorem Good.row {M:Nat->Nat->Bool}(n:Nat)(a:Nat):zhQ n (M a)= .lst ((List.range n).map fun b=>.bl (M a b)):=rfl
theorem zf3 (n:Nat)(f:Nat->Bool):flats ((List.range n).map fun b=>D.bl (f b))=true:=by
 have:=zdX (j:=fun b=>D.bl (f b)) (fun _=>by simp [D.flat]) (List.range n);exact this
theorem zbj (w:List Nat):flats (w.map natD)=true:=zdX (fun _=>by simp [D.flat]) w
theorem zh4 (w:List Nat):deps (w.map natD)<=0:=zf2 (fun _=>by simp [D.dep]) w
theorem zlS (a b:Nat):deq (natD a) (natD b)=decide (a=b):=by
 rw [zea];exact decide_eq_decide.mpr (by omega)
theorem zoi (v w:List Nat):deq (zaF v) (zaF w)=decide (v=w):=by rw [zgS,zjE _ zlS]
theorem zu7 (s p:Nat):(decide ((0:Int)<=(p:Int))&&decide ((s:Int) / 2 ^ (p:Int).toNat % 2=1))=s.testBit p:=by
 rw [decide_eq_true (Int.natCast_nonneg p),Bool.true_and,Int.toNat_natCast,zrE]
noncomputable def zlT (s:Nat):List Nat:=(List.range (bts s)).filter s.testBit
theorem lt_bts (s:Nat):s<2 ^ bts (s:Int):=by
 have:=(bts_le (m:=bts (s:Int)) (x:=(s:Int))).mp (Nat.le_refl _);simpa using this
theorem zoj {s p:Nat}(h:s.testBit p=true):p<bts (s:Int):=by
 apply Nat.lt_of_not_le;intro hl;rw [Nat.testBit_lt_two_pow (Nat.lt_of_lt_of_le (lt_bts s) (Nat.pow_le_pow_right (by decide) hl))] at h;cases h
theorem mem_pts {s p:Nat}:p∈zlT s↔s.testBit p=true:=by
 unfold zlT;rw [List.mem_filter,List.mem_range];exact ⟨fun h=>h.2,fun h=>⟨zoj h,h⟩⟩
theorem zok {s n:Nat}(h:s<2 ^ n):zlT s=(List.range n).filter s.testBit:=by
 have hb:bts (s:Int)<=n:=by rw [bts_le];simpa using h
 unfold zlT;obtain ⟨k,rfl⟩:=Nat.exists_eq_add_of_le hb;rw [List.range_add,List.filter_append];have:List.filter s.testBit (List.map (fun x=>bts ↑s+x) (List.range k))=[]:=by
  rw [List.filter_eq_nil_iff];intro p hp hs;obtain ⟨x,_,rfl⟩:=List.mem_map.mp hp;have:=zoj hs;omega
 rw [this,List.append_nil]
theorem zkU (n:Nat)(f:Nat->Bool):zlT (bm n f)=(List.range n).filter f:=by
 rw [zok (zkT n f)];refine List.filter_congr fun p hp=>?_;rw [bm_bit];simp [List.mem_range.mp hp]
section
variable {K:PySem.W.Frag}{F H:Hp}
theorem RepDs.parts:∀ {xs:List D} {vs:List V} {o:List Addr},RepDs K F H xs vs o->∃ oss:List (List Addr),oss.length=xs.length/\o=oss.flatten/\∀ k,k<xs.length->RepD K F H (xs.getD k .non) (vs.getD k .non) (oss.getD k [])
 | [],vs,o,h=>by
  unfold RepDs at h;exact ⟨[],rfl,h.2,fun k hk=>absurd hk (by simp)⟩
 |x::xs,vs,o,h=>by
  unfold RepDs at h;obtain ⟨v,r,o1,o2,rfl,rfl,h1,h2⟩:=h;obtain ⟨oss,hl,rfl,hk⟩:=RepDs.parts h2;refine ⟨o1::oss,by simp [hl],by simp,fun k hk'=>?_⟩;cases k with
  |zero=>simpa using h1
  |succ k=>simpa using hk k (by simpa using hk')
theorem RepDs.build:∀ {xs:List D} {vs:List V} {oss:List (List Addr)},vs.length=xs.length->oss.length=xs.length->(∀ k,k<xs.length->RepD K F H (xs.getD k .non) (vs.getD k .non) (oss.getD k []))->RepDs K F H xs vs oss.flatten
 | [],vs,oss,h1,h2,_=>by
  unfold RepDs;exact ⟨List.length_eq_zero_iff.mp h1,by rw [List.length_eq_zero_iff.mp h2];rfl⟩
 |x::xs,[],oss,h1,_,_=>by simp at h1
 |x::xs,v::vs,[],_,h2,_=>by simp at h2
 |x::xs,v::vs,o::oss,h1,h2,hk=>by
  unfold RepDs;refine ⟨v,vs,o,oss.flatten,rfl,by simp,by simpa using hk 0 (by simp),RepDs.build (by simpa using h1) (by simpa using h2) fun k hk'=>?_⟩;simpa using hk (k+1) (by simpa using hk')
noncomputable def pick {α:Type}(d:α)(xs:List α)(p:List Nat):List α:=p.map fun k=>xs.getD k d
theorem zf4 {α:Type}(d:α)(xs:List α)(p:List Nat):(pick d xs p).length=p.length:=by unfold pick;simp
theorem zjH {α:Type}(d:α)(xs:List α){p:List Nat}{k:Nat}(h:k<p.length):(pick d xs p).getD k d=xs.getD (p.getD k 0) d:=by
 unfold pick;rw [List.getD_eq_getElem?_getD,List.getElem?_map,List.getElem?_eq_getElem h];simp [List.getD_eq_getElem?_getD,List.getElem?_eq_getElem h]
theorem RepDs.pick {xs:List D}{vs:List V}{o:List Addr}(h:RepDs K F H xs vs o)(nd:o.Nodup){p:List Nat}(hp:p.Nodup)(hb:∀ k∈p,k<xs.length):
  ∃ o',RepDs K F H (VL.pick .non xs p) (VL.pick .non vs p) o'/\o'.Nodup/\∀ a∈o',a∈o:=by
 obtain ⟨oss,hl,rfl,hk⟩:=h.parts;refine ⟨(VL.pick [] oss p).flatten,RepDs.build (by rw [zf4,zf4]) (by rw [zf4,zf4]) fun k hk'=>?_,?_,fun a ha=>?_⟩
 ·rw [zf4] at hk';rw [zjH _ _ hk',zjH _ _ hk',zjH _ _ hk'];refine hk _ (hb _ ?_);rw [List.getD_eq_getElem?_getD,List.getElem?_eq_getElem hk'];exact List.getElem_mem hk'
 ·have nd':=List.pairwise_flatten.mp nd;refine List.pairwise_flatten.mpr ⟨fun l hl'=>?_,?_⟩
  ·obtain ⟨k,hkp,rfl⟩:=List.mem_map.mp hl';have hk1:k<oss.length:=by rw [hl];exact hb k hkp
   rw [List.getD_eq_getElem?_getD,List.getElem?_eq_getElem hk1];exact nd'.1 _ (List.getElem_mem hk1)
  ·show List.Pairwise _ (p.map _)
   rw [List.pairwise_map];refine List.Pairwise.imp_of_mem ?_ hp;intro i j hi hj hij x hx y hy;have hi1:i<oss.length:=by rw [hl];exact hb i hi
   have hj1:j<oss.length:=by rw [hl];exact hb j hj
   rw [List.getD_eq_getElem?_getD,List.getElem?_eq_getElem hi1] at hx;rw [List.getD_eq_getElem?_getD,List.getElem?_eq_getElem hj1] at hy;rcases Nat.lt_or_gt_of_ne hij with z|z
   ·exact (List.pairwise_iff_getElem.mp nd'.2) i j hi1 hj1 z x hx y hy
   ·exact fun e=>(List.pairwise_iff_getElem.mp nd'.2) j i hj1 hi1 z y hy x hx e.symm
 ·obtain ⟨l,hl',ha⟩:=List.mem_flatten.mp ha;obtain ⟨k,hkp,rfl⟩:=List.mem_map.mp hl';have hk1:k<oss.length:=by rw [hl];exact hb k hkp
  rw [List.getD_eq_getElem?_getD,List.getElem?_eq_getElem hk1] at ha;exact List.mem_flatten.mpr ⟨_,List.getElem_mem hk1,ha⟩
theorem Reps.pick {xs:List D}{vs:List V}(h:Reps K F H xs vs){p:List Nat}(hb:∀ k∈p,k<xs.length):Reps K F H (VL.pick .non xs p) (VL.pick .non vs p):=by
 have hl:=h.len
 induction p with
 |nil=>unfold VL.pick;rw [List.map_nil,List.map_nil];unfold Reps;rfl
 |cons k p ih=>
  unfold VL.pick;rw [List.map_cons,List.map_cons];unfold Reps;have hk:k<xs.length:=hb k List.mem_cons_self;obtain ⟨v,hv,rv⟩:=h.at' (List.getElem?_eq_getElem hk);refine ⟨vs.getD k .non,_,rfl,?_,ih fun j hj=>hb j (List.mem_cons_of_mem _ hj)⟩;rw [List.getD_eq_getElem?_getD,List.getElem?_eq_getElem hk,List.getD_eq_getElem?_getD,hv];exact rv
theorem RepDs.stayU {a:Addr}{us:List V}{o':HO}{xs:List D}{vs:List V}{o:List Addr}(q:H a=some (.lst us))(h:RepDs K F H xs vs o)(na:a∉o):RepDs K F (upd H a o') xs vs o:=
 RepDs.stay (Tp.upd q) xs vs o h fun b hb=>⟨upd_ne (fun z=>na (z▸hb)),(RepDs.there xs vs o h b hb).1⟩
theorem zh5 {st:LSt}{σ:St}{i:Nat}{mi:Md}{xs:List D}{p:List Nat}(ok:Ok K F H st σ)(hi:st[i]? =some (some (mi,.lst xs)))(hm:mi≠ .sh)(hoa:∀ a,mi≠ .oa a)(hp:p.Nodup)(hb:∀ k∈p,k<xs.length):
  ∃ a vs,σ[i]? =some (some (.ref a))/\H a=some (.lst vs)/\Reps K H H xs vs/\Ok K F (upd H a (.lst (pick .non vs p))) (st.set i (some (mi,.lst (pick .non xs p)))) σ:=by
 obtain ⟨O,o⟩:=ok;obtain ⟨w,hw,rw'⟩:=o.repL i mi xs hi;cases mi with
 |sh=>exact absurd rfl hm
 |dw t k=>exact rw'.elim
 |ds t k=>exact rw'.elim
 |oa a=>exact absurd rfl (hoa a)
 |ow=>
  have rw':RepD K F H (.lst xs) w (O i):=rw';have rd:=RepD.read _ _ _ rw';unfold RepD at rw';obtain ⟨a,vs,oi,rfl,eO,q,f,rr⟩:=rw';have haO:a∈O i:=by rw [eO];exact List.mem_cons_self
  have ndO:=o.nd i;rw [eO,List.nodup_cons] at ndO;obtain ⟨o',r',nd',sub⟩:=RepDs.pick rr ndO.2 hp hb;refine ⟨a,vs,hw,q,RepDs.read xs vs oi rr,o.rewrite (os:=a::o') hi hw haO (Same.refl F) (fun b u e=>?_) (fun j b hb=>(o.there hb).1) ?_ ?_ fun j hj b hb hc=>?_⟩
  ·rw [upd_ne (fun z=>by rw [z,f] at e;cases e)];exact o.sub b u e
  ·show RepD K F _ (.lst _) (.ref a) (a::o');unfold RepD;exact ⟨a,_,o',rfl,rfl,zaH,f,RepDs.stayU q r' fun z=>ndO.1 (sub _ z)⟩
  ·exact List.nodup_cons.mpr ⟨fun z=>ndO.1 (sub _ z),nd'⟩
  ·refine hj (o.dj j i b hc ?_);rw [eO];rcases List.mem_cons.mp hb with z|z
   ·rw [z];exact List.mem_cons_self
   ·exact List.mem_cons_of_mem _ (sub _ z)
 |o1=>
  obtain ⟨xs',a,vs,e1,rfl,eO,q,f,rr⟩:=rw';cases e1;have haO:a∈O i:=by rw [eO];exact List.mem_cons_self
  refine ⟨a,vs,hw,q,Reps.mono o.sub (Tp.of (Same.refl H)) _ _ rr,o.rewrite (os:=[a]) hi hw haO (Same.refl F) (fun b u e=>?_) (fun j b hb=>(o.there hb).1) ?_ (by simp) fun j hj b hb hc=>?_⟩
  ·rw [upd_ne (fun z=>by rw [z,f] at e;cases e)];exact o.sub b u e
  ·exact ⟨_,a,_,rfl,rfl,rfl,zaH,f,Reps.mono (Same.refl F) (Tp.upd q) _ _ (rr.pick hb)⟩
  ·refine hj (o.dj j i b hc ?_);rw [eO];exact hb
theorem zmR {st:LSt}{σ:St}{i:Nat}{mi:Md}{xs:List D}{p:List Nat}(ok:Ok K F H st σ)(hi:st[i]? =some (some (mi,.lst xs)))(hm:mi≠ .sh)(hp:p.Nodup)(hb:∀ k∈p,k<xs.length):
  ∃ a vs,σ[i]? =some (some (.ref a))/\H a=some (.lst vs)/\Reps K H H xs vs/\Ok K F (upd H a (.lst (pick .non vs p))) (st.set i (some (mi,.lst (pick .non xs p)))) σ:=by
 cases mi with
 |sh=>exact absurd rfl hm
 |dw t k=>obtain ⟨O,o⟩:=ok;obtain ⟨_,_,r⟩:=o.repL i _ _ hi;exact r.elim
 |ds t k=>obtain ⟨O,o⟩:=ok;obtain ⟨_,_,r⟩:=o.repL i _ _ hi;exact r.elim
 |o1=>exact zh5 ok hi hm (fun a z=>by cases z) hp hb
 |ow=>exact zh5 ok hi hm (fun a z=>by cases z) hp hb
 |oa a0=>
  have hl:=(List.getElem?_eq_some_iff.mp hi).1;obtain ⟨ok0,hv⟩:=ok.weak hi;obtain ⟨a,vs,ha,q,rr,ok1⟩:=zh5 ok0 (List.getElem?_set_self hl) (fun z=>by cases z) (fun a z=>by cases z) hp hb;refine ⟨a,vs,ha,q,rr,?_⟩;rw [List.set_set] at ok1;have:=ok1.strong (List.getElem?_set_self hl) hv;rwa [List.set_set] at this
end
section
variable {X:Cx}{x ya yb:Str}{p1 p2 p3 p4 p5 p6 p7 p8 q1 q2 q3 q4 r1 r2 pos:Pos}{k1 k2:Nat}
end
noncomputable def zuq (n:Nat)(lo hi st:Option Int):List Nat:=sliceRange (sliceBounds lo hi st n).1 (sliceBounds lo hi st n).2.1 (sliceBounds lo hi st n).2.2
noncomputable def cutG {α:Type}(xs:List α)(lo hi st:Option Int):List α:=(zuq xs.length lo hi st).filterMap (xs[·]?)
theorem zlU:∀ {xs:List V} {us:List Value} (p:List Nat),Vals xs us->Vals (p.filterMap (xs[·]?)) (p.filterMap (us[·]?))
 |xs,us,[],h=>.nil
 |xs,us,k::p,h=>by
  have hl:=h.length;by_cases hk:k<xs.length
  ·rw [List.filterMap_cons,List.filterMap_cons,List.getElem?_eq_getElem hk,List.getElem?_eq_getElem (by omega)];obtain ⟨x,ex,rx⟩:=zdl (j:=k) h (List.getElem?_eq_getElem (by omega));rw [List.getElem?_eq_getElem hk] at ex;have ex:=Option.some.inj ex;subst ex;exact .cons rx (zlU p h)
  ·rw [List.filterMap_cons,List.filterMap_cons,List.getElem?_eq_none (by omega),List.getElem?_eq_none (by omega)];exact zlU p h
theorem zlV {K:PySem.W.Frag}{F H:Hp}{xs:List D}{vs:List V}(h:Reps K F H xs vs):∀ p:List Nat,Reps K F H (p.filterMap (xs[·]?)) (p.filterMap (vs[·]?))
 | []=>by rw [List.filterMap_nil,List.filterMap_nil];unfold Reps;rfl
 |k::p=>by
  have hl:=h.len;by_cases hk:k<xs.length
  ·rw [List.filterMap_cons,List.filterMap_cons,List.getElem?_eq_getElem hk,List.getElem?_eq_getElem (by omega)];unfold Reps;obtain ⟨v,hv,rv⟩:=h.at' (List.getElem?_eq_getElem hk);rw [List.getElem?_eq_getElem (by omega)] at hv;have hv:=Option.some.inj hv;subst hv;exact ⟨_,_,rfl,rv,zlV h p⟩
  ·rw [List.filterMap_cons,List.filterMap_cons,List.getElem?_eq_none (by omega),List.getElem?_eq_none (by omega)];exact zlV h p
section
variable {X:Cx}{a e:Expr}{ta:VE}{tl tu ts:VP}{lo hi:Option Expr}{es:Expr}{pos p2:Pos}
noncomputable def zur (ta:VE)(tl tu ts:VP):VAs:=fun st Q=>ta st fun d=>tl st fun lo=>tu st fun hi=>ts st fun s=>match d with
 | .lst xs=>s≠some 0/\(cutG xs lo hi s).length<=sizeLine/\Q (cutG xs lo hi s)
 |_=>False
noncomputable def zu8 (K:PySem.W.Frag)(te:TE)(tl th ts:TO):TE:=fun σ H Q=>te σ H fun x H1=>tl σ H1 fun l H2=>th σ H2 fun u H3=>ts σ H3 fun w H4=>∃ ad xs,x= .ref ad/\SqL K H4 ad xs/\w≠some 0/\(cutG xs l u w).length<=sizeLine/\∀ p,H4 p=none->Q (.ref p) (upd H4 p (.lst (cutG xs l u w)))
theorem zol {te:TE}{tl th ts:TO}(he:PE X a te)(hl:PO X lo tl)(hu:PO X hi th)(hs:PO X (some es) ts):PE X (.Subscript a (.Slice lo hi (some es) p2) pos) (zu8 X.K te tl th ts):=by
 intro pins s σ H Q I h;refine Subscript_ (thn (he pins s σ H _ I h) fun v s1 zz=>?_);obtain ⟨x,H1,I1,r1,q1⟩:=zz;refine wpAny_Slice (thn (hl pins s1 σ H1 _ I1 q1) fun vl s2 ⟨l,H2,I2,pl,q2⟩=>thn (hu pins s2 σ H2 _ I2 q2) fun vu s3 ⟨u,H3,I3,pu,q3⟩=>thn (hs pins s3 σ H3 _ I3 q3) fun vt s4 zz=>?_);obtain ⟨w,H4,I4,pw,ad,vs,ex,sq,h0,hlen,q⟩:=zz;subst ex;cases r1;have I5:Inv X pins σ H4 {s4 with heap:=s4.heap.push {cls:=.type "slice",data:=.fields #[vl,vu,vt]}}:=I4.kept (t':=s4.toks) fun b ob q=>Heap.get?_push_of_some _ q;obtain ⟨its,rv,ht,hz⟩:=I5.list sq;have hlv:=rv.length;show wpAny (model X.prog X.w) X.A (subscriptTail a (.Slice lo hi (some es) p2) (.ref ad) (.ref s4.heap.objs.size)) (EP X pins σ Q) X.xe {s4 with heap:=s4.heap.push {cls:=.type "slice",data:=.fields #[vl,vu,vt]}};refine tail_any (ops:=[.ref ad,.ref s4.heap.objs.size]) ht.isList.typeIs PySem.F.slot_list_getitem.lookup ?_ (by with_unfolding_all rfl);refine wpAny_getItem_list_slice ht.isList (Heap.IsSliceOf.new ..) pl pu pw h0 ?_ (by rw [List.size_toArray]<;>omega);have e1:slicePick its.toArray l u w=(cutG its l u w).toArray:=by
  unfold slicePick cutG zuq;simp
 rw [e1];have e3:Vals (cutG vs l u w) (cutG its l u w):=by
  unfold cutG;rw [hlv];exact zlU _ rv
 refine ⟨.ref _,_,I5.laid (t':=s4.toks) (o:=.lst (cutG vs l u w)) (fun b ob q=>Heap.get?_push_of_some _ q) (Nat.le_refl _) ?_,rfl,q _ (I5.hok.fresh (Nat.le_refl _))⟩;exact ⟨hlen,_,0,e3,Heap.get?_push_size _ rfl⟩
theorem ztb (ha:SB X a ta)(hl:SPa X lo tl)(hu:SPa X hi tu)(hs:SPa X (some es) ts):SN X (.Subscript a (.Slice lo hi (some es) p2) pos) (zur ta tl tu ts):=PE.wk (zol ha hl hu hs) fun σ H Q ⟨F,st,Qd,ok,h,k⟩=>
 ⟨F,st,_,ok,h,fun d hd v H1 s1 r1=>⟨F,st,_,ok.same s1,hd,fun l hl H2 s2=>⟨F,st,_,ok.same (s1.trans s2),hl,fun u hu H3 s3=>⟨F,st,_,ok.same (s1.trans (s2.trans s3)),hu,fun w hw H4 s4=>by
  cases d with
  |lst xs=>
   obtain ⟨h0,hlen,q⟩:=hw;unfold Rep at r1;obtain ⟨p,vs,rfl,hq,r⟩:=r1;have s24:=s2.trans (s3.trans s4);have r':=Reps.mono s24 (Tp.of s24) xs vs r;have e2:Reps X.K H4 H4 (cutG xs l u w) (cutG vs l u w):=by
    unfold cutG;rw [r.len];exact zlV r' _
   exact ⟨p,vs,rfl,s24.seq hq,h0,by rw [<-e2.len];exact hlen,fun q' hq'=>k _ q _ H4 q' (s1.trans s24) e2 hq'⟩
  |_=>exact hw.elim⟩⟩⟩⟩
end
section
variable {X:Cx}{e c a b iter:Expr}{pos p:Pos}{t u tb:VS}
noncomputable def zpJ (i:Nat)(t:VE):VS:=fun E st=>t st fun d=>E.nx ((zeH st).set i (some (.sh,d)))
noncomputable def zrF (t:VE):VS:=fun E st=>t st fun d=>E.rt .sh d
theorem ztc {t:VE}(h:SB X e t):SS X (.Return (some e) pos) (zrF t):=PS.wk (znE h) fun De σ H ⟨F,st,E,ok,h,c⟩=>
 ⟨F,st,_,ok,h,fun d hd v H' s r=>c.rt H' H' .sh d v [] (Fw.of (ok.sub.trans s) s) (Same.refl H') ⟨r,rfl⟩ List.nodup_nil hd⟩
end
theorem zjd (f:Nat->V):∀ (us:List Value) (off:Nat),(∀ k v,us[k]? =some v->RelV (f (off+k)) v)->Vals ((List.range' off us.length).map f) us
 | [],_,_=>.nil
 |u::us,off,h=>by
  rw [List.length_cons,List.range'_succ,List.map_cons];refine .cons (h 0 u rfl) (zjd f us (off+1) fun k v e=>?_);have:=h (k+1) v (by simpa using e);rwa [show off+(k+1)=off+1+k by omega] at this
section
variable {X:Cx}{a b:Expr}{pos p p2 pos2:Pos}{t:VAs}
noncomputable def zmS (t:VAs):VAs:=fun st Q=>t st fun ds=>match ds with
 | [.int j]=>(-(2 ^ 62)<=j/\j<2 ^ 62)/\j.toNat<=sizeLine/\Q ((List.range j.toNat).map fun k=>.int (0+((k:Nat):Int)))
 |_=>False
noncomputable def ztd (ta:TA):TE:=fun σ H Q=>ta σ H fun vs H1=>∃ j:Int,vs=[.int j]/\ -(2 ^ 62)<=j/\j<2 ^ 62/\j.toNat<=sizeLine/\∀ p,H1 p=none->Q (.ref p) (upd H1 p (.lst ((List.range j.toNat).map fun k=>.int (0+((k:Nat):Int)))))
theorem zpK {ta:TA}(hc:X.calm=true)(hml:X.mg "list"=none)(hmr:X.mg "range"=none)(ha:PA X [a] ta)(hgl:Gl X "list":=by rfl)(hgr:Gl X "range":=by rfl)(hs:starEach [a] X.env=[(false,eval a X.env)]:=by rfl)
  (he:starEach [.Call (.Name "range" p2) [a] [] pos2] X.env=(false,eval (.Call (.Name "range" p2) [a] [] pos2) X.env)::starEach [] X.env:=by rfl)(hpl:(backTo pos (starEach [] X.env)).any (·.1)=false:=by rfl):
  PE X (.Call (.Name "list" p) [.Call (.Name "range" p2) [a] [] pos2] [] pos) (ztd ta):=by
 intro pins s σ H Q I h;refine wpAny_Call_Name_kw (ld_blt I hgl hml (by first|exact boot_list|rfl) ?_ (by decide) (by decide));refine PyProof.Rows.callWith_type1 ?_ he hpl;rw [he];show wpAny _ _ (spliced ((false,eval (.Call (.Name "range" p2) [a] [] pos2) X.env)::backTo pos (starEach [] X.env))) _ _ s;refine Calls.spliced_cons ?_;refine Call_ (ld_blt I hgr hmr boot_range (PyProof.Rows.callWith_type1 (thn (ha pos2 pins s σ H _ I h) fun us s1 zz=>?_) hs rfl));obtain ⟨vs,H1,I1,r1,j,e,h1,h2,h3,q⟩:=zz;subst e;cases r1 with
 |cons r rr=>
  cases rr;obtain ⟨tk,rfl⟩:=r;refine call_range_1 ?_;refine Calls.spliced_nil ?_;have I2:Inv X pins σ H1 {s1 with heap:=s1.heap.push {cls:=.type "range",data:=.fields #[.int 0 s1.toks,.int j tk,.int 1 (s1.toks+1)]},toks:=s1.toks+1+1}:=I1.kept fun b o e=>Heap.get?_push_of_some _ e;refine call_list_range (n:=j.toNat) (I.ok.hd hc) (IsRange.new ..) (small_one (by omega) (by omega) h1 h2) (by rw [rangeSize_one];split<;>omega) h3 fun h' tk' acc' c' hk hl hit=>?_;refine ⟨.ref _,_,I2.laid (t':=tk') (o:=.lst ((List.range j.toNat).map fun k=>.int (0+((k:Nat):Int)))) hk (Nat.le_refl _) ?_,rfl,q _ (I2.hok.fresh (Nat.le_refl _))⟩;refine ⟨by rw [List.length_map,List.length_range];exact h3,acc'.toList,c',?_,by simpa using hl⟩;have hz:acc'.toList.length=j.toNat:=by simpa using hit.1
  rw [<-hz,List.range_eq_range'];refine zjd _ _ 0 fun k v e=>?_;obtain ⟨t,rfl⟩:=hit.2 k v (by simpa using e);refine ⟨t,?_⟩;rw [Nat.zero_add,Int.mul_one]
theorem zmT (hc:X.calm=true)(hml:X.mg "list"=none)(hmr:X.mg "range"=none)(ha:SA X [a] t)(hgl:Gl X "list":=by rfl)(hgr:Gl X "range":=by rfl)(hs:starEach [a] X.env=[(false,eval a X.env)]:=by rfl)
  (he:starEach [.Call (.Name "range" p2) [a] [] pos2] X.env=(false,eval (.Call (.Name "range" p2) [a] [] pos2) X.env)::starEach [] X.env:=by rfl)(hpl:(backTo pos (starEach [] X.env)).any (·.1)=false:=by rfl):
  SN X (.Call (.Name "list" p) [.Call (.Name "range" p2) [a] [] pos2] [] pos) (zmS t):=PE.wk (zpK hc hml hmr ha hgl hgr hs he hpl) fun σ H Q zz=>by
 obtain ⟨F,st,Qd,ok,h,k⟩:=zz;exact ⟨F,st,_,ok,h,fun ds hd vs H1 s1 r1=>by
   split at hd
   ·rename_i j;obtain ⟨v,rfl,r⟩:=zhv r1;unfold Rep at r;subst r;refine ⟨j,rfl,hd.1.1,hd.1.2,hd.2.1,fun p hp=>k _ hd.2.2 _ H1 p s1 ?_ hp⟩;have:∀ l:List Nat,Reps X.K H1 H1 (l.map fun k=>D.int (0+((k:Nat):Int))) (l.map fun k=>V.int (0+((k:Nat):Int))):=by
     intro l
     induction l with
     |nil=>unfold Reps;rfl
     |cons x l ih=>rw [List.map_cons,List.map_cons];unfold Reps;exact ⟨_,_,rfl,by unfold Rep;rfl,ih⟩
    exact this _
   ·exact hd.elim⟩
end
noncomputable abbrev VP1:=D->List D->(D->Prop)->Prop
noncomputable def zpL (H:Hp)(os:List Addr):Hp:=fun b=>if b∈os then none else H b
theorem zom {H:Hp}{os:List Addr}{b:Addr}(h:b∈os):zpL H os b=none:=if_pos h
theorem zjI {H:Hp}{os:List Addr}{b:Addr}(h:b∉os):zpL H os b=H b:=if_neg h
theorem zpM {H:Hp}{os:List Addr}:Same (zpL H os) H:=fun b o e=>by
 by_cases h:b∈os
 ·rw [zom h] at e;cases e
 ·rw [zjI h] at e;exact e
noncomputable def zuI (K:PySem.W.Frag)(m:VP1):Sp:=fun vs H Q _=>∃ (a:Addr) (d:D) (os:List Addr) (ds:List D) (rest:List V) (Qd:D->Prop),vs= .ref a::rest/\RepD K (zpL H os) H d (.ref a) os/\os.Nodup/\Reps K (zpL H os) H ds rest/\m d ds Qd/\
 ∀ d',Qd d'->∀ (H':Hp) (os':List Addr),(∀ b o,H b=some o->b∉os->H' b=some o)->Tp K H H'->RepD K (fun _=>none) H' d' (.ref a) os'->os'.Nodup->(∀ b∈os',b∈os\/H b=none)->Q .non H'
structure CalP1 (P:Program)(w:World)(K:PySem.W.Frag)(mg:Str->Option Value)(base:Heap)(k:Nat)(x:Str)(m:VP1):Prop where
 ex:∃ f fd ps,FnOk P w K mg base CX0 k f fd ps (zuI K m)/\mg x=some (.ref f)/\PySem.W.keepIn K (.ref f)=true/\Binds K fd ps []
noncomputable def zfl (N:List Str)(a:Addr)(d:D)(ds:List D):LSt:=some (.oa a,d)::(ds.map (fun d=>some (.sh,d))++List.replicate (N.length - (ds.length+1)) none)
noncomputable def zkV (N:List Str)(a a2:Addr)(d d2:D)(ds:List D):LSt:=some (.oa a,d)::some (.oa a2,d2)::(ds.map (fun d=>some (.sh,d))++List.replicate (N.length - (ds.length+2)) none)
section
variable {K:PySem.W.Frag}
theorem zpN {F H:Hp}{ds:List D}{rest:List V}(r:Reps K F H ds rest)(n:Nat){i:Nat}{m:Md}{d:D}(e:(ds.map (fun d=>(some (Md.sh,d):Option (Md×D)))++List.replicate n none)[i]? =some (some (m,d))):
  ∃ v,(rest.map some++List.replicate n (none:Option V))[i]? =some (some v)/\m= .sh/\Rep K F H d v:=by
 have hl:=r.len;by_cases hi:i<ds.length
 ·rw [List.getElem?_append_left (by simpa using hi),List.getElem?_map] at e;cases z:ds[i]? with
  |none=>rw [z] at e;cases e
  |some d'=>
   rw [z] at e;have e':(Md.sh,d')=(m,d):=Option.some.inj (Option.some.inj e);cases e';obtain ⟨v,hv,rv⟩:=r.at' z;refine ⟨v,?_,rfl,rv⟩;rw [List.getElem?_append_left (by rw [List.length_map,<-hl];exact hi),List.getElem?_map,hv];rfl
 ·rw [List.getElem?_append_right (by simpa using hi),List.getElem?_replicate] at e;split at e<;>cases e
theorem zon {H:Hp}{N:List Str}{a:Addr}{d:D}{os:List Addr}{ds:List D}{rest:List V}(rd:RepD K (zpL H os) H d (.ref a) os)(nd:os.Nodup)(r:Reps K (zpL H os) H ds rest):Ok K (zpL H os) H (zfl N a d ds) (zfV N (.ref a::rest)):=by
 have hl:=r.len;have es:zfV N (.ref a::rest)=some (.ref a)::(rest.map some++List.replicate (N.length - (ds.length+1)) none):=by
  unfold L2.zfV;rw [List.map_cons,List.length_cons,hl];rfl
 rw [es];refine ⟨fun i=>if i=0 then os else [],?_,zpM,fun i m d' e=>?_,fun i=>?_,fun i j b hb hc=>?_,fun i hi=>?_⟩
 ·unfold zfl;simp [hl]
 ·unfold zfl at e;cases i with
  |zero=>
   rw [List.getElem?_cons_zero] at e;cases e;exact ⟨.ref a,rfl,by rw [if_pos rfl];exact ⟨rfl,rd⟩⟩
  |succ i=>
   rw [List.getElem?_cons_succ] at e;obtain ⟨v,hv,rfl,rv⟩:=zpN r _ e;exact ⟨v,by rw [List.getElem?_cons_succ];exact hv,by rw [if_neg (by omega)];exact ⟨rv,rfl⟩⟩
 ·show (if i=0 then os else []).Nodup
  split
  ·exact nd
  ·exact List.nodup_nil
 ·have hb:b∈(if i=0 then os else []):=hb;have hc:b∈(if j=0 then os else []):=hc;split at hb
  ·split at hc
   ·omega
   ·cases hc
  ·cases hb
 ·show (if i=0 then os else [])=[]
  split
  ·rename_i z;subst z;exact absurd rfl (hi (.oa a) d)
  ·rfl
end
section
variable {P:Program}{w:World}{K:PySem.W.Frag}{mg:Str->Option Value}{base:Heap}
theorem zus {x qual:Str}{st:Stmt}{f:Addr}{fd:FuncData}{N ps:List Str}{k:Nat}{m:VP1}{t:VS}(F:Fun K x qual st f fd)(hm:mg x=some (.ref f))(hbi:Binds K fd ps [])(S:FnScope N ps (zab st))(hlen:∀ d ds Q,m d ds Q->ds.length+1=ps.length)
  (hb:∀ (cdv:Value) (A:Around) (outer:List Env) (s:Shared) (H:Hp) (E:XK),Room k (A.deeper (envOfC qual (zab st) s.heap.objs.size f cdv))->SSs (zpp CX0 P w K mg base N qual (zab st) f cdv A outer s H E).nox (zaj st) t)
  (hv:∀ a d ds Q,m d ds Q->t {nx:=fun st'=>∃ d',st'[0]? =some (some (.oa a,d'))/\Q d',rt:=fun _ _=>False} (zfl N a d ds)):CalP1 P w K mg base (k+1) x m:=by
 refine ⟨f,fd,ps,?_,hm,F.kp,hbi⟩;refine F.ok S (fun vs H Q E ⟨a,d,os,ds,rest,Qd,e,_,_,r,h,_⟩=>by rw [e,List.length_cons,<-r.len];exact hlen d ds Qd h) fun cdv A outer s H vs Q E hr zz=>?_;obtain ⟨a,d,os,ds,rest,Qd,e,rd,nd,r,h,c⟩:=zz;subst e;refine ⟨_,hb cdv A outer s H E hr,zpL H os,_,_,zon rd nd r,hv a d ds Qd h,?_⟩;refine ⟨fun F' H' st' σ' fw ok' q=>?_,fun _ _ _ _ _ _ q=>q.elim,fun _ _ _ _ _ _ q=>q.elim,fun F' H' md d v os fw s2 r nd q=>q.elim,fun _ _ _ _ _ _ _ _ _ q=>q.elim⟩;obtain ⟨d',e',q⟩:=q;obtain ⟨O,o⟩:=ok';obtain ⟨v,hv',rv⟩:=o.repM 0 _ _ e';obtain ⟨rfl,rv⟩:=rv;refine c d' q H' (O 0) (fun b u hbu hn=>o.sub b u (fw.f b u (by rw [zjI hn];exact hbu))) fw.t (RepD.stay (Tp.of (Same.refl H')) d' _ _ rv fun b hb'=>⟨rfl,rfl⟩) (o.nd 0) fun b hb'=>?_;have f1:=(RepD.there _ _ _ rv b hb').1;by_cases z:b∈os
 ·exact .inl z
 ·cases e:H b with
  |none=>exact .inr rfl
  |some u=>
   have:=fw.f b u (by rw [zjI z];exact e);rw [f1] at this;cases this
end
section
variable {X:Cx}{es:List Expr}{t:VAs}{x x1 x2:Str}{p p1 p2 pos pos2:Pos}{k:Nat}
theorem OkO.anew {K:PySem.W.Frag}{F H H':Hp}{st:LSt}{σ:St}{O:Nat->List Addr}(o:OkO K F H st σ O){i:Nat}{mi:Md}{d d':D}{v:V}{os':List Addr}(hi:st[i]? =some (some (mi,d)))(hmi:znW mi=true)(hv:σ[i]? =some (some v))(rw0:RepM K F H mi d v (O i))
  (fr:∀ b u,H b=some u->b∉O i->H' b=some u)(tp:Tp K H H')(rd:RepD K (fun _=>none) H' d' v os')(nd:os'.Nodup)(new:∀ b∈os',b∈O i\/H b=none):Ok K F H' (st.set i (some (mi,d'))) σ:=by
 have hl:=(List.getElem?_eq_some_iff.mp hi).1;have subF:Same F H':=fun b u e=>fr b u (o.sub b u e) fun z=>by rw [(o.there z).1] at e;cases e
 have o1:=o.drop i;have o2:OkO K F H' (st.set i none) σ fun j=>if j=i then [] else O j:=o1.stay tp (Same.refl F) subF fun j b hb=>by
  have hb:b∈(if j=i then [] else O j):=hb;split at hb
  ·cases hb
  ·rename_i n;obtain ⟨f,vs,q⟩:=o.there hb;exact ⟨(fr b _ q fun z=>n (o.dj _ _ _ hb z)).trans q.symm,f⟩
 have Fn:∀ b∈os',F b=none:=fun b hb=>by
  rcases new b hb with z|z
  ·exact (o.there z).1
  ·cases e:F b with
   |none=>rfl
   |some u=>have:=o.sub b u e;rw [z] at this;cases this
 have rd':RepD K F H' d' v os':=RepD.stay (Tp.of (Same.refl H')) d' v os' rd fun b hb=>⟨rfl,Fn b hb⟩;have o3:=o2.set (by rw [List.length_set];exact hl) (RepS.of (RepM.back hmi rw0 rd')) nd fun j n b hb hc=>by
  have hc:b∈(if j=i then [] else O j):=hc;rw [if_neg n] at hc;rcases new b hb with z|z
  ·exact n (o.dj _ _ _ hc z)
  ·obtain ⟨_,vs,q⟩:=o.there hc;rw [z] at q;cases q
 rw [List.set_set,zhO hv] at o3;exact ⟨_,o3⟩
noncomputable def zkW (i:Nat)(m:VP1)(t:VAs):VS:=fun E st=>match st[i]? with
 |some (some (mi,.lst xs))=>znW mi=true/\t st fun ds=>flats ds=true/\m (.lst xs) ds fun d'=>E.nx (st.set i (some (mi,d')))
 |_=>False
theorem zoo (i:Nat){m:VP1}(c:CalP1 X.prog X.w X.K X.mg X.base k x m)(hr:Room k X.A)(ha:SA X es t)(hN:X.N[i]? =some x1:=by rfl)(hv:Vis X.env.scope x1:=by first|exact Or.inl rfl|exact Or.inr (Or.inl rfl)|exact Or.inr (Or.inr rfl))(hd:(x1==("__debug__":Str))=false:=by decide)
  (hcd:(x1==("__classdict__":Str))=false:=by decide)(hg:Gl X x:=by rfl)(hdb:(x==("__debug__":Str))=false:=by decide)(he:starEach (.Name x1 p1::es) X.env=(false,eval (.Name x1 p1) X.env)::starEach es X.env:=by rfl)
  (hpl:(backTo pos (starEach es X.env)).any (·.1)=false:=by rfl)(hs:swapsWith (.Call (.Name x p) (.Name x1 p1::es) [] pos) none pos2.line X.env=pure false:=by rfl):SS X (.Expr (.Call (.Name x p) (.Name x1 p1::es) [] pos) pos2) (zkW i m t):=by
 obtain ⟨f,fd,ps,F,hm,hk,hb⟩:=c.ex;refine PS.wk (zgN (zlH F hr hg hm hk hb .nil zps (zcm (zdU hN hv hd hcd) ha he) hdb he hpl) hs) fun De σ H zz=>?_;obtain ⟨F,st,E,ok,h,c⟩:=zz;unfold zkW at h;split at h
 ·rename_i mi xs hi;obtain ⟨hmi,h⟩:=h;obtain ⟨v0,hv0,_⟩:=ok.get hi;refine ⟨v0,hv0,F,st,_,ok,h,fun ds hds vs H1 s1 r1=>?_⟩;show zuI X.K m (v0::vs++[]) H1 _ E0;rw [List.append_nil];obtain ⟨O,o⟩:=ok.same s1;obtain ⟨v,hv1,rw0⟩:=o.repM i _ _ hi;rw [hv0] at hv1;cases hv1;have rw':=rw0.toD hmi;have rw2:=rw';unfold RepD at rw2;obtain ⟨a,ws,o2,rfl,eO,q,f,rr⟩:=rw2;refine ⟨a,.lst xs,O i,ds,vs,_,rfl,RepD.stay (Tp.of (Same.refl H1)) _ _ _ rw' fun b hb=>⟨rfl,zom hb⟩,o.nd i,Reps.flatF ds vs r1 hds.1,hds.2,fun d' hq H' os' fr tp rd nd new=>?_⟩;exact c.nx F H' _ σ ⟨Same.refl F,fun x y z=>tp x y (Tp.of s1 x y z)⟩ (o.anew hi hmi hv0 rw0 fr tp rd nd new) hq
 ·exact h.elim
end
section
variable {X:Cx}{x y:Str}{p q pos apos cpos:Pos}
noncomputable def zmU (i j:Nat):VS:=fun E st=>match st[i]?,st[j]? with
 |some (some (.ow,.lst xs)),some (some (.ow,d))=>i≠j/\xs.length<sizeLine/\E.nx ((st.set j none).set i (some (.ow,.lst (xs++[d]))))
 |_,_=>False
theorem zrG (i j:Nat)(hN:X.N[i]? =some x:=by rfl)(hv:Vis X.env.scope x:=by first|exact Or.inl rfl|exact Or.inr (Or.inl rfl)|exact Or.inr (Or.inr rfl))(hd:(x==("__debug__":Str))=false:=by decide)
  (hcd:(x==("__classdict__":Str))=false:=by decide)(hN2:X.N[j]? =some y:=by rfl)(hv2:Vis X.env.scope y:=by first|exact Or.inl rfl|exact Or.inr (Or.inl rfl)|exact Or.inr (Or.inr rfl))(hd2:(y==("__debug__":Str))=false:=by decide)
  (hcd2:(y==("__classdict__":Str))=false:=by decide)(hs:swapsWith (.Call (.Attribute (.Name x p) "append" apos) [.Name y q] [] cpos) none pos.line X.env=pure false:=by rfl)
  (hbase:attributeBase (.Name x p) "append" X.env (eval (.Name x p) X.env)=eval (.Name x p) X.env:=by rfl)
  (hfew:((backTo cpos (starEach [.Name y q] X.env)).all (fun x=> !x.1)&&(backToKw cpos (keywordEach [] X.env)).all (fun x=>x.1.isSome)&&decide ([Expr.Name y q].length+([]:List Keyword).length+(if ([]:List Keyword).isEmpty then 0 else 1)<30))=true:=by rfl)
  (hline:(apos.endLine==cpos.line)=true:=by rfl)(hst:starEach [.Name y q] X.env=(false,eval (.Name y q) X.env)::starEach [] X.env:=by rfl)(hpl:(backTo cpos (starEach [] X.env)).any (·.1)=false:=by rfl):
  SS X (.Expr (.Call (.Attribute (.Name x p) "append" apos) [.Name y q] [] cpos) pos) (zmU i j):=
 PS.wk (zgN (znT PySem.F.plainAttrs_list PySem.F.slot_list_append PySem.F.type_list_append zky (zdU hN hv hd hcd) (zcm (zdU hN2 hv2 hd2 hcd2) zfU hst) hbase hfew hline hst hpl) hs) fun De σ H zz=>by
 obtain ⟨F,st,E,ok,h,c⟩:=zz;unfold zmU at h;split at h
 ·rename_i xs d hi hj;obtain ⟨hij,hl,h⟩:=h;obtain ⟨O,o⟩:=ok;obtain ⟨w,hw,rw'⟩:=o.repM i _ _ hi;have rd:=rw'.read o.sub;unfold Rep at rd;obtain ⟨a,vs,rfl,hq,_⟩:=rd;obtain ⟨v,hv',rv⟩:=o.repM j _ _ hj;refine ⟨.ref a,hw,.inl ⟨rfl,vs,hq⟩,v,hv',?_⟩;have hi2:(st.set j none)[i]? =some (some (.ow,.lst xs)):=by rw [List.getElem?_set_ne (Ne.symm hij)];exact hi
  obtain ⟨a',vs',hw',q,hlen,F2,s2,ok2⟩:=zmI none (o.drop j) (fun a z=>by cases z) (Gr.refl o.sub) hi2 (m:=.ow) (m':=.ow) rfl rv (o.nd j) (fun l b hb hc=>by
   have hc:b∈(if l=j then [] else O l):=hc;split at hc
   ·cases hc
   ·rename_i n;exact n (o.dj _ _ _ hc hb))
  rw [hw] at hw';cases hw';exact ⟨a,vs',v,rfl,rfl,q,by rw [<-hlen];exact hl,c.nx F2 _ _ σ ⟨s2,fun x y z=>Tp.upd q x y z⟩ ok2 h⟩
 ·exact h.elim
end
section
variable {X:Cx}{a b:Expr}{ta:VAs}{tb:VE}{pos:Pos}
noncomputable def zlW (t:VAs)(tb:VE):VAs:=fun st Q=>t st fun ds=>tb st fun e=>match e with
 | .int k=>(-(2 ^ 63)<=k/\k<2 ^ 63)/\ds.length * k.toNat<=sizeLine/\Q (List.replicate k.toNat ds).flatten
 |_=>False
theorem zlX (ha:SN X a ta)(hb:SB X b tb):SN X (.BinOp a .Mult b pos) (zlW ta tb):=PE.wk (zq0 zsT ha hb) fun σ H Q ⟨F,st,Qd,ok,h,k⟩=>
 ⟨F,st,_,ok,h,fun ds hds vs H' p s r hp=>⟨F,st,_,ok.same (s.trans (zbO hp)),hds,fun e he v H2 s2 r2=>by
  cases e with
  |int j=>
   unfold Rep at r2;subst r2;have s3:=(zbO (o:=.lst vs) hp).trans s2;exact ⟨p,j,vs,rfl,rfl,s2 _ _ zaH,he.1.1,he.1.2,by rw [<-r.len];exact he.2.1,fun q hq=>k _ he.2.2 _ H2 q (s.trans s3) (Reps.rep (Reps.mono s3 (Tp.of s3) ds vs r) _) hq⟩
  |_=>exact he.elim⟩⟩
end
noncomputable def zrH (s p:Int):Bool:=decide (0<=p)&&decide (s / 2 ^ p.toNat % 2=1)
theorem zf5 (s p:Nat):zrH (s:Int) (p:Int)=s.testBit p:=zu7 s p
theorem zte:∃ f:Int->Int->Int,∀ n k,f n k=(n * n+k * n+7 * k * k) * 1103515245 % 2147483629:=⟨fun n k=>(n * n+k * n+7 * k * k) * 1103515245 % 2147483629,fun _ _=>rfl⟩
noncomputable def zu9:Int->Int->Int:=Classical.choose zte
theorem zop (s:Nat):(zlT s).length<=bts s:=by unfold zlT;exact Nat.le_trans (List.length_filter_le _ _) (by simp)
theorem web_at {w:List Nat}{a:Nat}(h:a<w.length):atI (w.map natD) (a:Int)=some (natD (w.getD a 0)):=by
 refine zaW ?_;rw [List.getElem?_map,List.getD_eq_getElem?_getD,List.getElem?_eq_getElem h];rfl
noncomputable abbrev zgM (t:Nat×Nat):D:=.tup [natD t.1,natD t.2]
noncomputable def tiesFrom (w:List Nat)(a:Nat):List (Nat×Nat):=((zlT (w.getD a 0)).filter fun b=>decide (a<b)).map fun b=>(a,b)
noncomputable def ziO (w:List Nat):List (Nat×Nat):=(List.range w.length).flatMap (tiesFrom w)
theorem zgX (ts:List (Nat×Nat)):flats (ts.map zgM)=true:=zdX (fun t=>by simp [D.flat,flats]) ts
theorem zrI (s t:Nat×Nat):deq (zgM s) (zgM t)=decide (s=t):=by
 rw [zlP,deqs,deqs,deqs,zlS,zlS,Bool.and_true,Bool.eq_iff_iff,Bool.and_eq_true,decide_eq_true_iff,decide_eq_true_iff,decide_eq_true_iff,Prod.ext_iff]
theorem zpO (ss ts:List (Nat×Nat)):deq (.lst (ss.map zgM)) (.lst (ts.map zgM))=decide (ss=ts):=by rw [zgS,zjE _ zrI]
theorem zpP (ss:List (Nat×Nat)):(D.lst (ss.map zgM)).dep<=100:=by
 unfold D.dep;have:deps (ss.map zgM)<=1:=zf2 (fun t=>by simp [D.dep,deps]) ss;omega
theorem zmV {w:List Nat}(h:∀ s∈w,bts s<=1000)(a:Nat):(tiesFrom w a).length<=1000:=by
 unfold tiesFrom;rw [List.length_map];refine Nat.le_trans (List.length_filter_le _ _) (Nat.le_trans (zop _) ?_);rw [List.getD_eq_getElem?_getD];cases e:w[a]? with
 |none=>show bts ((0:Nat):Int)<=1000;decide
 |some s=>exact h s (List.mem_of_getElem? e)
noncomputable def cellP (ns:List Int)(k:Int):Int:=ns.getD k.toNat 0
theorem zbE (c:Int)(n:Nat)(hn:0<n):∃ a:Nat,c % (n:Int)=(a:Int)/\a<n:=by
 have h0:=Int.emod_nonneg c (b:=(n:Int)) (by omega);have h1:=Int.emod_lt_of_pos c (b:=(n:Int)) (by omega);exact ⟨(c % n).toNat,by omega,by omega⟩
theorem zoq {n b:Nat}{f:Nat->Bool}(h:b<n):atI ((List.range n).map fun b=>D.bl (f b)) (b:Int)=some (.bl (f b)):=L2.zaW (zdt _ h)
theorem zjJ {n a:Nat}{M:Nat->Nat->Bool}(h:a<n):atI (zhy n M) (a:Int)=some (zhQ n (M a)):=L2.zaW (zh3 h)
noncomputable def bmL (r:List Bool):Nat:=bm r.length fun i=>r.getD i false
theorem zpQ (r:List Bool)(b:Bool):bmL (r++[b])=bmL r+2 ^ r.length * (if b then 1 else 0):=by
 unfold bmL;rw [List.length_append,List.length_singleton,bm];have e1:bm r.length (fun i=>(r++[b]).getD i false)=bm r.length (fun i=>r.getD i false):=zjG fun p hp=>by
  rw [List.getD_eq_getElem?_getD,List.getD_eq_getElem?_getD,List.getElem?_append_left hp]
 have e2:(r++[b]).getD r.length false=b:=by rw [List.getD_eq_getElem?_getD];simp
 rw [e1,e2];cases b<;>simp
theorem zor (n:Nat)(f:Nat->Bool):bmL ((List.range n).map f)=bm n f:=by
 unfold bmL;rw [List.length_map,List.length_range];exact zjG fun p hp=>by rw [List.getD_eq_getElem?_getD,zdt f hp];rfl
noncomputable abbrev zsk (r:List Bool):D:=.lst (r.map .bl)
theorem zos (n:Nat)(M:Nat->Nat->Bool):zhy n M=((List.range n).map fun a=>(List.range n).map (M a)).map zsk:=by
 unfold zhy;rw [List.map_map];refine zaM fun a _=>?_;show zhQ n (M a)=D.lst (((List.range n).map (M a)).map D.bl)
 rw [List.map_map];rfl
theorem zpR (n:Nat)(M:Nat->Nat->Bool):((List.range n).map fun a=>(List.range n).map (M a)).map bmL=webOf n M:=by
 unfold webOf;rw [List.map_map];exact zaM fun a _=>zor n (M a)
theorem zau (n:Nat)(M:Nat->Nat->Bool):(webOf n M).length=n:=by unfold webOf;simp
theorem web_get {n a:Nat}{M:Nat->Nat->Bool}(h:a<n):(webOf n M).getD a 0=bm n (M a):=by
 unfold webOf;rw [List.getD_eq_getElem?_getD,zdt _ h];rfl
theorem zot {n:Nat}{M:Nat->Nat->Bool}(hn:n<=100):∀ s∈webOf n M,bts (s:Int)<=1000:=by
 intro s hs;unfold webOf at hs;obtain ⟨a,_,rfl⟩:=List.mem_map.mp hs;refine zjC (m:=n) ?_ (by omega);rw [bts_le];simpa using zkT n (M a)
noncomputable def orL (ss:List Nat):Nat:=ss.foldl (· ||| ·) 0
theorem zpS (ss:List Nat)(s:Nat):orL (ss++[s])=orL ss ||| s:=by unfold orL;rw [List.foldl_append];rfl
theorem zrJ (ss:List Nat)(p:Nat):(orL ss).testBit p=ss.any fun s=>s.testBit p:=by
 have:∀ (ss:List Nat) (a:Nat),(ss.foldl (· ||| ·) a).testBit p=(a.testBit p||ss.any fun s=>s.testBit p):=by
  intro ss
  induction ss with
  |nil=>intro a;simp
  |cons s ss ih=>intro a;rw [List.foldl_cons,ih,Nat.testBit_or,List.any_cons,Bool.or_assoc]
 unfold orL;rw [this,Nat.zero_testBit,Bool.false_or]
noncomputable def ztP (ps:List Nat):Nat:=orL (ps.map fun p=>2 ^ p)
theorem setN_bit (ps:List Nat)(p:Nat):(ztP ps).testBit p=ps.any fun q=>decide (q=p):=by
 unfold ztP;rw [zrJ,List.any_map];congr 1;funext q;show (2 ^ q).testBit p=_
 rw [Nat.testBit_two_pow]
noncomputable def zcS (w:List Nat):List Nat:=(List.range w.length).map fun a=>zmQ (2 ^ w.length - 1) (w.getD a 0 ||| 2 ^ a)
theorem zdm {w:List Nat}{a:Nat}(h:a<w.length):atI (w.map natD) (a:Int)=some (natD (w.getD a 0)):=by
 refine L2.zaW ?_;rw [List.getElem?_map,List.getD_eq_getElem?_getD,List.getElem?_eq_getElem h];rfl
theorem zeb (p:Nat):((2:Int) ^ p)=((2 ^ p:Nat):Int):=by simp
theorem all_bit (n p:Nat):(2 ^ n - 1).testBit p=decide (p<n):=Nat.testBit_two_pow_sub_one n p
noncomputable def zgY (w ps:List Nat)(p:Nat):Nat:=ztP ((List.range ps.length).filter fun k=>(w.getD p 0).testBit (ps.getD k 0))
noncomputable def zou (w ps:List Nat):List Nat:=ps.map (zgY w ps)
noncomputable def ztf (a b c:Int):Bool:=if c % 4=2 then decide ((a - b) % (2+c / 4 % 4)=0) else if c % 4=3 then decide (zu9 (c / 4+7 * a+7 * b+3 * a * b) 1 % 5<2) else decide (c % 4=1)
theorem zb9 {x:Int}(h0: -1000000<x)(h1:x<1000000):bts x<=64:=zqH (by omega) (by omega)
noncomputable def M0 (c:Int):Nat->Nat->Bool:=fun a b=>decide (a≠b)&&ztf a b c
theorem zje {n a b:Nat}(hn:1<n)(ha:a<n)(hb:b<n - 1):a≠(a+1+b) % n/\(a+1+b) % n<n:=by
 refine ⟨?_,Nat.mod_lt _ (by omega)⟩;intro z;by_cases h1:a+1+b<n
 ·rw [Nat.mod_eq_of_lt h1] at z;omega
 ·rw [Nat.mod_eq_sub_mod (by omega),Nat.mod_eq_of_lt (by omega)] at z;omega
theorem zh6 {s n:Nat}(h:s<2 ^ n):bts (s:Int)<=n:=by rw [bts_le];simpa using h
theorem zrK {a b n:Nat}(h:a<2 ^ n):zmQ a b<2 ^ n:=Nat.lt_of_le_of_lt (zrD a b) h
section
variable {X:Cx}{x:Str}{p pos apos cpos:Pos}
end
theorem zf6 {K:PySem.W.Frag}{F H:Hp}:∀ {is:List Int} {vs:List V},Reps K F H (is.map D.int) vs->vs=is.map V.int
 | [],vs,r=>by unfold Reps at r;exact r
 |x::is,vs,r=>by
  rw [List.map_cons] at r;unfold Reps at r;obtain ⟨v,r',rfl,r1,r2⟩:=r;unfold Rep at r1;rw [r1,zf6 r2];rfl
section
variable {X:Cx}{x:Str}{p pos:Pos}{tb:VS}
end
section
variable {X:Cx}{elt iter:Expr}{ifs:List Expr}{pos py spos:Pos}{y:Str}{R:List Str}{scope:Scope}{src:VAs}{ct:VT}{ee:VE}
theorem zov {i:Nat}{z:Str}{pz:Pos}(hc:X.calm=true)(hX:X.N.Nodup)(hNd:(y::R).Nodup)(hi:SI X (.Name y py) iter src)(ht:∀ fp L s H,SCl (cxC X (y::R) scope fp L s H) ifs ct)(he:∀ fp L s H,SB (cxC X (y::R) scope fp L s H) elt ee)
  (hz:X.N[i]? =some z:=by rfl)(hl:Loc X.env.scope z:=by first|exact Or.inl rfl|exact Or.inr rfl)
  (hch:zeJ R X.N scope.names X.env.scope.names=true:=by rfl)(hx:∀ fp L s H,Loc (cxC X (y::R) scope fp L s H).env.scope y:=by intros;first|exact Or.inl rfl|exact Or.inr rfl)
  (hf:∀ fp L s H,(cxC X (y::R) scope fp L s H).fn y=true\/(cxC X (y::R) scope fp L s H).env.scope.names.lookup y=some .local:=by intros;first|exact .inl rfl|exact .inr rfl)
  (hsw:swapsWith (.ListComp elt [⟨.Name y py,iter,ifs,0⟩] scope pos) (some (.Name z pz)) spos.line X.env=pure true:=by rfl)(hfz:X.fn z=true\/X.env.scope.names.lookup z=some .local:=by first|exact .inl rfl|exact .inr rfl)
  (hk:scope.kind= .function:=by rfl)(hs:∀ x,foldedSetIterable iter X.env x=pure x:=by intro _;rfl):SS X (.Assign [.Name z pz] (.ListComp elt [⟨.Name y py,iter,ifs,0⟩] scope pos) spos) (zpJ i (zdT (zb7 src ct ee))):=
 PS.wk (zlK (N:=y::R) (tn:=[y]) (g:=ziL 0) (tc:=lT X.K ct) (te:=lB X.K ee) hc hX hz hl hi rfl hch (fun fp L s H=>zdM hNd rfl (hx fp L s H) (hf fp L s H)) ht he hsw hfz hk hs) fun De σ H zz=>by
 obtain ⟨F,st,E,ok,h,c⟩:=zz;refine zoc (X:=X) ⟨F,st,_,ok,h,fun ds hd vs H' p s r hp=>?_⟩;obtain ⟨s2,r2⟩:=zmE hp r;have s3:=s.trans s2;exact c.nx _ _ _ _ (Fw.of (ok.sub.trans s3) s3) ((ok.same s3).view.put' (Gr.refl (Same.refl _)) (m:=.sh) ⟨r2,rfl⟩ List.nodup_nil (by simp)) hd
end
section
variable {X:Cx}{e c a b iter i1:Expr}{pos p apos cpos:Pos}{t u tb:VS}{x:Str}
end
section
variable {X:Cx}
noncomputable def zrL:V->List V->Hp->VK->Prop:=fun x vs H Q=>∃ l xs,∃ k:Nat,∃ y,x= .ref l/\vs=[.int (k:Int),y]/\H l=some (.lst xs)/\k<=xs.length/\xs.length<sizeLine/\Q .non (upd H l (.lst (xs.take k++y::xs.drop k)))
theorem ztg (l:List Value)(k:Nat)(y:Value):(l.toArray.extract 0 k).push y++l.toArray.extract k=(l.take k++y::l.drop k).toArray:=by
 apply Array.toList_inj.mp;simp;exact List.take_of_length_le (by simp)
theorem zkX:∀ {xs:List V} {us:List Value} (k:Nat),Vals xs us->Vals (xs.take k) (us.take k)
 |_,_,0,_=>by simp;exact .nil
 |_,_,k+1,.nil=>.nil
 |_,_,k+1,.cons h t=>.cons h (zkX k t)
theorem zkY:∀ {xs:List V} {us:List Value} (k:Nat),Vals xs us->Vals (xs.drop k) (us.drop k)
 |_,_,0,h=>by simpa using h
 |_,_,k+1,.nil=>.nil
 |_,_,k+1,.cons h t=>zkY k t
theorem zow:MtM X "list.insert" zrL:=by
 intro pins s σ H x vs v us Q I rx rv h;obtain ⟨l,xs,k,y,rfl,rfl,hH,hk,hz,q⟩:=h;cases rx;obtain ⟨u1,u2,rfl,r1,r2⟩:=Vals.two rv;obtain ⟨t,rfl⟩:=r1;obtain ⟨z,its,n,r,hl,e⟩:=I.lstM hH;have hsl:sizeLine<2 ^ 62:=by decide+kernel
 have hfit:¬(!Builtin.List.listFitsIndex (k:Int))=true:=by rw [fitsIndex_both (by omega) (by omega)];decide
 have hsz:its.toArray.size<=sizeLine:=by rw [List.size_toArray];omega
 generalize hki:(k:Int)=i at hfit ⊢;refine call_meets F.slot_list_insert ⟨_,e,rfl⟩ F.entry_list_insert (F.args_list_insert_3 _ _ _) (AutoSeq1.list_insert_list_int_val_1 l its.toArray n i t u2 hfit hsz) ⟨e,?_⟩;subst hki;refine ⟨.non,_,I.lset (its':=its.take k++u2::its.drop k) hH e ?_ ((zkX k r).append (.cons r2 (zkY k r))) ?_,rfl,q⟩
 ·have e2:(if (k:Int)<0 then ((k:Int)+(its.toArray.size:Int)).toNat else min (k:Int).toNat its.toArray.size)=k:=by
   rw [if_neg (by omega),List.size_toArray,Int.toNat_natCast];omega
  show (its.toArray.extract 0 (if (k:Int)<0 then ((k:Int)+(its.toArray.size:Int)).toNat else min (k:Int).toNat its.toArray.size)).push u2++its.toArray.extract (if (k:Int)<0 then ((k:Int)+(its.toArray.size:Int)).toNat else min (k:Int).toNat its.toArray.size)=_;rw [e2];exact ztg its k u2
 ·rw [List.length_append,List.length_cons,List.length_take,List.length_drop];omega
end
theorem zgZ {α:Type}(d:α):∀ (xs:List α) (k m:Nat),k+m<=xs.length->(List.range' k m).map (fun i=>xs.getD i d)=(xs.drop k).take m
 |xs,k,0,_=>by simp
 |xs,k,m+1,h=>by
  rw [List.range'_succ,List.map_cons,zgZ d xs (k+1) m (by omega),List.getD_eq_getElem?_getD,List.getElem?_eq_getElem (by omega)];rw [List.drop_eq_getElem_cons (by omega:k<xs.length),List.take_succ_cons];rfl
theorem zmW {α:Type}(d:α)(xs:List α)(y:α){k:Nat}(h:k<=xs.length):pick d (xs++[y]) (List.range' 0 k++xs.length::List.range' k (xs.length - k))=xs.take k++y::xs.drop k:=by
 unfold pick;rw [List.map_append,List.map_cons,zgZ d _ 0 k (by simp;omega),zgZ d _ k _ (by simp;omega)];have e1:(xs++[y]).getD xs.length d=y:=by rw [List.getD_eq_getElem?_getD];simp
 rw [e1,List.drop_zero,List.take_append_of_le_length h,List.drop_append_of_le_length h,List.take_append_of_le_length (by simp)];rw [List.take_of_length_le (l:=xs.drop k) (by simp)]
section
variable {X:Cx}{e i1:Expr}{pos p apos cpos:Pos}{x:Str}
noncomputable def ztQ (i:Nat)(tk:VE)(t:VO):VS:=fun E st=>match st[i]? with
 |some (some (mi,.lst xs))=>tk st fun j=>(match j with
  | .int k=>(0<=k/\k<=xs.length)/\t st fun m d=>(match appM mi m d with
   |some m'=>m'≠ .sh/\xs.length<sizeLine/\E.nx (st.set i (some (m',.lst (xs.take k.toNat++d::xs.drop k.toNat))))
   |none=>False)
  |_=>False)
 |_=>False
theorem zut (i:Nat){t:VO}{tk:VE}(hk:SB X i1 tk)(he:SO X e t)(hN:X.N[i]? =some x:=by rfl)(hv:Vis X.env.scope x:=by first|exact Or.inl rfl|exact Or.inr (Or.inl rfl)|exact Or.inr (Or.inr rfl))(hd:(x==("__debug__":Str))=false:=by decide)
  (hcd:(x==("__classdict__":Str))=false:=by decide)(hs:swapsWith (.Call (.Attribute (.Name x p) "insert" apos) [i1,e] [] cpos) none pos.line X.env=pure false:=by rfl)
  (hbase:attributeBase (.Name x p) "insert" X.env (eval (.Name x p) X.env)=eval (.Name x p) X.env:=by rfl)
  (hfew:((backTo cpos (starEach [i1,e] X.env)).all (fun x=> !x.1)&&(backToKw cpos (keywordEach [] X.env)).all (fun x=>x.1.isSome)&&decide ([i1,e].length+([]:List Keyword).length+(if ([]:List Keyword).isEmpty then 0 else 1)<30))=true:=by rfl)
  (hline:(apos.endLine==cpos.line)=true:=by rfl)(hst:starEach [i1,e] X.env=(false,eval i1 X.env)::starEach [e] X.env:=by rfl)(hst2:starEach [e] X.env=(false,eval e X.env)::starEach [] X.env:=by rfl)(hpl:(backTo cpos (starEach [e] X.env)).any (·.1)=false:=by rfl):
  SS X (.Expr (.Call (.Attribute (.Name x p) "insert" apos) [i1,e] [] cpos) pos) (ztQ i tk t):=
 PS.wk (zgN (znT PySem.F.plainAttrs_list PySem.F.slot_list_insert PySem.F.type_list_insert zow (zdU hN hv hd hcd) (zcm hk (zcm he zfU hst2) hst) hbase hfew hline hst hpl) hs) fun De σ H zz=>by
 obtain ⟨F,st,E,ok,h,c⟩:=zz;unfold ztQ at h;split at h
 ·rename_i mi xs hi;obtain ⟨O,o⟩:=id ok;obtain ⟨w,hw,rw'⟩:=o.repL i mi _ hi;have rd:=rw'.read o.sub;unfold Rep at rd;obtain ⟨a,vs,rfl,hq,_⟩:=rd;refine ⟨.ref a,hw,.inl ⟨rfl,vs,hq⟩,F,st,_,ok,h,fun j hj jv H1 s1 rj=>?_⟩;split at hj
  ·rename_i k;have rj:jv= .int k:=rj;subst rj;obtain ⟨⟨hk0,hk1⟩,hj⟩:=hj;refine ⟨F,st,_,ok.same s1,hj,fun m d hd v H' F' os g r nd new=>?_⟩;split at hd
   ·rename_i m' hm;obtain ⟨a',vs',hw',q,hl,F2,s2,ok2⟩:=zjy none (ok.same s1) g hi hm r nd new;rw [hw] at hw';cases hw';have hli:=(List.getElem?_eq_some_iff.mp hi).1;obtain ⟨a2,vs2,hw2,q2,rr2,ok3⟩:=zmR (p:=List.range' 0 k.toNat++xs.length::List.range' k.toNat (xs.length - k.toNat)) ok2 (List.getElem?_set_self hli) hd.1 (by
     rw [List.nodup_append];refine ⟨List.nodup_range',List.nodup_cons.mpr ⟨fun z=>by have:=List.mem_range'_1.mp z;omega,List.nodup_range'⟩,fun y hy z hz=>?_⟩;have h1:=List.mem_range'_1.mp hy;rcases List.mem_cons.mp hz with rfl|hz
     ·omega
     ·have h2:=List.mem_range'_1.mp hz;omega) (by
     intro y hy;rw [List.length_append,List.length_singleton];rcases List.mem_append.mp hy with hy|hy
     ·have:=List.mem_range'_1.mp hy;omega
     ·rcases List.mem_cons.mp hy with rfl|hy
      ·omega
      ·have:=List.mem_range'_1.mp hy;omega)
    rw [hw] at hw2;cases hw2;rw [zaH] at q2;cases q2;rw [List.set_set,zqS,zmW _ _ _ (by omega),hl,zmW _ _ _ (by omega)] at ok3;have ek:k=((k.toNat:Nat):Int):=by omega
    exact ⟨a,vs',k.toNat,v,rfl,by rw [<-ek],q,by omega,by rw [<-hl];exact hd.2.1,c.nx F2 _ _ σ ⟨s2,fun x y z=>Tp.upd q x y (Tp.of (s1.trans g.same) x y z)⟩ ok3 hd.2.2⟩
   ·exact hd.elim
  ·exact hj.elim
 ·exact h.elim
end
section
variable {X:Cx}{pos:Pos}
theorem zpT {x:Str}{i:Int}(h:∃ t,X.mg x=some (.int i t))(hg:Gl X x:=by rfl)(hd:(x==("__debug__":Str))=false:=by decide):SB X (.Name x pos) (vC (.int i)):=by
 obtain ⟨t,hm⟩:=h;exact PE.wk (znD (v:=.int i) hg hm ⟨t,rfl⟩ hd) fun σ H Q ⟨F,st,Qd,ok,h,k⟩=>k _ h _ H (Same.refl H) rfl
end
section
variable {X:Cx}{a b:Expr}{pos p p2 pos2:Pos}{t:VAs}
end
section
variable {X:Cx}{a:Expr}{pos p p2 pos2:Pos}{t:VAs}
end
theorem zf7 (val:Nat->Int):∀ i,(firstMet val i).length=i↔((List.range i).map val).Nodup
 |0=>by rw [firstMet_zero];simp
 |i+1=>by
  have ih:=zf7 val i;have hle:=firstMet_length_le val i;have ha:=firstMet_any val i (val i);rw [firstMet_succ,List.range_succ,List.map_append,List.nodup_append];unfold step_dedup;constructor
  ·intro h;split at h
   ·omega
   ·rename_i hn;rw [List.length_append,List.length_singleton] at h;refine ⟨ih.mp (by omega),by simp,fun x hx y hy e=>?_⟩;have hy:y=val i:=by simpa using hy
    exact hn (by rw [ha];exact List.any_eq_true.mpr ⟨x,hx,by simp [e,hy]⟩)
  ·rintro ⟨h1,_,h3⟩;have hn:¬ (firstMet val i).any (· ==val i)=true:=by
    rw [ha];intro z;obtain ⟨x,hx,e⟩:=List.any_eq_true.mp z;exact h3 x hx (val i) (by simp) (by simpa using e)
   rw [if_neg hn,List.length_append,List.length_singleton,ih.mpr h1]
theorem ziP (is:List Int):(List.range is.length).map (fun i=>is.getD i 0)=is:=by
 apply List.ext_getElem?;intro k;rw [List.getElem?_map];by_cases h:k<is.length
 ·rw [List.getElem?_range h,List.getElem?_eq_getElem h];simp [List.getD_eq_getElem?_getD,h]
 ·rw [List.getElem?_eq_none (by simpa using h),List.getElem?_eq_none (by omega)];rfl
section
variable {X:Cx}{a:Expr}{pos p p2 pos2:Pos}{t:VAs}
noncomputable def zlY (t:VAs):VE:=fun st Q=>t st fun ds=>match ds with
 | [.lst xs]=>∃ is:List Int,xs=is.map D.int/\is.length<=1000/\∀ k:Nat,(k=is.length↔is.Nodup)->k<=is.length->Q (.int (k:Int))
 |_=>False
noncomputable def zrM (K:PySem.W.Frag)(ta:TA):TE:=fun σ H Q=>ta σ H fun vs H1=>∃ l,∃ is:List Int,vs=[.ref l]/\SqL K H1 l (is.map V.int)/\is.length<=1000/\∀ k:Nat,(k=is.length↔is.Nodup)->k<=is.length->Q (.int (k:Int)) H1
theorem zox {ta:TA}(hc:X.calm=true)(hml:X.mg "len"=none)(hmr:X.mg "set"=none)(ha:PA X [a] ta)(hgl:Gl X "len":=by rfl)(hgr:Gl X "set":=by rfl)(hs:starEach [a] X.env=[(false,eval a X.env)]:=by rfl)
  (he:starEach [.Call (.Name "set" p2) [a] [] pos2] X.env=(false,eval (.Call (.Name "set" p2) [a] [] pos2) X.env)::starEach [] X.env:=by rfl)(hpl:(backTo pos (starEach [] X.env)).any (·.1)=false:=by rfl):
  PE X (.Call (.Name "len" p) [.Call (.Name "set" p2) [a] [] pos2] [] pos) (zrM X.K ta):=by
 intro pins s σ H Q I h;refine wpAny_Call_Name_kw (ld_blt I hgl hml PySem.boot_len ?_ (by decide) (by decide));refine PyProof.Rows.callWith_builtin1 ?_ he hpl;rw [he];show wpAny _ _ (spliced ((false,eval (.Call (.Name "set" p2) [a] [] pos2) X.env)::backTo pos (starEach [] X.env))) _ _ s;refine Calls.spliced_cons ?_;refine Call_ (ld_blt I hgr hmr (by rfl) (PyProof.Rows.callWith_type1 (thn (ha pos2 pins s σ H _ I h) fun us s1 zz=>?_) hs rfl));obtain ⟨vs,H1,I1,r1,l,is,e,sq,hlen,q⟩:=zz;subst e;cases r1 with
 |cons r rr=>
  cases rr;cases r;obtain ⟨its,rv1,pl,_⟩:=I1.list sq;have hl:=zaC pl;have hi:=znb rv1;have hlen2:its.length=is.length:=IntsAre.length hi;refine call_set_list (items:=its.toArray) (ns:=is) (I.ok.hd hc) hl (by simpa using hi) (by rw [List.size_toArray];unfold scanBound;omega) fun h' tk hS hk=>?_;refine Calls.spliced_nil ?_;have hsz0:its.toArray.size=is.length:=by rw [List.size_toArray];exact hlen2
  rw [hsz0] at hS;obtain ⟨o,es,ep,tb,ho,hex,hd,_,_,hsz,hfit,hn⟩:=hS;have hfull:=zf7 (fun i=>is.getD i 0) is.length;rw [ziP] at hfull;have hle:=firstMet_length_le (fun i=>is.getD i 0) is.length;have I2:Inv X pins σ H1 {s1 with heap:=h',toks:=tk}:=I1.kept fun b o e=>hk b o (Heap.lt_size e) e;refine call_len_set ho hex hd hfit (by unfold scanBound at hsz;omega) ⟨.int (es.size:Int),H1,I2.kept (fun _ _ e=>e),⟨_,rfl⟩,?_⟩;exact q es.size (by rw [hn];exact hfull) (by rw [hn];exact hle)
theorem zoy (hc:X.calm=true)(hml:X.mg "len"=none)(hmr:X.mg "set"=none)(ha:SA X [a] t)(hgl:Gl X "len":=by rfl)(hgr:Gl X "set":=by rfl)(hs:starEach [a] X.env=[(false,eval a X.env)]:=by rfl)
  (he:starEach [.Call (.Name "set" p2) [a] [] pos2] X.env=(false,eval (.Call (.Name "set" p2) [a] [] pos2) X.env)::starEach [] X.env:=by rfl)(hpl:(backTo pos (starEach [] X.env)).any (·.1)=false:=by rfl):
  SB X (.Call (.Name "len" p) [.Call (.Name "set" p2) [a] [] pos2] [] pos) (zlY t):=PE.wk (zox hc hml hmr ha hgl hgr hs he hpl) fun σ H Q zz=>by
 obtain ⟨F,st,Qd,ok,h,k⟩:=zz;exact ⟨F,st,_,ok,h,fun ds hd vs H1 s1 r1=>by
   split at hd
   ·rename_i xs;obtain ⟨is,rfl,hlen,hd⟩:=hd;obtain ⟨v,rfl,r⟩:=zhv r1;unfold Rep at r;obtain ⟨l,ws,rfl,sq,rr⟩:=r;have e:=zf6 rr;subst e;exact ⟨l,is,rfl,sq,hlen,fun n h1 h2=>k _ (hd n h1 h2) _ H1 s1 (by unfold Rep;rfl)⟩
   ·exact hd.elim⟩
end
section
variable {X:Cx}
end
section
variable {X:Cx}{e:Expr}{pos p apos cpos:Pos}{x:Str}
end
noncomputable def zpU (c:VT)(e:VO)(st:LSt):List D->List D->(List D->Prop)->Prop
 | [],acc,Q=>Q acc
 |d::ds,acc,Q=>c (some (.sh,d)::st) fun b=>if b=true then e (some (.sh,d)::st) fun m y=>m= .ow/\zpU c e st ds (acc++[y]) Q else zpU c e st ds acc Q
noncomputable def zf8 (src:VAs)(c:VT)(e:VO):VO:=fun st Q=>src st fun ds=>ds.length<=sizeLine/\zpU c e (zeH st) ds [] fun acc=>Q .ow (.lst acc)
section
variable {X:Cx}{tg l a b c elt iter:Expr}{es ifs:List Expr}{pos p:Pos}
theorem zrN {src:VAs}{c:VT}{e:VO}{σ:St}{H:Hp}{Q:VK}(h:lO X.K (zf8 src c e) σ H Q):zpv (lI X.K src) 1 (ziL 0) (lT X.K c) (lO X.K e) σ H Q:=by
 obtain ⟨F,st,Qd,ok,h,k⟩:=h;refine ⟨F,st,_,ok,h,fun ds hd J H1 s1 yl=>?_⟩;have fF:∀ {H2:Hp} {x:Addr},Same H1 H2->H2 x=none->F x=none:=fun {H2 x} s2 e=>by
  cases z:F x with
  |none=>rfl
  |some o=>rw [s2 _ _ (s1 _ _ (ok.sub _ _ z))] at e;cases e
 refine ⟨fun i m ys H2=>∃ acc os,Same H1 H2/\RepDs X.K F H2 acc ys os/\os.Nodup/\(∀ x∈os,H x=none)/\acc.length<=i/\i<=ds.length/\m=ds.length - i/\zpU c e (zeH st) (ds.drop i) acc fun acc=>Qd .ow (.lst acc),⟨ds.length,[],[],Same.refl _,by unfold RepDs;exact ⟨rfl,rfl⟩,List.nodup_nil,by simp,Nat.le_refl _,Nat.zero_le _,rfl,hd.2⟩,?_⟩;rintro i m ys H2 ⟨acc,os,s2,ra,nd,new,la,hi,rfl,w⟩;obtain ⟨y1,y2,y3⟩:=yl H2 s2;have hys:ys.length<=sizeLine:=by rw [<-ra.len];exact Nat.le_trans la (Nat.le_trans hi hd.1)
 by_cases hlt:i<ds.length
 ·refine .inr ⟨y1 i hlt,hys,fun ys' H'=>∃ acc' os',Same H1 H'/\RepDs X.K F H' acc' ys' os'/\os'.Nodup/\(∀ x∈os',H x=none)/\acc'.length<=i+1/\zpU c e (zeH st) (ds.drop (i+1)) acc' fun acc=>Qd .ow (.lst acc),fun ys' H' ⟨acc',os',a1,a2,a3,a4,a5,a6⟩=>⟨_,by omega,acc',os',a1,a2,a3,a4,a5,hlt,rfl,a6⟩,fun x H3 yy=>?_⟩;obtain ⟨rfl,d,hdi,rd⟩:=y3 i x H3 hlt yy;have ed:ds.drop i=d::ds.drop (i+1):=by
   rw [List.drop_eq_getElem_cons hlt,(List.getElem?_eq_some_iff.mp hdi).2]
  rw [ed] at w;unfold zpU at w;refine ⟨⟨rfl,by show (some x::σ).length=1+σ.length;rw [List.length_cons,Nat.add_comm]⟩,?_⟩;have okb:∀ {H4:Hp},Same H3 H4->Ok X.K H4 H4 (some (.sh,d)::zeH st) (some x::σ):=fun {H4} s4=>by
   have o1:=(((ok.same (s1.trans (s2.trans s4))).view).none 1);have o2:=o1.put' (i:=0) (Gr.refl o1.sub) (m:=.sh) (d:=d) (v:=x) ⟨Rep.mono s4 (Tp.of s4) d x rd,rfl⟩ List.nodup_nil (by simp);exact o2
  have stay:∀ {H4:Hp},Same H3 H4->RepDs X.K F H4 acc ys os:=fun {H4} s4=>RepDs.stay (Tp.of s4) acc ys os ra fun x hx=>by
   obtain ⟨f,vs,q⟩:=RepDs.there acc ys os ra x hx;exact ⟨(s4 _ _ q).trans q.symm,f⟩
  refine ⟨_,_,_,okb (Same.refl _),w,fun bb hb H4 s4=>?_⟩;cases bb with
  |true=>
   rw [if_pos rfl] at hb ⊢;refine ⟨_,_,_,okb s4,hb,fun m y hy v H5 F' o1 g rv nd1 new1=>?_⟩;obtain ⟨rfl,hy⟩:=hy;have s5:=g.same;have rv:RepD X.K F' H5 y v o1:=rv;have rv2:RepD X.K F H5 y v o1:=RepD.stay (fun _ _ z=>z) y v o1 rv fun x hx=>⟨rfl,fF (s2.trans s4) (new1 x hx)⟩;refine ⟨acc++[y],os++o1,s2.trans (s4.trans s5),(stay (s4.trans s5)).append rv2,?_,?_,by rw [List.length_append,List.length_singleton];omega,hy⟩
   ·rw [List.nodup_append];refine ⟨nd,nd1,fun x hx z hz exz=>?_⟩;subst exz;obtain ⟨_,vs,q⟩:=RepDs.there acc ys os ra x hx;have:=new1 x hz;rw [s4 _ _ q] at this;cases this
   ·intro x hx;rcases List.mem_append.mp hx with hx|hx
    ·exact new x hx
    ·have:=new1 x hx;cases z:H x with
     |none=>rfl
     |some o=>rw [s4 _ _ (s2 _ _ (s1 _ _ z))] at this;cases this
  |false=>
   rw [if_neg Bool.false_ne_true] at hb ⊢;exact ⟨acc,os,s2.trans s4,stay s4,nd,new,by omega,hb⟩
 ·have e:i=ds.length:=by omega
  subst e;rw [List.drop_length] at w;refine .inl ⟨y2,hys,fun p hp=>?_⟩;have sp:=zbO (o:=.lst ys) hp;have hpo:p∉os:=fun z=>by
   obtain ⟨_,vs,q⟩:=RepDs.there acc ys os ra p z;rw [hp] at q;cases q
  refine k .ow (.lst acc) w (.ref p) _ F (p::os) (Gr.of ok.sub (s1.trans (s2.trans sp))) ?_ (List.nodup_cons.mpr ⟨hpo,nd⟩) fun x hx=>?_
  ·show RepD X.K F _ (.lst acc) (.ref p) (p::os);unfold RepD;refine ⟨p,ys,os,rfl,rfl,zaH,fF s2 hp,RepDs.stay (Tp.of sp) acc ys os ra fun x hx=>?_⟩;obtain ⟨f,vs,q⟩:=RepDs.there acc ys os ra x hx;exact ⟨(sp _ _ q).trans q.symm,f⟩
  ·rcases List.mem_cons.mp hx with rfl|hx
   ·cases z:H x with
    |none=>rfl
    |some o=>rw [s2 _ _ (s1 _ _ z)] at hp;cases hp
   ·exact new x hx
variable {y:Str}{py spos:Pos}{R:List Str}{scope:Scope}{src:VAs}{ct:VT}{ee:VO}
theorem zjK {i:Nat}{z:Str}{pz:Pos}(hc:X.calm=true)(hX:X.N.Nodup)(hNd:(y::R).Nodup)(hi:SI X (.Name y py) iter src)(ht:∀ fp L s H,SCl (cxC X (y::R) scope fp L s H) ifs ct)(he:∀ fp L s H,SO (cxC X (y::R) scope fp L s H) elt ee)
  (hz:X.N[i]? =some z:=by rfl)(hl:Loc X.env.scope z:=by first|exact Or.inl rfl|exact Or.inr rfl)
  (hch:zeJ R X.N scope.names X.env.scope.names=true:=by rfl)(hx:∀ fp L s H,Loc (cxC X (y::R) scope fp L s H).env.scope y:=by intros;first|exact Or.inl rfl|exact Or.inr rfl)
  (hf:∀ fp L s H,(cxC X (y::R) scope fp L s H).fn y=true\/(cxC X (y::R) scope fp L s H).env.scope.names.lookup y=some .local:=by intros;first|exact .inl rfl|exact .inr rfl)
  (hsw:swapsWith (.ListComp elt [⟨.Name y py,iter,ifs,0⟩] scope pos) (some (.Name z pz)) spos.line X.env=pure true:=by rfl)(hfz:X.fn z=true\/X.env.scope.names.lookup z=some .local:=by first|exact .inl rfl|exact .inr rfl)
  (hk:scope.kind= .function:=by rfl)(hs:∀ x,foldedSetIterable iter X.env x=pure x:=by intro _;rfl):SS X (.Assign [.Name z pz] (.ListComp elt [⟨.Name y py,iter,ifs,0⟩] scope pos) spos) (zbd i (zf8 src ct ee)):=
 PS.wk (zlK (N:=y::R) (tn:=[y]) (g:=ziL 0) (tc:=lT X.K ct) (te:=lO X.K ee) hc hX hz hl hi rfl hch (fun fp L s H=>zdM hNd rfl (hx fp L s H) (hf fp L s H)) ht he hsw hfz hk hs) fun De σ H ⟨F,st,E,ok,h,c⟩=>
  zrN (X:=X) ⟨F,st,_,ok,h,fun m d hd v H' F' os g r nd new=>c.nx F' H' _ _ (Fw.of (g.fsame ok.sub) g.same) (ok.put' g r nd new) hd⟩
end
section
variable {X:Cx}{tg l a b c elt iter:Expr}{es ifs:List Expr}{pos p:Pos}
variable {y z:Str}{py pz pt:Pos}{k1:Nat}{R:List Str}{scope:Scope}{src:VAs}{ct:VT}{ee:VE}
end
section
variable {prog:Program}{w:World}{A:Around}{E:Value->Shared->Prop}{s:Shared}
theorem zkZ {it t:Addr}{items:Array Value}(hne:t≠it):∀ (n i:Nat) (s:Shared) (Q:List Value->Shared->Prop),s.heap.IsListIter it t i->s.heap.IsList t items->i+n<=items.size->
  (∀ h',Heap.IsListIter h' it t (i+n)->Heap.SameBut it s.heap h'->Q ((items.toList.drop i).take n) {s with heap:=h'})->wpAny (model prog w) A (draw (.ref it) n) Q E s
 |0,i,s,Q,hit,_,_,hQ=>by
  show wpAny _ _ (pure []) Q E s
  exact wpAny_pure (by simpa using hQ s.heap hit (Heap.SameBut.refl ..))
 |n+1,i,s,Q,hit,ht,hle,hQ=>by
  have hlt:i<items.size:=by omega
  show wpAny _ _ (pyNext (.ref it) >>= _) Q E s
  refine wpAny_bind (wpAny_pyNext_list_item hit ht (x:=items[i]) (by simp [hlt]) fun h₁ hit₁ hs₁=>?_);refine wpAny_bind (wpAny_holding (zkZ hne n (i+1) _ _ hit₁ (ht.extBut hs₁.extBut hne) (by omega) fun h₂ hit₂ hs₂=>wpAny_pure ?_));have hd:items.toList.drop i=items[i]::items.toList.drop (i+1):=by simp [List.drop_eq_getElem_cons,hlt]
  have:=hQ h₂ (by rw [show i+(n+1)=i+1+n by omega];exact hit₂) (hs₁.trans hs₂);rw [hd,List.take_succ_cons] at this;exact this
theorem zhz {t:Addr}{items:Array Value}{Q:List Value->Shared->Prop}(hh:A.handled=none)(ht:s.heap.IsList t items)
  (hQ:∀ h',Heap.ExtBut s.heap.objs.size s.heap h'->Q items.toList {s with heap:=h'}):wpAny (model prog w) A (unpackItems (.ref t) items.size none) Q E s:=by
 have hlt:t≠s.heap.objs.size:=by obtain ⟨o,ho,_⟩:=ht;exact Nat.ne_of_lt (Heap.lt_size ho)
 unfold unpackItems;refine wpAny_bind ?_
 ·unfold notIterableAtAll;refine wpAny_bind (wpAny_specialOf ht.typeIs slot_list_iter.lookup ?_);refine wpAny_pure ?_;simp only [Bool.false_eq_true,if_false];refine wpAny_bind (wpAny_holding (wpAny_pyIter_list ht ?_));refine wpAny_bind (wpAny_holding (zkZ hlt items.size 0 _ _ ⟨_,Heap.get?_push_size _ rfl,rfl,rfl⟩ (ht.push _) (by omega) fun h₁ hit₁ hs₁=>?_));have hall:List.take items.size (List.drop 0 items.toList)=items.toList:=by
   rw [List.drop_zero];exact List.take_of_length_le (by simp)
  rw [hall];rw [if_neg (by simp)];have ht₁:h₁.IsList t items:=(ht.push _).extBut hs₁.extBut hlt;refine wpAny_bind (wpAny_holding (wpAny_pyNext_list_end hh hit₁ ht₁ (by simp) fun h₂ he₂=>?_));simp only [Option.isSome_none,Bool.false_eq_true,if_false];refine wpAny_pure (hQ h₂ fun b o hb e=>he₂ b o hb (hs₁.extBut b o hb (Heap.get?_push_of_some _ e)))
theorem zg0 {env:Env}{elts:List Expr}{x1}{pos:Pos}{t:Addr}{items:Array Value}{Q:Unit->Shared->Prop}(hh:A.handled=none)(ht:s.heap.IsList t items)
  (hn:(assignEach elts env).length=items.size)(hstar:(assignEach elts env).findIdx? (·.1)=none)
  (h:∀ h',Heap.ExtBut s.heap.objs.size s.heap h'->wpAny (model prog w) A (assignInOrder ((assignEach elts env).map (·.2)) items.toList) Q E {s with heap:=h'}):
  wpAny (model prog w) A (assign (.Tuple elts x1 pos) env (.ref t)) Q E s:=by
 rw [assign_Tuple];refine wpAny_bind (wpAny_standAt ?_);unfold unpack;rw [hn,hstar];exact wpAny_bind (wpAny_holding (zhz hh ht h))
end
section
variable {X:Cx}{e:Expr}{pos:Pos}
noncomputable def zva (K:PySem.W.Frag)(n:Nat)(t:TGs):TG:=fun v σ H Q=>∃ a xs,v= .ref a/\SqL K H a xs/\xs.length=n/\t xs σ H Q
theorem zth {es:List Expr}{k:Nat}{t:TGs}{n:Nat}(hc:X.calm=true)(h:PGs X es t)
  (hn:(assignEach es X.env).length=n:=by rfl)(hst:(assignEach es X.env).findIdx? (·.1)=none:=by rfl):PG X (.Tuple es k pos) (zva X.K n t):=by
 intro pins s σ H v u Q I r hw;obtain ⟨a,xs,e1,hq,hl,hw⟩:=hw;subst e1;cases r;obtain ⟨its,rv,pl,hz⟩:=I.list hq;refine zg0 (I.ok.hd hc) (zaC pl) (by simp [hn,<-hl,rv.length]) hst fun h' hx=>?_;have I1:Inv X pins σ H {s with heap:=h'}:=I.kept (t':=s.toks) fun b o e=>hx b o (Nat.ne_of_lt (Heap.lt_size e)) e;exact h pins _ σ H xs _ Q I1 (by simpa using rv) hw
end
section
variable {X:Cx}{e:Expr}{pos tpos p q:Pos}{x y:Str}
end
section
variable {X:Cx}
end
section
variable {X:Cx}{o e:Expr}{ta tb:VE}{apos cpos:Pos}
end
section
variable {X:Cx}{a:Expr}{pos p:Pos}{tt:VAs}
end
section
variable {X:Cx}
end
section
variable {X:Cx}{e:Expr}{pos p apos cpos:Pos}{x:Str}
end
section
variable {X:Cx}
end
section
variable {X:Cx}{e i1:Expr}{pos p p2:Pos}{x:Str}
end
open PySem.W (KasT kas_rev kas_asc kas_desc kas_tail3 kas_descPart kas_count kas_place kas_bin kas_sort)
section
variable {key:Nat->Int}{n:Nat}{p q:Array Nat}
end
section
variable {cmp:Nat->Nat->(Bool->Shared->Prop)->Shared->Prop}{s:Shared}{key:Nat->Int}{n:Nat}
end
open PySem.W (KasT kas_sort kas_ask kas_cmp kat_run kat_kind kat_lt KatTups kat_cons kat_nil kat_go kat_yes kat_no kat_one BoolBack kat_snds kas_item KatLex Looks)
section
variable {prog:Program}{w:World}{A:Around}{E:Value->Shared->Prop}{s:Shared}
end
section
variable {X:Cx}{pins:List (Addr×Obj)}{σ:St}{H:Hp}{s:Shared}
theorem zoz {K:PySem.W.Frag}{F H:Hp}{f:D}:∀ {ds:List D} {vs:List V} {i:Nat},Reps K F H ds vs->i<ds.length->Rep K F H (ds.getD i f) (vs.getD i .non)
 | [],vs,i,r,h=>by simp at h
 |d::ds,vs,i,r,h=>by
  unfold Reps at r;obtain ⟨v,ws,rfl,h1,h2⟩:=r;cases i with
  |zero=>exact h1
  |succ i=>exact (zoz (f:=f) (i:=i) h2 (by simpa using h):Rep K F H (ds.getD i f) (ws.getD i .non))
end
section
variable {X:Cx}{a:Expr}{pos p:Pos}{t:VAs}
end
section
variable {X:Cx}{e:Expr}{pos tpos p q:Pos}{x y:Str}
end
theorem zpV {α:Type}(d:α)(xs:List α):(List.range xs.length).map (fun k=>xs.getD k d)=xs:=by
 apply List.ext_getElem?;intro k;rw [List.getElem?_map];by_cases h:k<xs.length
 ·rw [List.getElem?_range h,List.getElem?_eq_getElem h];simp [List.getD_eq_getElem?_getD,h]
 ·rw [List.getElem?_eq_none (by simpa using h),List.getElem?_eq_none (by omega)];rfl
theorem zf9 {α β:Type}(f:α->β):∀ (l:List α) (n:Nat),(l.eraseIdx n).map f=(l.map f).eraseIdx n
 | [],n=>by simp
 |x::l,0=>rfl
 |x::l,n+1=>by
  rw [List.eraseIdx_cons_succ,List.map_cons,List.map_cons,List.eraseIdx_cons_succ,zf9 f l n]
theorem zjf {α:Type}(d:α)(xs:List α)(n:Nat):pick d xs ((List.range xs.length).eraseIdx n)=xs.eraseIdx n:=by
 unfold pick;rw [zf9,zpV]
section
variable {X:Cx}{i1:Expr}{pos p q apos cpos:Pos}{x y:Str}
noncomputable def zoA (i j:Nat)(tk:VE):VS:=fun E st=>match st[i]? with
 |some (some (mi,.lst xs))=>mi≠ .sh/\i≠j/\xs.length<=1000000/\tk st fun d=>(match d with
  | .int k=>(match ixN xs.length k with
   |some n=>(xs.getD n .non).flat=true/\E.nx ((st.set i (some (mi,.lst (xs.eraseIdx n)))).set j (some (.sh,xs.getD n .non)))
   |none=>False)
  |_=>False)
 |_=>False
theorem zqI (i j:Nat){tk:VE}(hNd:X.N.Nodup)(hk:SB X i1 tk)(hN:X.N[i]? =some x:=by rfl)(hv:Vis X.env.scope x:=by first|exact Or.inl rfl|exact Or.inr (Or.inl rfl)|exact Or.inr (Or.inr rfl))(hd:(x==("__debug__":Str))=false:=by decide)
  (hcd:(x==("__classdict__":Str))=false:=by decide)(hj:X.N[j]? =some y:=by rfl)(hx:Loc X.env.scope y:=by first|exact Or.inl rfl|exact Or.inr rfl)
  (hs:swapsWith (.Call (.Attribute (.Name x p) "pop" apos) [i1] [] cpos) (some (.Name y q)) pos.line X.env=pure false:=by rfl)(hf:X.fn y=true\/X.env.scope.names.lookup y=some .local:=by first|exact .inl rfl|exact .inr rfl)
  (hbase:attributeBase (.Name x p) "pop" X.env (eval (.Name x p) X.env)=eval (.Name x p) X.env:=by rfl)
  (hfew:((backTo cpos (starEach [i1] X.env)).all (fun x=> !x.1)&&(backToKw cpos (keywordEach [] X.env)).all (fun x=>x.1.isSome)&&decide ([i1].length+([]:List Keyword).length+(if ([]:List Keyword).isEmpty then 0 else 1)<30))=true:=by rfl)
  (hline:(apos.endLine==cpos.line)=true:=by rfl)(hst:starEach [i1] X.env=(false,eval i1 X.env)::starEach [] X.env:=by rfl)(hpl:(backTo cpos (starEach [] X.env)).any (·.1)=false:=by rfl):
  SS X (.Assign [.Name y q] (.Call (.Attribute (.Name x p) "pop" apos) [i1] [] cpos) pos) (zoA i j tk):=
 PS.wk (zqw hNd hj hx (znT PySem.F.plainAttrs_list PySem.F.slot_list_pop PySem.F.type_list_pop zpr (zdU hN hv hd hcd) (zcm hk zfU hst) hbase hfew hline hst hpl) hs hf) fun De σ H zz=>by
 obtain ⟨F,st,E,ok,h,c⟩:=zz;unfold zoA at h;split at h
 ·rename_i mi xs hi;obtain ⟨hm,hij,hbig,h⟩:=h;obtain ⟨O,o⟩:=id ok;obtain ⟨w,hw,rw'⟩:=o.repL i mi _ hi;have rd:=rw'.read o.sub;unfold Rep at rd;obtain ⟨a,vs0,rfl,hq,_⟩:=rd;refine ⟨.ref a,hw,.inl ⟨rfl,vs0,hq⟩,F,st,_,ok,h,fun d hd v H' s r=>?_⟩;split at hd
  ·rename_i k;have r:v= .int k:=r;subst r;split at hd
   ·rename_i n hn;obtain ⟨hfl,hd⟩:=hd;obtain ⟨h1,h2,h3,h4⟩:=zlJ hn;obtain ⟨a',vs,hw',q',rr,ok2⟩:=zmR (p:=(List.range xs.length).eraseIdx n) (ok.same s) hi hm (List.nodup_range.sublist (List.eraseIdx_sublist _ _)) (fun k hk=>List.mem_range.mp (List.mem_of_mem_eraseIdx hk));rw [hw] at hw';cases hw';have hlen:xs.length=vs.length:=rr.len;rw [zjf,hlen,zjf] at ok2;have rv:=zoz (f:=D.non) rr h2;have rv:Rep X.K F (upd H' a (.lst (vs.eraseIdx n))) (xs.getD n .non) (vs.getD n .non):=Rep.mono (Same.refl F) (fun y zs z=>Tp.upd q' y zs z) _ _ (Rep.flatF _ _ rv hfl);refine ⟨a,vs,k,n,vs.getD n .non,rfl,rfl,q',by omega,by omega,by rw [<-hlen];exact h1,?_,?_⟩
    ·rw [List.getD_eq_getElem?_getD,List.getElem?_eq_getElem (by omega)];rfl
    ·exact c.nx F _ _ _ ⟨Same.refl F,fun x y z=>Tp.upd q' x y (Tp.of s x y z)⟩ (ok2.put' (Gr.refl ok2.sub) (m:=.sh) (os:=[]) ⟨rv,rfl⟩ List.nodup_nil (fun b hb=>by cases hb)) hd
   ·exact hd.elim
  ·exact hd.elim
 ·exact h.elim
end
theorem zoB {K:PySem.W.Frag}{F H:Hp}{a:Addr}{vs:List V}(s:Same F H)(h:SqL K F a vs):SqL K H a vs:=by
 rcases h with (z|⟨o2,z⟩)|z
 ·exact .inl (.inl (s _ _ z))
 ·exact .inl (.inr ⟨o2,s _ _ z⟩)
 ·exact .inr z
theorem zuu {K:PySem.W.Frag}{F H:Hp}{x y z:D}{vs:List V}(r:Reps K F H [x,y,z] vs):∃ vx vy vz,vs=[vx,vy,vz]/\Rep K F H x vx/\Rep K F H y vy/\Rep K F H z vz:=by
 unfold Reps at r;obtain ⟨vx,r1,rfl,hx,r⟩:=r;obtain ⟨vy,vz,rfl,hy,hz⟩:=znf r;exact ⟨vx,vy,vz,rfl,hx,hy,hz⟩
noncomputable def zti (i j k:Nat):VG:=fun d st Q=>match d with
 | .lst [x,y,z]=>Q (((st.set i (some (.sh,x))).set j (some (.sh,y))).set k (some (.sh,z)))
 |_=>False
section
variable {X:Cx}{x y z:Str}{pos p q w:Pos}
theorem zmX {i j l:Nat}{k1}(hc:X.calm=true)(hN:X.N.Nodup)(hi:X.N[i]? =some x:=by rfl)(hj:X.N[j]? =some y:=by rfl)(hl:X.N[l]? =some z:=by rfl)(hx:Loc X.env.scope x:=by first|exact Or.inl rfl|exact Or.inr rfl)(hy:Loc X.env.scope y:=by first|exact Or.inl rfl|exact Or.inr rfl)(hz:Loc X.env.scope z:=by first|exact Or.inl rfl|exact Or.inr rfl)
  (hf:X.fn x=true\/X.env.scope.names.lookup x=some .local:=by first|exact .inl rfl|exact .inr rfl)(hf2:X.fn y=true\/X.env.scope.names.lookup y=some .local:=by first|exact .inl rfl|exact .inr rfl)(hf3:X.fn z=true\/X.env.scope.names.lookup z=some .local:=by first|exact .inl rfl|exact .inr rfl):SG X (.Tuple [.Name x p,.Name y q,.Name z w] k1 pos) (zti i j l):=
 PG.wk (zth hc (zfS (zdM hN hi hx hf) (zfS (zdM hN hj hy hf2) (zfS (zdM hN hl hz hf3) znF)))) fun v σ H Q zz=>by
  obtain ⟨F,st,d,Qd,ok,r,h,k⟩:=zz;unfold zti at h;split at h
  ·rename_i x y z;unfold Rep at r;obtain ⟨a,vs,rfl,hq,r⟩:=r;obtain ⟨vx,vy,vz,rfl,rx,ry,rz⟩:=zuu r;have ok2:=ok.put' (i:=i) (Gr.refl ok.sub) (m:=.sh) ⟨rx,rfl⟩ List.nodup_nil (by simp);have ok3:=ok2.put' (i:=j) (Gr.refl ok.sub) (m:=.sh) ⟨ry,rfl⟩ List.nodup_nil (by simp);have ok4:=ok3.put' (i:=l) (Gr.refl ok.sub) (m:=.sh) ⟨rz,rfl⟩ List.nodup_nil (by simp);exact ⟨a,_,rfl,zoB ok.sub hq,rfl,vx,[vy,vz],rfl,vy,[vz],rfl,vz,[],rfl,rfl,k _ _ ok4 h⟩
  ·exact h.elim
end
section
variable {X:Cx}{e:Expr}{pos tpos p q w:Pos}{x y z:Str}
end
section
variable {P:Program}{w:World}{K:PySem.W.Frag}{mg:Str->Option Value}{base:Heap}
end
section
variable {X:Cx}{es:List Expr}{t:VAs}{x x1:Str}{p p1 p2 pos pos2:Pos}{k:Nat}
end
section
variable {X:Cx}{ea eb i1:Expr}{pos lp p:Pos}{x:Str}{ta tb:VAs}{tk:VE}
noncomputable def zoC (ta tb:VAs)(tk:VE):VO:=fun st Q=>ta st fun ds=>flats ds=true/\tb st fun es=>flats es=true/\tk st fun j=>match j with
 | .int k=>(k=0/\Q .ow (.lst ds))\/(k=1/\Q .ow (.lst es))
 |_=>False
theorem zpW (ha:SN X ea ta)(hb:SN X eb tb)(hk:SB X i1 tk)(hst:starEach [ea,eb] X.env=(false,eval ea X.env)::starEach [eb] X.env:=by rfl)(hst2:starEach [eb] X.env=(false,eval eb X.env)::starEach [] X.env:=by rfl)
  (hs:zgO i1:=by intro _ _;rfl):SO X (.Subscript (.List [ea,eb] lp) i1 pos) (zoC ta tb tk):=
 PE.wk (znS ix_list (znO (zcm ha (zcm hb zfU hst2) hst)) hk hs) fun σ H Q zz=>by
 obtain ⟨F,st,Qd,ok,h,k⟩:=zz;refine ⟨F,st,_,ok,h,fun ds hds vs H1 p1 s1 r1 f1=>?_⟩;obtain ⟨fl1,hds⟩:=hds;have u1:=zbO (o:=.lst vs) f1;have okA:=ok.same (s1.trans u1);refine ⟨F,st,_,okA,hds,fun es hes vs2 H2 p2 s2 r2 f2=>?_⟩;obtain ⟨fl2,hes⟩:=hes;have u2:=zbO (o:=.lst vs2) f2;have okB:=okA.same (s2.trans u2);refine ⟨by show 2<=sizeLine;decide,fun p3 f3=>?_⟩;have u3:=zbO (o:=.lst [V.ref p1,V.ref p2]) f3;have okC:=okB.same u3;refine ⟨F,st,_,okC,hes,fun j hj jv H3 s3 rj=>?_⟩;have all:Same H H3:=(((((s1.trans u1).trans s2).trans u2).trans u3).trans s3);have a1:H3 p1=some (.lst vs):=s3 _ _ (u3 _ _ (u2 _ _ (s2 _ _ zaH)));have a2:H3 p2=some (.lst vs2):=s3 _ _ (u3 _ _ zaH);have a3:H3 p3=some (.lst [V.ref p1,V.ref p2]):=s3 _ _ zaH;have n1:H p1=none:=s1.free f1;have n2:H p2=none:=(s1.trans u1).free (s2.free f2);have Fn:∀ q,H q=none->F q=none:=fun q hq=>by
  cases e:F q with
  |none=>rfl
  |some u=>have:=ok.sub q u e;rw [hq] at this;cases this
 split at hj
 ·rename_i i;have rj:jv= .int i:=rj;subst rj;rcases hj with ⟨rfl,hq⟩|⟨rfl,hq⟩
  ·refine ⟨p3,[V.ref p1,V.ref p2],0,.ref p1,rfl,rfl,SqL.of a3,rfl,?_⟩;have rr:Reps X.K H3 H3 ds vs:=Reps.mono ((((u1.trans s2).trans u2).trans u3).trans s3) (Tp.of ((((u1.trans s2).trans u2).trans u3).trans s3)) _ _ r1;refine k _ _ hq _ _ F [p1] (Gr.of ok.sub all) ?_ (by simp) fun b hb=>by rw [List.mem_singleton] at hb;subst hb;exact n1
   show RepD X.K F H3 (.lst ds) (.ref p1) [p1]
   unfold RepD;exact ⟨p1,vs,[],rfl,rfl,a1,Fn _ n1,Reps.own ds vs rr fl1⟩
  ·refine ⟨p3,[V.ref p1,V.ref p2],1,.ref p2,rfl,rfl,SqL.of a3,rfl,?_⟩;have rr:Reps X.K H3 H3 es vs2:=Reps.mono ((u2.trans u3).trans s3) (Tp.of ((u2.trans u3).trans s3)) _ _ r2;refine k _ _ hq _ _ F [p2] (Gr.of ok.sub all) ?_ (by simp) fun b hb=>by rw [List.mem_singleton] at hb;subst hb;exact n2
   show RepD X.K F H3 (.lst es) (.ref p2) [p2]
   unfold RepD;exact ⟨p2,vs2,[],rfl,rfl,a2,Fn _ n2,Reps.own es vs2 rr fl2⟩
 ·exact hj.elim
noncomputable def zsl (i:Nat)(tk:VE):VO:=fun st Q=>match st[i]? with
 |some (some (m,.lst xs))=>(m= .sh\/m= .o1)/\tk st fun j=>(match j with
  | .int k=>(match atI xs k with
   |some d=>Q .sh d
   |none=>False)
  |_=>False)
 |_=>False
theorem zpX {K:PySem.W.Frag}{F H:Hp}{xs:List D}{vs:List V}{k:Int}{d:D}(r:Reps K F H xs vs)(h:atI xs k=some d):∃ v,atI vs k=some v/\Rep K F H d v:=by
 have hl:=r.len;unfold atI at h ⊢;rw [<-hl];cases z:ixN xs.length k with
 |none=>rw [z] at h;cases h
 |some n=>
  rw [z] at h;obtain ⟨v,hv,rv⟩:=r.at' (show xs[n]? =some d from h);exact ⟨v,hv,rv⟩
theorem zoD (i:Nat)(hk:SB X i1 tk)(hN:X.N[i]? =some x:=by rfl)(hv:Vis X.env.scope x:=by first|exact Or.inl rfl|exact Or.inr (Or.inl rfl)|exact Or.inr (Or.inr rfl))(hd:(x==("__debug__":Str))=false:=by decide)
  (hcd:(x==("__classdict__":Str))=false:=by decide)(hs:zgO i1:=by intro _ _;rfl):SO X (.Subscript (.Name x p) i1 pos) (zsl i tk):=
 PE.wk (znS ix_list (zdU hN hv hd hcd) hk hs) fun σ H Q zz=>by
 obtain ⟨F,st,Qd,ok,h,k⟩:=zz;unfold zsl at h;split at h
 ·rename_i m xs hi;obtain ⟨hm,h⟩:=h;obtain ⟨O,o⟩:=id ok;obtain ⟨w,hw,rw'⟩:=o.repM i _ _ hi;obtain ⟨a,vs,rfl,hq,rr⟩:∃ a vs,w= .ref a/\SqL X.K H a vs/\Reps X.K F H xs vs:=by
   rcases hm with rfl|rfl
   ·have r:=rw'.1;unfold Rep at r;obtain ⟨a,vs,rfl,hq,rr⟩:=r;exact ⟨a,vs,rfl,zoB o.sub hq,rr⟩
   ·obtain ⟨xs',a,vs,ex,rfl,eO,q,f,rr⟩:=rw';cases ex;exact ⟨a,vs,rfl,SqL.of q,rr⟩
  refine ⟨.ref a,hw,F,st,_,ok,h,fun j hj jv H' s rj=>?_⟩;split at hj
  ·rename_i kk;have rj:jv= .int kk:=rj;subst rj;split at hj
   ·rename_i d hd;obtain ⟨v,hv,rv⟩:=zpX rr hd;have hq':SqL X.K H' a vs:=zoB s hq;exact ⟨a,vs,kk,v,rfl,rfl,hq',hv,k _ _ hj v H' F [] (Gr.of ok.sub s) ⟨Rep.mono (Same.refl F) (Tp.of s) _ _ rv,rfl⟩ List.nodup_nil (by simp)⟩
   ·exact hj.elim
  ·exact hj.elim
 ·exact h.elim
end
section
variable {K:PySem.W.Frag}{F H:Hp}{st:LSt}{σ:St}
theorem zpY (ok:Ok K F H st σ){i:Nat}{xs:List D}(hi:st[i]? =some (some (.ow,.lst xs))):∃ F',Same F F'/\Ok K F' H (st.set i (some (.o1,.lst xs))) σ:=by
 obtain ⟨O,o⟩:=ok;obtain ⟨v,hv,r⟩:=o.repM i _ _ hi;have r:RepD K F H (.lst xs) v (O i):=r;unfold RepD at r;obtain ⟨a,vs,oi,rfl,eO,ha,fa,rr⟩:=r;have nd:=o.nd i;rw [eO,List.nodup_cons] at nd;let F':Hp:=fun b=>if b∈oi then H b else F b
 have hFF:Same F F':=fun b u e=>by
  show (if b∈oi then H b else F b)=some u
  by_cases hb:b∈oi
  ·rw [if_pos hb];exact o.sub b u e
  ·rw [if_neg hb];exact e
 have sub:Same F' H:=fun b u e=>by
  have e:(if b∈oi then H b else F b)=some u:=e;by_cases hb:b∈oi
  ·rw [if_pos hb] at e;exact e
  ·rw [if_neg hb] at e;exact o.sub b u e
 have o1:=(o.drop i).stay (Tp.of (Same.refl H)) hFF sub fun j b hb=>by
  have hb:b∈(if j=i then [] else O j):=hb;split at hb
  ·cases hb
  ·rename_i n;refine ⟨rfl,?_⟩;show (if b∈oi then H b else F b)=none
   rw [if_neg (fun z=>n (o.dj _ _ _ hb (by rw [eO];exact List.mem_cons_of_mem _ z)))];exact (o.there hb).1
 have hl:i<(st.set i none).length:=by rw [List.length_set];exact (List.getElem?_eq_some_iff.mp hi).1
 have o2:=o1.set (i:=i) (m:=.o1) (d:=.lst xs) (v:=.ref a) (os:=[a]) hl ⟨xs,a,vs,rfl,rfl,rfl,ha,(by show (if a∈oi then H a else F a)=none;rw [if_neg nd.1];exact fa),RepDs.give xs vs oi rr fun b hb=>if_pos hb⟩ (by simp) fun j n b hb hc=>by
  have hc:b∈(if j=i then [] else O j):=hc;rw [if_neg n] at hc;rw [List.mem_singleton] at hb;subst hb;exact n (o.dj _ _ _ hc (by rw [eO];exact List.mem_cons_self))
 rw [List.set_set,zhO hv] at o2;exact ⟨F',hFF,_,o2⟩
end
noncomputable def ztR (i:Nat)(t:VS):VS:=fun E st=>match st[i]? with
 |some (some (.ow,.lst xs))=>t E (st.set i (some (.o1,.lst xs)))
 |_=>False
section
variable {X:Cx}{s:Stmt}{t:VS}
theorem zuv (i:Nat)(h:SS X s t):SS X s (ztR i t):=PS.wk h fun De σ H zz=>by
 obtain ⟨F,st,E,ok,h,c⟩:=zz;unfold ztR at h;split at h
 ·rename_i xs hi;obtain ⟨F',hF,ok'⟩:=zpY ok hi;exact ⟨F',_,E,ok',h,c.up ⟨hF,fun _ _ z=>z⟩⟩
 ·exact h.elim
end
section
variable {X:Cx}{i1:Expr}{pos p apos cpos:Pos}{x:Str}
end
section
variable {X:Cx}{ea eb ec i1:Expr}{pos lp:Pos}{ta tb tc:VAs}{tk:VE}
end
section
variable {X:Cx}{i1:Expr}{pos p q apos cpos:Pos}{x y:Str}
end
section
variable {X:Cx}
end
section
variable {X:Cx}{e i1:Expr}{pos p apos cpos:Pos}{x:Str}
end
section
variable {X:Cx}{i1 i2:Expr}{pos p p2 apos cpos apos2 cpos2:Pos}{x:Str}
end
section
variable {X:Cx}{s:Stmt}{t:VS}
end
section
variable {X:Cx}{x y z:Str}{pos p q w:Pos}
end
end VL
namespace L2
open PySem PySem.Spec PyProof.Rows
section
variable {prog:Program}{w:World}{A:Around}{E:Value->Shared->Prop}{s:Shared}
end
section
variable {X:Cx}{a:Expr}{pos p p2 pos2:Pos}{tg:Expr}
end
end L2
namespace VL
open PySem PySem.Spec PyProof.Rows L2
section
variable {X:Cx}{a iter:Expr}{pos p p2 pos2:Pos}{t:VAs}{tb:VS}
end
end VL
namespace L2
open PySem PySem.Spec PyProof.Rows
variable {X:Cx}{a:Expr}{ta:TE}{pos:Pos}
noncomputable def zuJ (c neg:Bool)(ta:TE):TE:=fun σ H Q=>ta σ H fun x H1=>∃ b,x= .bl b/\Q (.bl (if neg then !decide (b=c) else decide (b=c))) H1
theorem zoE (b c:Bool):(Value.bool b==Value.bool c)=decide (b=c):=by cases b<;>cases c<;>decide
theorem ztj {j pos'}{c:Bool}(ha:PE X a ta):PC X .Is a (.Constant (.bool c) j pos') (zuJ c false ta):=by
 intro pins s σ H Q I h;refine thn (ha pins s σ H _ I h) fun v s1 zz=>?_;obtain ⟨x,H1,I1,r1,b,e,q1⟩:=zz;subst e;cases r1;refine Constant_bool (wpAny_is_plain rfl ⟨.bl _,H1,I1,?_,q1⟩);rw [zoE];rfl
end L2
namespace VL
open PySem PySem.Spec PyProof.Rows L2
variable {X:Cx}{a:Expr}{ta:VE}{pos:Pos}
noncomputable def zqJ (c neg:Bool)(ta:VE):VE:=fun st Q=>ta st fun d=>match d with
 | .bl b=>Q (.bl (if neg then !decide (b=c) else decide (b=c)))
 |_=>False
theorem ztk {c neg:Bool}{σ:St}{H:Hp}{Q:VK}(h:lB X.K (zqJ c neg ta) σ H Q):zuJ c neg (lB X.K ta) σ H Q:=by
 obtain ⟨F,st,Qd,ok,h,k⟩:=h;refine ⟨F,st,_,ok,h,fun d hd v H1 s1 r1=>?_⟩;cases d with
 |bl b=>
  have r1:v= .bl b:=r1;exact ⟨b,r1,k _ hd _ H1 s1 rfl⟩
 |_=>exact hd.elim
theorem zk0 {j p}{c:Bool}(ha:SB X a ta):SB X (.Compare a [.Is] [.Constant (.bool c) j p] pos) (zqJ c false ta):=PE.wk (zqs (ztj ha)) fun _ _ _ h=>ztk h
theorem RepDs.at' {K:PySem.W.Frag}{F H:Hp}:∀ (ds:List D) (vs:List V) (os:List Addr) (j:Nat) (d:D),RepDs K F H ds vs os->ds[j]? =some d->∃ v o,vs[j]? =some v/\RepD K F H d v o/\o.Sublist os
 | [],_,_,_,_,_,e=>by cases e
 |x::ds,vs,os,j,d,r,e=>by
  unfold RepDs at r;obtain ⟨v,vs',o1,o2,rfl,rfl,r1,r2⟩:=r;cases j with
  |zero=>
   have e:x=d:=Option.some.inj e;subst e;exact ⟨v,o1,rfl,r1,List.sublist_append_left o1 o2⟩
  |succ j=>
   obtain ⟨w,o,h1,h2,h3⟩:=RepDs.at' ds vs' o2 j d r2 e;exact ⟨w,o,h1,h2,h3.trans (List.sublist_append_right o1 o2)⟩
section
variable {X:Cx}{a:Expr}{pos p:Pos}
end
end VL
namespace L2
open PySem PySem.Spec PyProof.Rows
end L2
namespace L2
open PySem PySem.Spec PyProof.Rows
noncomputable def Cx.in1 (X:Cx):Cx:={X with A:=X.A.in1,xe:=fun _ _=>False}
theorem Inv.in1 {X:Cx}{pins:List (Addr×Obj)}{σ:St}{H:Hp}{s:Shared}(I:Inv X pins σ H s):Inv X.in1 pins σ H s:=
 ⟨⟨I.ok.mod,I.ok.kind,I.ok.glob,I.ok.blt,I.ok.above,I.ok.inj,I.ok.has,I.ok.cab,I.ok.hd,I.ok.frames,I.ok.stk,I.ok.exf,I.ok.bs,I.ok.bsz,I.ok.noex,I.ok.exfs,I.ok.funs,I.ok.frf⟩,I.os,I.bare,I.base,I.loc,I.cell,I.free,I.freeC,I.pin,I.hok,I.len⟩
section
variable {X:Cx}{e d:Expr}{pos p p1 kp1 kp2:Pos}{t:TA}{td:TE}{x:Str}{q:Addr}
end
end L2
namespace VL
open PySem PySem.Spec PyProof.Rows L2
section
variable {X:Cx}{e d:Expr}{pos p p1 kp1 kp2:Pos}{t:VAs}{td:VE}{x:Str}{k:Nat}{m:VF}
end
end VL
namespace L2
open PySem PySem.Spec PyProof.Rows
section
variable {X:Cx}{a b:Expr}{pos p:Pos}
end
end L2
namespace VL
open PySem PySem.Spec PyProof.Rows L2
section
variable {X:Cx}{a b:Expr}{pos p p2:Pos}{t:VAs}{tb:VS}
end
end VL
namespace L2
open PySem PySem.Spec PyProof.Rows
end L2
namespace L2
open PySem PySem.Spec PyProof.Rows
section
variable {X:Cx}{e1 e2:Expr}{pos p p1 kp1:Pos}{t:TA}{x:Str}{q:Addr}
end
end L2
namespace VL
open PySem PySem.Spec PyProof.Rows L2
section
variable {X:Cx}{e1 e2:Expr}{pos p p1 kp1:Pos}{t:VAs}{x:Str}{k:Nat}{m:VF}
end
section
variable {X:Cx}{a b:Expr}{pos p:Pos}{t:VAs}
end
section
variable {X:Cx}{tg l a b c elt iter:Expr}{es ifs:List Expr}{pos p:Pos}
variable {y z:Str}{py pz pt:Pos}{k1:Nat}{R:List Str}{scope:Scope}{src:VAs}{ct:VT}{ee:VE}
end
section
variable {X:Cx}
end
section
variable {X:Cx}{e:Expr}{pos p apos cpos:Pos}{x:Str}
end
section
variable {X:Cx}{elt iter:Expr}{ifs:List Expr}{pos spos:Pos}{y z:Str}{py pz pt:Pos}{k1:Nat}{R:List Str}{scope:Scope}{src:VAs}{ct:VT}{ee:VE}
end
section
variable {X:Cx}{tg l a b c elt iter:Expr}{es ifs:List Expr}{pos p:Pos}
variable {y:Str}{py spos:Pos}{R:List Str}{scope:Scope}{src:VAs}{ct:VT}{ee:VO}
end
theorem vVar_at {m:Md}{d:D}{i:Nat}{st:LSt}{Q:D->Prop}(hi:st[i]? =some (some (m,d)))(hm:zkD m=false)(h:Q d):zac i st Q:=by
 unfold zac;rw [hi];cases m<;>first|exact h|cases hm
noncomputable abbrev DKV:=List (List Int×FD)
noncomputable def fdD:FD->D
 | .non=>.non
 | .int i=>.int i
 | .tup is=>.tup (is.map .int)
noncomputable def zk1:List D->Option (List Int)
 | []=>some []
 | .int i::r=>(zk1 r).map (i:: ·)
 |_=>none
noncomputable def dFD:D->Option FD
 | .non=>some .non
 | .int i=>some (.int i)
 | .tup xs=>(zk1 xs).map .tup
 |_=>none
noncomputable def dAt (st:LSt)(i:Nat):Option (Bool×DKV):=match st[i]? with
 |some (some (.dw t k,_))=>some (t,k)
 |some (some (.ds t k,_))=>some (t,k)
 |_=>none
section
variable {K:PySem.W.Frag}{F H:Hp}{st:LSt}{σ:L2.St}
theorem Ok.dict (ok:Ok K F H st σ){i:Nat}{t:Bool}{kvs:DKV}(h:dAt st i=some (t,kvs)):∃ a,σ[i]? =some (some (.ref a))/\DIn K H H a t kvs:=by
 obtain ⟨O,o⟩:=ok;unfold dAt at h;split at h
 ·rename_i t' k' d e;have h:=Option.some.inj h;cases h;obtain ⟨v,e1,_,a,rfl,_,_,r⟩:=o.rep i _ _ e;exact ⟨a,e1,r⟩
 ·rename_i t' k' d e;have h:=Option.some.inj h;cases h;obtain ⟨v,e1,_,a,rfl,_,r⟩:=o.rep i _ _ e;exact ⟨a,e1,r.same o.sub (Tp.of (Same.refl H))⟩
 ·cases h
end
noncomputable def ngt:Bool->Bool->Bool
 |true,b=> !b
 |false,b=>b
section
variable {X:Cx}{k e v:Expr}{x:Str}{p pos:Pos}{tk tv:VE}{i j:Nat}
end
section
variable {X:Cx}{k e v:Expr}{x:Str}{p pos pos':Pos}{tk tv:VE}
end
section
variable {P:Program}{w:World}{K:PySem.W.Frag}{mg:Str->Option Value}{base:Heap}
end
end VL
namespace L2
open PySem PySem.Spec PyProof.Rows
section
variable {X:Cx}{pins:List (Addr×Obj)}{σ:St}{H:Hp}{s:Shared}{a:Addr}{ob:Obj}{u:HO}
theorem KV.at:∀ {kv:List (Key×V)} {vs:List (Key×Value)} {i:Nat} {p:Key×V},KV kv vs->kv[i]? =some p->∃ v,vs[i]? =some (p.1,v)
 |_,_,i,p,.nil,h=>by simp at h
 |_,_,0,p,.cons (a:=p') (b:=q') r t,h=>by
  have h:p'=p:=by simpa using h
  subst h;refine ⟨q'.2,?_⟩;rw [List.getElem?_cons_zero,show (p'.1,q'.2)=q' from by rw [r.1]]
 |_,_,i+1,p,.cons r t,h=>by
  obtain ⟨v,e⟩:=KV.at (i:=i) t (by simpa using h);exact ⟨v,by simpa using e⟩
end
section
variable {X:Cx}{tg:Expr}
end
end L2
namespace VL
open PySem PySem.Spec PyProof.Rows L2
section
variable {K:PySem.W.Frag}
end
section
variable {X:Cx}{elt:Expr}{ifs:List Expr}{x y:Str}{py px pos spos pz:Pos}{R:List Str}{scope:Scope}{ct:VT}{ee:VE}
end
noncomputable abbrev AM:=List (Md×D)
noncomputable abbrev VAm:=LSt->(AM->Prop)->Prop
section
variable {X:Cx}{e:Expr}{es:List Expr}{ta:VE}{t:VAm}{x:Str}{p:Pos}
end
noncomputable def zk2 (N:List Str)(as:AM):LSt:=as.map (fun a=>some a)++List.replicate (N.length - as.length) none
section
variable {P:Program}{w:World}{K:PySem.W.Frag}{mg:Str->Option Value}{base:Heap}
end
section
variable {X:Cx}{tg l a b c elt iter:Expr}{es ifs:List Expr}{pos p:Pos}
variable {y z:Str}{py pz pt:Pos}{k1:Nat}{R:List Str}{scope:Scope}{src:VAs}{ct:VT}{ee:VE}
end
section
variable {X:Cx}{a:Expr}{pos p:Pos}{tt:VAs}
end
end VL
namespace L2
open PySem PySem.Spec PyProof.Rows
end L2
namespace VL
open PySem PySem.Spec PyProof.Rows L2
noncomputable def zmY (H:Hp)(h:Heap):Hp:=fun b=>match h.get? b,H b with
 |some o,some (.lst xs)=>some (.frz o (.lst xs))
 |some o,some (.tup xs)=>some (.frz o (.tup xs))
 |some o,some (.frz _ (.lst xs))=>some (.frz o (.lst xs))
 |some o,some (.frz _ (.tup xs))=>some (.frz o (.tup xs))
 |_,_=>none
theorem zqK {H:Hp}{h:Heap}{b:Addr}{u:HO}(e:zmY H h b=some u):∃ o w,u= .frz o w/\h.get? b=some o/\Rd H b w/\((∃ xs,w= .lst xs)\/∃ xs,w= .tup xs):=by
 unfold zmY at e;split at e
 ·rename_i o xs h1 h2;cases e;exact ⟨o,_,rfl,h1,.inl h2,.inl ⟨xs,rfl⟩⟩
 ·rename_i o xs h1 h2;cases e;exact ⟨o,_,rfl,h1,.inl h2,.inr ⟨xs,rfl⟩⟩
 ·rename_i o o' xs h1 h2;cases e;exact ⟨o,_,rfl,h1,.inr ⟨o',h2⟩,.inl ⟨xs,rfl⟩⟩
 ·rename_i o o' xs h1 h2;cases e;exact ⟨o,_,rfl,h1,.inr ⟨o',h2⟩,.inr ⟨xs,rfl⟩⟩
 ·cases e
theorem zmZ {H:Hp}{h:Heap}{b:Addr}(e:H b=none):zmY H h b=none:=by
 cases q:zmY H h b with
 |none=>rfl
 |some u=>
  obtain ⟨o,w,_,_,r,_⟩:=zqK q;rcases r with r|⟨o',r⟩<;>rw [e] at r<;>cases r
theorem zrO {H:Hp}{h:Heap}{b:Addr}{o:Obj}{xs:List V}(e:h.get? b=some o)(r:Rd H b (.lst xs)):zmY H h b=some (.frz o (.lst xs)):=by
 unfold zmY;rcases r with r|⟨o',r⟩<;>rw [e,r]
theorem zrP {H:Hp}{h:Heap}{b:Addr}{o:Obj}{xs:List V}(e:h.get? b=some o)(r:Rd H b (.tup xs)):zmY H h b=some (.frz o (.tup xs)):=by
 unfold zmY;rcases r with r|⟨o',r⟩<;>rw [e,r]
section
variable {P:Program}{w:World}{K:PySem.W.Frag}{mg:Str->Option Value}{base:Heap}{H:Hp}{h:Heap}{a:Addr}{o:HO}
theorem ObjOk.is (x:ObjOk P w H h a o):∃ u,h.get? a=some u:=by
 cases o with
 |lst xs=>obtain ⟨_,_,_,_,e⟩:=x;exact ⟨_,e⟩
 |tup xs=>obtain ⟨_,_,_,o,e,_⟩:=x;exact ⟨_,e⟩
 |dK kvs=>obtain ⟨_,_,_,_,o,_,_,e,_⟩:=x;exact ⟨_,e⟩
 |dT kvs=>obtain ⟨_,_,_,_,o,_,_,e,_⟩:=x;exact ⟨_,e⟩
 |set S n=>obtain ⟨o,_,_,_,e,_⟩:=x;exact ⟨_,e⟩
 |ins C dx fs=>obtain ⟨_,_,_,e,_⟩:=x;exact ⟨_,e⟩
 |own y=>exact x
 |xd fs=>obtain ⟨_,⟨_,_,_,e,_⟩,_⟩:=x;exact ⟨_,e⟩
 |rng lo hi=>obtain ⟨_,_,_,e⟩:=x;exact ⟨_,e⟩
 |frz ob u=>obtain ⟨e,_⟩:=x;exact ⟨_,e⟩
 |tbl ps=>exact ⟨_,show h.get? a=some _ from x⟩
 |met f y=>exact ⟨_,show h.get? a=some _ from x⟩
 |ext φ=>obtain ⟨_,e,_⟩:=x;exact e
theorem HOk.frz (x:HOk P w H h):HOk P w (zmY H h) h:=fun b u e=>by
 obtain ⟨o,v,rfl,h1,r,k⟩:=zqK e;have q:=r.ok x;rcases k with ⟨xs,rfl⟩|⟨xs,rfl⟩
 ·exact ⟨h1,q⟩
 ·exact ⟨h1,q⟩
theorem Env0.frz {A:Around}{outer:List Env}{s:Shared}(e:Env0 P w K mg base A outer s H):Env0 P w K mg base A outer s (zmY H s.heap):=
 ⟨e.frames,e.mod,fun b o q=>⟨(e.bs b o q).1,zmZ (e.bs b o q).2⟩,e.bsz,e.funs,fun b hb=>zmZ (e.frf b hb),HOk.frz e.hok,e.bare⟩
end
section
variable {K:PySem.W.Frag}
mutual
theorem Rep.mapS {F F' H H':Hp}(hL:∀ a vs,SqL K F a vs->SqL K F' a vs)(hT:Tp K H H'):∀ (d:D) (v:V),Rep K F H d v->Rep K F' H' d v
 | .non,_,h=>h
 | .bl _,_,h=>h
 | .int _,_,h=>h
 | .str _,_,h=>h
 | .tup xs,v,h=>by
  unfold Rep at h ⊢;obtain ⟨a,vs,e,q,r⟩:=h;exact ⟨a,vs,e,hT a vs q,Reps.mapS hL hT xs vs r⟩
 | .lst xs,v,h=>by
  unfold Rep at h ⊢;obtain ⟨a,vs,e,q,r⟩:=h;exact ⟨a,vs,e,hL a vs q,Reps.mapS hL hT xs vs r⟩
theorem Reps.mapS {F F' H H':Hp}(hL:∀ a vs,SqL K F a vs->SqL K F' a vs)(hT:Tp K H H'):∀ (xs:List D) (vs:List V),Reps K F H xs vs->Reps K F' H' xs vs
 | [],_,h=>h
 |x::xs,vs,h=>by
  unfold Reps at h ⊢;obtain ⟨v,r,e,a,b⟩:=h;exact ⟨v,r,e,Rep.mapS hL hT x v a,Reps.mapS hL hT xs r b⟩
end
theorem zrQ {P:Program}{w:World}{H:Hp}{h:Heap}(x:HOk P w H h)(a:Addr)(vs:List V)(q:SqL K H a vs):SqL K (zmY H h) a vs:=by
 rcases q with q|q
 ·obtain ⟨o,e⟩:=ObjOk.is (q.ok x);exact .inl (.inr ⟨o,zrO e q⟩)
 ·exact .inr q
theorem zrR {P:Program}{w:World}{H:Hp}{h:Heap}(x:HOk P w H h)(a:Addr)(vs:List V)(q:SqT K H a vs):SqT K (zmY H h) a vs:=by
 rcases q with q|q
 ·obtain ⟨o,e⟩:=ObjOk.is (q.ok x);exact .inl (.inr ⟨o,zrP e q⟩)
 ·exact .inr q
theorem Reps.frz {P:Program}{w:World}{H:Hp}{h:Heap}(x:HOk P w H h){ds:List D}{vs:List V}(r:Reps K H H ds vs):Reps K (zmY H h) (zmY H h) ds vs:=
 Reps.mapS (zrQ x) (zrR x) ds vs r
end
section
variable {P:Program}{w:World}{K:PySem.W.Frag}{mg:Str->Option Value}{base:Heap}{N:List Str}{qual:Str}{scope:Scope}{f:Addr}{cd:Value}{A:Around}{outer:List Env}{s:Shared}{H:Hp}{E:XK}
end
noncomputable abbrev VX:=List D->(Addr->Prop)->(D->Prop)->Prop
section
variable {P:Program}{w:World}{K:PySem.W.Frag}{mg:Str->Option Value}{base:Heap}{outer:List Env}{s s':Shared}{H H2:Hp}
end
section
variable {X:Cx}{R:Addr->Prop}{e:Expr}{es:List Expr}{t:VAs}{x:Str}{p pos:Pos}{k:Nat}{m:VX}
end
section
variable {X:Cx}{R:Addr->Prop}{e:Expr}{t:VE}{x:Str}{C:Addr}{np cpos pos:Pos}
end
section
variable {prog:Program}{w:World}{A:Around}{E:Value->Shared->Prop}{h:Heap}{g:Array GenState}{d:Drawn}{t:Nat}{os:OsState}{a C:Addr}{K:PySem.W.Frag}
end
section
variable {K:PySem.W.Frag}{a C:Addr}
end
section
variable {X:Cx}{e:Expr}{es:List Expr}{i:Nat}{y c:Str}{p1 p2 p3 p4 p5:Pos}
end
section
variable {X:Cx}{pins pins2:List (Addr×Obj)}{σ:St}{H:Hp}{s:Shared}{E:Value->Shared->Prop}{e:Addr}
end
section
variable {X:Cx}{R:Addr->Prop}{body:List Stmt}{tb:TS}{i j:Nat}{xh n y:Str}{CH:Addr}{hp hpos pos p1 p2 p3:Pos}
end
noncomputable abbrev VJ:=LSt->Prop->Prop
section
variable {X:Cx}{e v1 v2:Expr}{parts:List Expr}{t:VJ}{te:VE}{x:Str}{k:Nat}{pos:Pos}
end
section
variable {X:Cx}{es:List Expr}{c:Str}{C:Addr}{cs:List Addr}{p:Pos}
theorem ztl:PA X [] (fun _ H Q=>Q (([]:List Addr).map V.ref) H):=PA.wk zfU fun _ _ _ h=>h
theorem ztm (hm:X.mg c=some (.ref C))(ha:PA X es (fun _ H Q=>Q (cs.map V.ref) H))(hg:Gl X c:=by rfl)(hdb:(c==("__debug__":Str))=false:=by decide)(he:starEach (.Name c p::es) X.env=(false,eval (.Name c p) X.env)::starEach es X.env:=by rfl):
  PA X (.Name c p::es) (fun _ H Q=>Q ((C::cs).map V.ref) H):=PA.wk (zcm (znD hg hm (v:=.ref C) rfl hdb) ha he) fun _ _ _ h=>h
end
section
variable {K:PySem.W.Frag}{C c CH:Addr}{t x:Value}{cs:List Value}{b:Bool}{cd:ClassData}
end
section
variable {P:Program}{w:World}{K:PySem.W.Frag}{mg:Str->Option Value}{base:Heap}
end
section
variable {X:Cx}{b:Expr}{tb:VE}{pos p:Pos}{x:Str}
end
structure Lt where
 tab:Addr
 pos:Pos
 qual:Str
section
variable {K:PySem.W.Frag}{T:Lt}{H H':Hp}
noncomputable def zlZ:LSt->Bool
 | []=>true
 |some (m,_)::r=> !zkD m&&zlZ r
 |none::r=>zlZ r
end
section
variable {X:Cx}{T:Lt}{H₀:Hp}{s:Stmt}{ss rest:List Stmt}{t u tb:VS}{c e:Expr}{pos p:Pos}
end
section
variable {P:Program}{w:World}{K:PySem.W.Frag}{mg:Str->Option Value}{base:Heap}{T:Lt}
end
section
variable {X:Cx}{T:Lt}{H₀:Hp}{e a:Expr}{es:List Expr}{t:VAs}{x y:Str}{p pos p1 p2:Pos}{k i:Nat}{m:VF}
end
section
variable {K:PySem.W.Frag}{F H F' H':Hp}{st:LSt}{σ:St}{tab c:Addr}
end
section
variable {X:Cx}{pins:List (Addr×Obj)}{σ:St}{H:Hp}{s:Shared}{E:Value->Shared->Prop}
end
section
variable {X:Cx}{T:Lt}{e:Expr}{params:Arguments}{body:Expr}{lscope:Scope}{lpos p p1 p2 p3 kp pos:Pos}{x yk ch y:Str}{c0 cell:Addr}{i j l k:Nat}{tb:VE}
end
open PySem PySem.Spec PyProof.Rows L2 PySem.W PySem.Calls Att
section
variable {prog:Program}{w:World}{A:Around}{E:Value->Shared->Prop}{s:Shared}{l:Addr}{xs:Array (Int×Tok)}
end
section
variable {X:Cx}{a:Expr}{pos p:Pos}{tt:VAs}
end
section
variable {X:Cx}{i1:Expr}{pos p apos cpos:Pos}{x:Str}
end
section
variable {P:Program}{w:World}{K:PySem.W.Frag}{mg:Str->Option Value}{base:Heap}{T:Lt}
end
section
variable {X:Cx}{x y:Str}{i1:Expr}{p q p2 pos:Pos}
end
end VL
namespace L2
open PySem PySem.Spec PyProof.Rows
section
variable {X:Cx}{pins:List (Addr×Obj)}{σ:St}{H:Hp}{s:Shared}{a:Addr}{o:HO}
end
section
variable {prog:Program}{w:World}{A:Around}{E:Value->Shared->Prop}{s:Shared}
end
section
variable {X:Cx}{pins:List (Addr×Obj)}{σ:St}{A:Around}{E:Value->Shared->Prop}{a kS q:Addr}{vs:List Value}{kz:List Int}{P:PySem.Fin->Shared->Prop}{HP:Hp->Prop}{e1:Nat}
end
section
variable {X:Cx}{pins:List (Addr×Obj)}{σ:St}{E:Value->Shared->Prop}{q r:Addr}{HP:Hp->Prop}
end
end L2
namespace VL
open PySem PySem.Spec PyProof.Rows L2
section
variable {X:Cx}{a:Expr}{p2 pos2:Pos}
end
section
variable {X:Cx}{T:Lt}{e a:Expr}{params:Arguments}{body:Expr}{lscope:Scope}{lpos p p1 p2 p3 p4 kp pos:Pos}{x yk y:Str}{c0 cell:Addr}{j l k:Nat}{tb:VE}{te:VAs}
end
noncomputable def ztn:D->Option (List Int)
 | .tup xs=>zk1 xs
 |_=>none
section
variable {K:PySem.W.Frag}{F H:Hp}{st:LSt}{σ:L2.St}
end
section
variable {X:Cx}{k e v:Expr}{x:Str}{p pos:Pos}{tk tv:VE}{i j:Nat}
end
section
variable {X:Cx}{k e v:Expr}{x y:Str}{p pos pos':Pos}{tk tv:VE}
end
section
variable {X:Cx}{x:Str}{p pos:Pos}{tb:VS}
end
section
variable {X:Cx}
end
section
variable {X:Cx}{o e:Expr}{ta tb:VE}{apos cpos:Pos}
end
section
variable {K:PySem.W.Frag}{F H:Hp}
end
section
variable {X:Cx}{x l:Str}{px pl p1 p2 ap1 ap2 cp1 cp2 pos1 pos:Pos}{e0:Expr}
end
end VL
namespace L2
open PySem PySem.Spec PyProof.Rows
section
variable {prog:Program}{w:World}{A:Around}{R:Result->Shared->Prop}{I:Addr}{fp wr:List Addr}{n:Nat}{P:Nat->Value->Prop}{St:Nat->Heap->Prop}{kw:List (Str×Value)}
end
section
variable {X:Cx}{e d:Expr}{pos p kp2:Pos}{t:TA}{td:TE}
end
end L2
namespace VL
open PySem PySem.Spec PyProof.Rows L2
section
variable {X:Cx}{e d:Expr}{pos p kp2:Pos}{t:VAs}{td:VE}
end
section
variable {X:Cx}{e:Expr}{pos:Pos}
end
section
variable {X:Cx}{T:Lt}{e a:Expr}{params:Arguments}{body:Expr}{lscope:Scope}{lpos p p1 p2 p3 p4 kp pos:Pos}{x yk y:Str}{c0 cell:Addr}{j l k:Nat}{tb:VE}{te:VAs}
end
section
variable {X:Cx}{T:Lt}{H₀:Hp}{e e' a:Expr}{es es':List Expr}{t t':VAs}{x y:Str}{p pos p1 p2 p3 p4:Pos}{k i:Nat}{m m':VF}
end
section
variable {X:Cx}{iter:Expr}{tb:VS}{pos:Pos}
end
section
variable {X:Cx}{elt iter:Expr}{ifs:List Expr}{pos spos:Pos}{y z:Str}{py pz pt:Pos}{k1:Nat}{R:List Str}{scope:Scope}{src:VAs}{ct:VT}{ee:VE}
end
noncomputable abbrev VJT:=LSt->(Str->Prop)->Prop
noncomputable def zoF:VJT:=fun _ Q=>Q Str.empty
noncomputable def zoG (x:Str)(t:VJT):VJT:=fun st Q=>t st fun y=>Q (x++y)
noncomputable def zoH (te:VE)(t:VJT):VJT:=fun st Q=>te st fun d=>∃ i,d= .int i/\i.natAbs.log2<1920/\t st fun y=>Q (Str.ofString (toString i)++y)
section
variable {X:Cx}{e v1 v2:Expr}{parts:List Expr}{t:VJT}{te:VE}{x:Str}{k:Nat}{pos:Pos}
end
section
variable {X:Cx}{a b e:Expr}{es:List Expr}{ta tb:VE}{t:VAs}{pos p:Pos}
end
section
variable {X:Cx}{o e:Expr}{es:List Expr}{ta tb:VE}{t:VAs}{apos cpos pos p:Pos}
open Builtin Builtin.Str in
end
section
variable {X:Cx}{tg l:Expr}{ta:VE}
end
section
variable {X:Cx}{a o e l:Expr}{parts:List Expr}{ta tb:VE}{pos p2 apos cpos:Pos}{tl tu:VP}{lo hi:Option Expr}
noncomputable def zto (te:VE)(t:VJ):VJ:=fun st Q=>te st fun d=>∃ x,d= .str x/\(reprText x).length<=2000/\t st Q
end
section
variable {X:Cx}{e:Expr}{te:TE}{x:Str}{p pos:Pos}
end
end VL
namespace L2
open PySem PySem.Spec PyProof.Rows VL
section
variable {prog:Program}{w:World}{A:Around}{R:Result->Shared->Prop}{s:Shared}
end
section
variable {X:Cx}{pins:List (Addr×Obj)}{σ:L2.St}{H:Hp}{s:Shared}
end
section
variable {X:Cx}{N R tn:List Str}{scope:Scope}{pos:Pos}{tg elt iter:Expr}{ifs:List Expr}{wi:TI}{g:TG}{tc:TT}{te:TE}{R0:Addr->Prop}
end
end L2
namespace VL
open PySem PySem.Spec PyProof.Rows L2
section
variable {X:Cx}{elt iter:Expr}{ifs:List Expr}{pos:Pos}{y:Str}{py:Pos}{R:List Str}{scope:Scope}{src:VAs}{ct:VT}{ee:VE}{R0:Addr->Prop}
end
section
variable {X:Cx}{ss:List Stmt}{t:TS}
end
open PySem.W (KasT kas_rev kas_cmp kas_item)
section
variable {prog:Program}{w:World}{A:Around}{E:Value->Shared->Prop}{s:Shared}{κ:SortKind}{it:Array Keyed}{key:Nat->Int}{n:Nat}{p:Array Nat}{P:Array (Nat×Nat×Nat)}{st:SortSt}
end
open PySem.W (KasT kas_rev kas_cmp kas_item)
section
variable {prog:Program}{w:World}{A:Around}{E:Value->Shared->Prop}{s:Shared}{κ:SortKind}{it:Array Keyed}{key:Nat->Int}{n:Nat}{p:Array Nat}{P:Array (Nat×Nat×Nat)}{st:SortSt}
end
open PySem.W (KasT kas_rev kas_cmp kas_item)
section
variable {le:Nat->Nat->Prop}{T o ra rb l:List Nat}
end
noncomputable def dr (x:Array Nat)(i:Nat):List Nat:=x.toList.drop i
noncomputable def tk (x:Array Nat)(i:Nat):List Nat:=(x.toList.take i).reverse
noncomputable def rs (it:Array Keyed)(o:List Nat):Array Keyed:=(o.map (kas_item it)).toArray
section
variable {it:Array Keyed}{o:List Nat}{x y:Array Nat}
end
open PySem.W (KasT kas_rev kas_cmp kas_item)
section
variable {prog:Program}{w:World}{A:Around}{E:Value->Shared->Prop}{s:Shared}{κ:SortKind}{it:Array Keyed}{key:Nat->Int}{n:Nat}{p:Array Nat}{P:Array (Nat×Nat×Nat)}{st:SortSt}{x y:Array Nat}
noncomputable abbrev up (key:Nat->Int)(u v:Nat):Prop:=key u<=key v
section
variable {o T':List Nat}{ia ib k:Nat}
end
end
open PySem.W (KasT kas_rev kas_cmp kas_item)
section
variable {prog:Program}{w:World}{A:Around}{E:Value->Shared->Prop}{s:Shared}{κ:SortKind}{it:Array Keyed}{key:Nat->Int}{n:Nat}{p:Array Nat}{P:Array (Nat×Nat×Nat)}{st:SortSt}{x y:Array Nat}
noncomputable abbrev dn (key:Nat->Int)(u v:Nat):Prop:=key v<=key u
section
variable {o T':List Nat}{na nb k:Nat}
end
end
open PySem.W (KasT kas_rev kas_cmp kas_item)
section
variable {prog:Program}{w:World}{A:Around}{E:Value->Shared->Prop}{s:Shared}{κ:SortKind}{it:Array Keyed}{key:Nat->Int}{n:Nat}{p:Array Nat}{P:Array (Nat×Nat×Nat)}{st:SortSt}
end
open PySem.W (KasT kas_rev kas_cmp kas_item)
section
variable {prog:Program}{w:World}{A:Around}{E:Value->Shared->Prop}{s:Shared}{κ:SortKind}{it:Array Keyed}{key:Nat->Int}{n:Nat}{p:Array Nat}{P:Array (Nat×Nat×Nat)}{st:SortSt}
end
open PySem.W (KasT kas_sort kas_ask kas_cmp kat_run kat_kind kat_lt KatTups kat_cons kat_nil kat_go kat_yes kat_no kat_one BoolBack kat_snds kas_item KatLex Looks)
section
variable {prog:Program}{w:World}{A:Around}{E:Value->Shared->Prop}{s:Shared}
end
section
variable {X:Cx}{pins:List (Addr×Obj)}{σ:St}{H:Hp}{s:Shared}
end
section
variable {X:Cx}{a:Expr}{pos p:Pos}{t:VAs}
end
noncomputable def zrS:LSt->Bool
 | []=>true
 |some (.sh,_)::r=>zrS r
 |some _::_=>false
 |none::r=>zrS r
section
variable {X:Cx}{T:Lt}{H₀:Hp}{e a b c:Expr}{es rest:List Expr}{t:VAs}{ta tb:VE}{sa sb:VT}{x y:Str}{p pos p1 p2:Pos}{k i:Nat}{m:VF}
end
theorem zpZ (a b:Expr)(q:Pos)(args:List Expr)(pos:Pos)(env:Env):eval (.Call (.Subscript a b q) args [] pos) env=(do
  callWith pos (<-eval (.Subscript a b q) env) [] (backTo pos (starEach args env)) (backToKw pos (keywordEach [] env))):=rfl
section
variable {X:Cx}{e ix:Expr}{es:List Expr}{t:VAs}{ti:VE}{x1 x2:Str}{p1 p2 lp sq pos:Pos}{k k2:Nat}{m m1 m2:VF}
noncomputable def zoI (m1 m2:VF)(ti:VE)(t:VAs):VO:=fun st Q=>ti st fun d=>match d with
 | .int i=>if i=0 then t st (fun ds=>m1 ds fun md d=>kpt md d/\Q md d) else i=1/\t st (fun ds=>m2 ds fun md d=>kpt md d/\Q md d)
 |_=>False
theorem zm0 {f:Addr}{fd:FuncData}{ps:List Str}{k:Nat}{pins:List (Addr×Obj)}{s:Shared}{σ:St}{F H H0:Hp}{st:LSt}{Qd:Md->D->Prop}{Q:VK}(Fn:FnOk X.prog X.w X.K X.mg X.base CX0 k f fd ps (spV X.K m))(hr:Room k X.A)(hk:PySem.W.keepIn X.K (.ref f)=true)(hb:Binds X.K fd ps [])
  (ha:SA X (e::es) t)(I:Inv X pins σ H s)(ok:Ok X.K F H0 st σ)(s0:Same H0 H)(h:t st (fun ds=>m ds fun md d=>kpt md d/\Qd md d))(kq:∀ m d,Qd m d->∀ v H' F' os,Gr F H0 F' H'->RepM X.K F' H' m d v os->os.Nodup->(∀ a∈os,H0 a=none)->Q v H')
  (he:starEach (e::es) X.env=(false,eval e X.env)::starEach es X.env)(hpl:(backTo pos (starEach es X.env)).any (·.1)=false):
  wpAny (model X.prog X.w) X.A (callWith pos (.ref f) [] (backTo pos (starEach (e::es) X.env)) (backToKw pos (keywordEach [] X.env))) (EP X pins σ Q) X.xe s:=by
 refine PySem.W.callWith_K (h₀:=X.base) I.ok.mod.kin hk (thn (ha pos pins s σ H _ I ⟨F,st,_,ok.same s0,h,fun ds hd vs H1 s1 r1=>(?_:spV X.K m (vs++[]) H1 Q E0)⟩) fun us s1 ⟨vs,H1,I1,r,q⟩=>⟨I1.kIn,?_⟩) he hpl
 ·rw [List.append_nil];refine ⟨ds,_,r1,hd,fun md d q v H' F' os g r nd new=>?_⟩;have s2:=s0.trans s1;have g2:Gr F H0 F H':=Gr.of ok.sub (s2.trans g.same);rcases q.1 with z|⟨z,fl⟩
  ·subst z;refine kq _ d q.2 v H' F os g2 (RepD.stay (Tp.of (Same.refl _)) d v os r fun a ha=>⟨rfl,?_⟩) nd fun a ha=>s2.free (new a ha);cases z:F a with
   |none=>rfl
   |some o=>
    have:=s2 _ _ (ok.sub _ _ z);rw [new a ha] at this;cases this
  ·subst z;exact kq _ d q.2 v H' F [] g2 ⟨Rep.flatF d v r.1 fl,rfl⟩ List.nodup_nil (by simp)
 ·exact zqy Fn hr hb .nil zps I1 r q
theorem zp0 (c1:Cal X.prog X.w X.K X.mg X.base k x1 m1)(c2:Cal X.prog X.w X.K X.mg X.base k2 x2 m2)(hr1:Room k X.A)(hr2:Room k2 X.A)(hi:SB X ix ti)(hs:zgO ix)(ha:SA X (e::es) t)(hg1:Gl X x1:=by rfl)(hg2:Gl X x2:=by rfl)
  (hd1:(x1==("__debug__":Str))=false:=by decide)(hd2:(x2==("__debug__":Str))=false:=by decide)(h1:starEach [.Name x1 p1,.Name x2 p2] X.env=(false,eval (.Name x1 p1) X.env)::starEach [.Name x2 p2] X.env:=by rfl)(h2:starEach [.Name x2 p2] X.env=(false,eval (.Name x2 p2) X.env)::starEach [] X.env:=by rfl)
  (he:starEach (e::es) X.env=(false,eval e X.env)::starEach es X.env:=by rfl)(hpl:(backTo pos (starEach es X.env)).any (·.1)=false:=by rfl):
  SO X (.Call (.Subscript (.List [.Name x1 p1,.Name x2 p2] lp) ix sq) (e::es) [] pos) (zoI m1 m2 ti t):=by
 obtain ⟨f1,fd1,ps1,F1,hm1,hk1,hb1⟩:=c1.ex;obtain ⟨f2,fd2,ps2,F2,hm2,hk2,hb2⟩:=c2.ex;intro pins s σ H Q I zz;obtain ⟨F,st,Qd,ok,h,k⟩:=zz;rw [zpZ];refine wpAny_bind ?_;refine thn (znS ix_list (znO (ztm hm1 (ztm hm2 ztl hg2 hd2 h2) hg1 hd1 h1)) hi hs pins s σ H (fun v H1=>Same H H1/\((v= .ref f1/\t st fun ds=>m1 ds fun md d=>kpt md d/\Qd md d)\/(v= .ref f2/\t st fun ds=>m2 ds fun md d=>kpt md d/\Qd md d))) I ?_) fun v s1 zz=>?_
 ·refine ⟨(show 2<=sizeLine by decide),fun p hp=>?_⟩;have s3:Same H (upd H p (.lst ([f1,f2].map V.ref))):=zbO hp;refine ⟨F,st,_,ok.same s3,h,fun d hd y H2 s2 r2=>?_⟩;cases d with
  |int i=>
   have r2:y= .int i:=r2;have hd:if i=0 then t st (fun ds=>m1 ds fun md d=>kpt md d/\Qd md d) else i=1/\t st (fun ds=>m2 ds fun md d=>kpt md d/\Qd md d):=hd
   have hq:SqL X.K H2 p [.ref f1,.ref f2]:=.inl (.inl (s2 _ _ zaH));by_cases z:i=0
   ·subst z;rw [if_pos rfl] at hd;exact ⟨p,_,0,.ref f1,rfl,r2,hq,rfl,s3.trans s2,.inl ⟨rfl,hd⟩⟩
   ·rw [if_neg z] at hd;obtain ⟨rfl,hd2⟩:=hd;exact ⟨p,_,1,.ref f2,rfl,r2,hq,rfl,s3.trans s2,.inr ⟨rfl,hd2⟩⟩
  |_=>exact hd.elim
 ·obtain ⟨x,H1,I1,r1,s01,q1⟩:=zz;rcases q1 with ⟨rfl,q⟩|⟨rfl,q⟩
  ·cases r1;exact zm0 F1 hr1 hk1 hb1 ha I1 ok s01 q k he hpl
  ·cases r1;exact zm0 F2 hr2 hk2 hb2 ha I1 ok s01 q k he hpl
end
end VL
namespace Z
open PySem PySem.Spec PyProof.Rows L2 VL
noncomputable def top (i:Nat):Stmt:=PySem.Challenge.pw_cotreehall_k45_whole_joins_carried_over.main.body.getD i (.Pass ⟨0,0,0,0⟩)
theorem zkj {n:Nat}(h:n<=1000): -(2 ^ 62)<=(n:Int)/\(n:Int)<2 ^ 62:=⟨by omega,by omega⟩
local macro_rules
 | `(tactic| simp! [$ts,*] $[$l:location]?) => `(tactic| simp only [zci, zdW, zan, zds, zgQ, vNotV, vBin, vUn, zac, vC, vI, vI2, zaz, zsj, zb4, zmD, zsY, vOr, zpA, vIf, zai, zaa, zdT, zbi, zrl, vCB, zaq, zaK, zbd, zat, zbD, ze7, zrt, vSl, vP, zrm, zqB, zki, zru, zdk, zb7, zb5, zjF, zkR, fEq, fNe, zbP, fIx, zn4, ziM, zng, zkK, zlF, zfz, zfZ, vFz, gV, gV2, zn7, zsi, zbQ, zqD, zeH, List.map_cons, List.map_nil, List.length_cons, List.length_nil, List.length_map, List.length_range, List.cons_append, List.nil_append, List.getElem?_cons_zero, List.getElem?_cons_succ, List.replicate, List.set_cons_zero, List.set_cons_succ, Nat.reduceAdd, Nat.reduceSub, Nat.reduceLeDiff, D.flat, flats, zqG, isI, zkN, zoe, zof, zea, zkQ, D.dep, Int.zero_add, Int.toNat_natCast, Bool.true_and, Bool.and_true, true_and, zur, zmH, zpJ, zrF, zmS, znW, zkW, zfl, zkV, zmU, zh0, zlW, ztQ, zlY, zf8, zoA, zti, zoC, zsl, ztR, zqJ, ngt, dAt, fdD, dFD, zk2, zlZ, ztn, zk1, Option.map_some, zoF, zoG, zoH, zto, zrS, zoI, $ts,*] $[$l:location]?)
noncomputable def inB (n:Nat)(x:Int):Bool:=decide (0<=x)&&decide (x<(n:Int))
noncomputable def zh7 (n:Nat)(is:List Int):Bool:=is.all (inB n)&&decide is.Nodup
theorem zsm (n:Nat)(xs:List Int)(x:Int):zh7 n (xs++[x])=(zh7 n xs&&(inB n x&&decide (x∉xs))):=by
 unfold zh7;rw [Bool.eq_iff_iff];simp only [List.all_append,List.all_cons,List.all_nil,Bool.and_true,Bool.and_eq_true,decide_eq_true_iff,List.nodup_append];constructor
 ·rintro ⟨⟨h1,h2⟩,h3,h4,h5⟩;exact ⟨⟨h1,h3⟩,h2,fun hx=>h5 x hx x (by simp) rfl⟩
 ·rintro ⟨⟨h1,h3⟩,h2,h4⟩;refine ⟨⟨h1,h2⟩,h3,by simp,fun y hy z hz e=>?_⟩;have:z=x:=by simpa using hz
  subst this e;exact h4 hy
theorem zjL {n:Nat}{x:Int}(h:inB n x=true):∃ a:Nat,x=(a:Int)/\a<n:=by
 unfold inB at h;rw [Bool.and_eq_true,decide_eq_true_iff,decide_eq_true_iff] at h;exact ⟨x.toNat,by omega,by omega⟩
theorem zni {n:Nat}{xs:List Int}(h:zh7 n xs=true):∃ ps:List Nat,xs=ps.map (fun p:Nat=>(p:Int))/\(∀ p∈ps,p<n)/\ps.Nodup:=by
 unfold zh7 at h;rw [Bool.and_eq_true,decide_eq_true_iff,List.all_eq_true] at h;refine ⟨xs.map Int.toNat,?_,?_,?_⟩
 ·rw [List.map_map];have:∀ x∈xs,((fun p:Nat=>(p:Int)) ∘ Int.toNat) x=x:=fun x hx=>by
   obtain ⟨a,rfl,_⟩:=zjL (h.1 x hx);rfl
  rw [List.map_congr_left this,List.map_id']
 ·intro p hp;obtain ⟨x,hx,rfl⟩:=List.mem_map.mp hp;obtain ⟨a,rfl,ha⟩:=zjL (h.1 x hx);exact ha
 ·refine List.pairwise_map.mpr (List.Pairwise.imp_of_mem ?_ h.2);intro a b ha hb hne e;obtain ⟨x,rfl,_⟩:=zjL (h.1 a ha);obtain ⟨y,rfl,_⟩:=zjL (h.1 b hb);simp only [Int.toNat_natCast] at e;exact hne (by rw [e])
noncomputable def zp1 (w v:List Nat):List Nat:=w++v.map fun s=>s * 2 ^ w.length
noncomputable def oth (M:Nat->Nat->Bool):Nat->Nat->Bool:=fun a b=>decide (a≠b)&& !M a b
theorem zga {M:Nat->Nat->Bool}(g:Good M):Good (oth M):=⟨fun a b=>by unfold oth;rw [g.sym a b,decide_eq_decide.mpr (⟨Ne.symm,Ne.symm⟩:a≠b↔b≠a)],fun a=>by unfold oth;simp⟩
theorem zrT {M:Nat->Nat->Bool}(g:Good M):oth (oth M)=M:=by
 funext a b;unfold oth;by_cases e:a=b
 ·subst e;simp [g.irr]
 ·simp [e]
theorem zl0 {n:Nat}{M M':Nat->Nat->Bool}(h:∀ a b,a<n->b<n->M a b=M' a b):webOf n M=webOf n M':=by
 unfold webOf;exact zaM fun a ha=>zjG fun b hb=>h a b ha hb
theorem zec {n:Nat}{M:Nat->Nat->Bool}:zcS (webOf n M)=webOf n (oth M):=by
 unfold zcS;rw [zau];refine zaM fun a ha=>?_;rw [web_get ha];apply Nat.eq_of_testBit_eq;intro p;rw [less_bit,all_bit,Nat.testBit_or,bm_bit,bm_bit,Nat.testBit_two_pow];unfold oth;by_cases hp:p<n
 ·by_cases hap:a=p
  ·simp [hp,hap]
  ·simp [hp,hap]
 ·simp [hp]
noncomputable def bes (n:Nat)(M1 M2:Nat->Nat->Bool):Nat->Nat->Bool:=fun a b=>if a<n then decide (b<n)&&M1 a b else decide (n<=b)&&M2 (a - n) (b - n)
theorem zqL (n:Nat)(M1 M2:Nat->Nat->Bool)(i j:Nat):bes n M1 M2 (n+i) (n+j)=M2 i j:=by
 unfold bes;rw [if_neg (by omega),decide_eq_true (by omega),Bool.true_and,Nat.add_sub_cancel_left,Nat.add_sub_cancel_left]
theorem zm1 {n:Nat}{M1 M2:Nat->Nat->Bool}(g1:Good M1)(g2:Good M2):Good (bes n M1 M2) where
 sym:=fun a b=>by
  unfold bes;by_cases ha:a<n<;>by_cases hb:b<n
  ·simp [ha,hb,g1.sym a b]
  ·simp [ha,hb,Nat.not_le.mpr ha]
  ·simp [ha,hb,Nat.not_le.mpr hb]
  ·simp [ha,hb,Nat.not_lt.mp ha,Nat.not_lt.mp hb,g2.sym (a - n) (b - n)]
 irr:=fun a=>by
  unfold bes;by_cases ha:a<n
  ·simp [ha,g1.irr]
  ·simp [ha,g2.irr]
theorem zk3 {n m:Nat}{M1 M2:Nat->Nat->Bool}:zp1 (webOf n M1) (webOf m M2)=webOf (n+m) (bes n M1 M2):=by
 unfold zp1;rw [zau];unfold webOf;rw [List.map_map];apply List.ext_getElem?;intro k;by_cases hk:k<n
 ·rw [List.getElem?_append_left (by simpa using hk),zdt _ hk,zdt _ (by omega)];congr 1;apply Nat.eq_of_testBit_eq;intro p;rw [bm_bit,bm_bit];unfold bes;rw [if_pos hk];by_cases hp:p<n
  ·simp [hp,Nat.lt_add_right m hp]
  ·simp [hp]
 ·rw [List.getElem?_append_right (by simpa using Nat.not_lt.mp hk),List.length_map,List.length_range];by_cases hk2:k<n+m
  ·rw [zdt _ (by omega),zdt _ hk2];congr 1;apply Nat.eq_of_testBit_eq;intro p;show (bm m (M2 (k - n)) * 2 ^ n).testBit p=_
   rw [<-Nat.shiftLeft_eq,Nat.testBit_shiftLeft,bm_bit,bm_bit];unfold bes;rw [if_neg hk];by_cases hp:n<=p
   ·have e:(p - n<m)↔(p<n+m):=by omega
    simp [hp,e]
   ·simp [hp]
  ·rw [List.getElem?_eq_none (by simp;omega),List.getElem?_eq_none (by simp;omega)]
noncomputable def pt (M:Nat->Nat->Bool)(ps:List Nat):Nat->Nat->Bool:=fun i j=>M (ps.getD i 0) (ps.getD j 0)
theorem zfm {α β:Type}(d:α)(f:α->β)(xs:List α):xs.map f=(List.range xs.length).map fun i=>f (xs.getD i d):=by
 apply List.ext_getElem?;intro k;rw [List.getElem?_map,List.getElem?_map];by_cases h:k<xs.length
 ·rw [List.getElem?_range h,List.getElem?_eq_getElem h];simp [List.getD_eq_getElem?_getD,h]
 ·rw [List.getElem?_eq_none (by omega),List.getElem?_eq_none (by simpa using h)];rfl
theorem zl1 {ps:List Nat}{n i:Nat}(h:∀ p∈ps,p<n)(hi:i<ps.length):ps.getD i 0<n:=by
 rw [List.getD_eq_getElem?_getD,List.getElem?_eq_getElem hi];exact h _ (List.getElem_mem hi)
theorem znj {n:Nat}{M:Nat->Nat->Bool}{ps:List Nat}(h:∀ p∈ps,p<n):zou (webOf n M) ps=webOf ps.length (pt M ps):=by
 unfold zou;rw [zfm 0];unfold webOf;refine zaM fun i hi=>?_;show zgY (webOf n M) ps (ps.getD i 0)=_
 unfold zgY;rw [web_get (zl1 h hi)];apply Nat.eq_of_testBit_eq;intro k;rw [setN_bit,bm_bit,Bool.eq_iff_iff,List.any_eq_true,Bool.and_eq_true,decide_eq_true_iff];constructor
 ·rintro ⟨q,hq,e⟩;obtain rfl:q=k:=of_decide_eq_true e;obtain ⟨h1,h2⟩:=List.mem_filter.mp hq;rw [bm_bit,Bool.and_eq_true] at h2;exact ⟨List.mem_range.mp h1,h2.2⟩
 ·rintro ⟨h1,h2⟩;exact ⟨k,List.mem_filter.mpr ⟨List.mem_range.mpr h1,by rw [bm_bit,decide_eq_true (zl1 h h1)];exact h2⟩,by simp⟩
theorem ties_mem {n:Nat}{M:Nat->Nat->Bool}{t:Nat×Nat}:t∈ziO (webOf n M)↔t.1<t.2/\t.2<n/\M t.1 t.2=true:=by
 unfold ziO tiesFrom;rw [zau,List.mem_flatMap];constructor
 ·rintro ⟨a,ha,h⟩;obtain ⟨b,hb,rfl⟩:=List.mem_map.mp h;obtain ⟨h1,h2⟩:=List.mem_filter.mp hb;rw [web_get (List.mem_range.mp ha),zkU] at h1;obtain ⟨h3,h4⟩:=List.mem_filter.mp h1;exact ⟨of_decide_eq_true h2,List.mem_range.mp h3,h4⟩
 ·rintro ⟨h1,h2,h3⟩;refine ⟨t.1,List.mem_range.mpr (by omega),List.mem_map.mpr ⟨t.2,List.mem_filter.mpr ⟨?_,decide_eq_true h1⟩,rfl⟩⟩;rw [web_get (by omega),zkU];exact List.mem_filter.mpr ⟨List.mem_range.mpr h2,h3⟩
theorem zjg {ps:List Nat}(h:ps.Nodup){i j:Nat}(hi:i<ps.length)(hj:j<ps.length)(hne:i≠j):ps.getD i 0≠ps.getD j 0:=by
 rw [List.getD_eq_getElem?_getD,List.getD_eq_getElem?_getD,List.getElem?_eq_getElem hi,List.getElem?_eq_getElem hj];intro e;exact hne ((List.getElem_inj h).mp e)
theorem zvb {is:List Int}(h:is.length=4):∃ a b c d,is=[a,b,c,d]:=by
 match is,h with
 | [a,b,c,d],_=>exact ⟨a,b,c,d,rfl⟩
theorem at4 (a b c d:D):atI [a,b,c,d] 0=some a/\atI [a,b,c,d] 1=some b/\atI [a,b,c,d] 2=some c/\atI [a,b,c,d] 3=some d:=⟨L2.zaW (j:=0) rfl,L2.zaW (j:=1) rfl,L2.zaW (j:=2) rfl,L2.zaW (j:=3) rfl⟩
theorem zp2 {n:Nat}{M:Nat->Nat->Bool}{a b:Nat}(ha:a<n)(hb:b<n):zrH ((webOf n M).getD a 0) (b:Int)=M a b:=by
 rw [zf5,web_get ha,bm_bit,decide_eq_true hb,Bool.true_and]
theorem deps_ints (xs:List Int):deps (xs.map D.int)<=0:=zf2 (fun _=>by simp [D.dep]) xs
theorem zh8 {is:List Int}{k:Nat}(h:k<is.length):atI (is.map D.int) (k:Int)=some (.int (is.getD k 0)):=by
 refine L2.zaW ?_;rw [List.getElem?_map,List.getD_eq_getElem?_getD,List.getElem?_eq_getElem h];rfl
theorem zrU (is:List Int)(x:Int):((is.map D.int).any fun z=>deq z (.int x))=decide (x∈is):=by
 rw [List.any_map,Bool.eq_iff_iff,List.any_eq_true,decide_eq_true_iff];constructor
 ·rintro ⟨q,hq,e⟩;have e:deq (.int q) (.int x)=true:=e;rw [zea,decide_eq_true_iff] at e;rw [<-e];exact hq
 ·intro h;exact ⟨x,h,by show deq (.int x) (.int x)=true;rw [zea];simp⟩
theorem zoJ {α:Type}(d:α){xs:List α}{k:Nat}(h:k<xs.length):xs.take (k+1)=xs.take k++[xs.getD k d]:=by
 rw [List.take_succ,List.getD_eq_getElem?_getD,List.getElem?_eq_getElem h];rfl
theorem zk4 (n:Nat):(List.replicate n [D.bl false]).flatten=(List.range n).map fun _=>D.bl false:=by
 induction n with
 |zero=>rfl
 |succ n ih=>rw [List.replicate_succ',List.flatten_append,ih,List.range_succ,List.map_append];rfl
theorem ztp {m:Md}{i j:Nat}{ss:List Nat}{t:VE}{st:LSt}(hi:st[i]? =some (some (m,zaF ss)))(h1:∀ Q:D->Prop,Q (natD j)->t st Q)(hj:j<ss.length)(hm:zkD m=false:=by rfl):∀ Q:D->Prop,Q (natD (ss.getD j 0))->(vBin fIx (zac i) t) st Q:=by
 intro Q h;simp only [vBin];refine vVar_at hi hm (h1 _ ?_);simp only [fIx];rw [web_at hj];exact h
theorem zbe {m:Md}{i:Nat}{d:D}{st:LSt}(hi:st[i]? =some (some (m,d)))(hm:zkD m=false:=by rfl):∀ Q:D->Prop,Q d->(zac i) st Q:=fun Q h=>vVar_at hi hm h
theorem zh9 {m:Md}{i n a b:Nat}{M:Nat->Nat->Bool}{t1 t2:VE}{st:LSt}(hi:st[i]? =some (some (m,zcj n M)))(h1:∀ Q:D->Prop,Q (natD a)->t1 st Q)(h2:∀ Q:D->Prop,Q (natD b)->t2 st Q)(ha:a<n)(hb:b<n)(hm:zkD m=false:=by rfl):∀ Q:D->Prop,Q (.bl (M a b))->(vBin fIx (vBin fIx (zac i) t1) t2) st Q:=by
 intro Q h;simp only [vBin];refine vVar_at hi hm (h1 _ ?_);simp only [fIx,zcj];rw [zjJ ha];refine h2 _ ?_;simp only [zhQ];rw [zoq hb];exact h
theorem ztq {i n a b:Nat}{M:Nat->Nat->Bool}{t t1 t2:VE}{E:VEnds}{st:LSt}(hi:st[i]? =some (some (.ow,zcj n M)))(ht:∀ Q:D->Prop,(∀ v:Bool,Q (.bl v))->t st Q)(h1:∀ Q:D->Prop,Q (natD a)->t1 st Q)(h2:∀ Q:D->Prop,Q (natD b)->t2 st Q)(ha:a<n)(hb:b<n)(h:∀ v,E.nx (st.set i (some (.ow,zcj n (ziN M a b v))))):zaG i t t1 t2 E st:=by
 unfold zaG;rw [hi];refine ⟨rfl,ht _ fun v=>h1 _ ?_⟩;simp only;rw [ze9,ixN_nat ha];simp only;rw [zh3 ha];simp only [zhQ];refine h2 _ ?_;simp only [List.length_map,List.length_range];rw [ixN_nat hb];simp only;rw [zhR];exact ⟨rfl,h v⟩
theorem zed {i n a b:Nat}{M:Nat->Nat->Bool}{v:Bool}{t t1 t2:VE}{E:VEnds}{st:LSt}(hi:st[i]? =some (some (.ow,zcj n M)))(ht:∀ Q:D->Prop,Q (.bl v)->t st Q)(h1:∀ Q:D->Prop,Q (natD a)->t1 st Q)(h2:∀ Q:D->Prop,Q (natD b)->t2 st Q)(ha:a<n)(hb:b<n)(h:E.nx (st.set i (some (.ow,zcj n (ziN M a b v))))):zaG i t t1 t2 E st:=by
 unfold zaG;rw [hi];refine ⟨rfl,ht _ (h1 _ ?_)⟩;simp only;rw [ze9,ixN_nat ha];simp only;rw [zh3 ha];simp only [zhQ];refine h2 _ ?_;simp only [List.length_map,List.length_range];rw [ixN_nat hb];simp only;rw [zhR];exact ⟨rfl,h⟩
theorem ztr {t:VE}{st:LSt}{v:Bool}(h:∀ Q:D->Prop,Q (.bl v)->t st Q):∀ Q:D->Prop,Q (.bl (!v))->(vNotV t) st Q:=by
 intro Q hq;simp only [vNotV];exact h _ hq
theorem zoK {m:Nat}{pre:List Nat}{i:Nat}{post:List Nat}(e:List.range m=pre++i::post):i=pre.length/\pre.length<m:=by
 have hl:=congrArg List.length e;rw [List.length_range,List.length_append,List.length_cons] at hl;have hlt:pre.length<m:=by omega
 have h:(List.range m)[pre.length]? =(pre++i::post)[pre.length]? :=by rw [e]
 rw [List.getElem?_range hlt,List.getElem?_append_right (Nat.le_refl _),Nat.sub_self] at h;exact ⟨(Option.some.inj h).symm,hlt⟩
theorem zeP {β:Type}{e:VO}{st:LSt}(j:β->D)(f:β->D):∀ (bs:List β) (acc:List D) (Q:List D->Prop),(∀ b∈bs,∀ Q:Md->D->Prop,Q .ow (f b)->e (some (.sh,j b)::st) Q)->Q (acc++bs.map f)->zpU zb5 e st (bs.map j) acc Q
 | [],acc,Q,_,h=>by rw [List.map_nil];unfold zpU;simpa using h
 |b::bs,acc,Q,he,h=>by
  rw [List.map_cons];unfold zpU;simp only [zb5,if_true];refine he b (by simp) _ ⟨rfl,zeP j f bs (acc++[f b]) Q (fun b hb=>he b (by simp [hb])) ?_⟩;simpa using h
noncomputable abbrev zhA (is:List Int):D:=.lst (is.map .int)
theorem at2 (a b:D):atI [a,b] 0=some a/\atI [a,b] 1=some b:=⟨L2.zaW (j:=0) rfl,L2.zaW (j:=1) rfl⟩
theorem zoL {rows:List (List Int)}{a:Nat}(h:a<rows.length):atI (rows.map zhA) (a:Int)=some (zhA (rows.getD a [])):=by
 refine L2.zaW ?_;rw [List.getElem?_map,List.getD_eq_getElem?_getD,List.getElem?_eq_getElem h];rfl
theorem zoM {rows:List (List Int)}{a:Nat}(h:a<rows.length):rows.getD a []∈rows:=by
 rw [List.getD_eq_getElem?_getD,List.getElem?_eq_getElem h];exact List.getElem_mem h
noncomputable def two (rows:List (List Int)):Prop:=∀ r∈rows,r.length=2
theorem zqM {s:Nat}(h:s≠0):∃ a r,zlT s=a::r:=by
 obtain ⟨p,hp⟩:=Nat.exists_testBit_of_ne_zero h;cases e:zlT s with
 |nil=>have:=mem_pts.mpr hp;rw [e] at this;cases this
 |cons a r=>exact ⟨a,r,rfl⟩
noncomputable def ofB (M:Nat->Nat->Bool)(a d:Nat):Nat->Bool:=fun b=>M a b&&(!M d b&&decide (b≠d))
theorem zts {n:Nat}{M:Nat->Nat->Bool}{a d:Nat}(ha:a<n)(hd:d<n):zmQ ((webOf n M).getD a 0) ((webOf n M).getD d 0 ||| 2 ^ d)=bm n (ofB M a d):=by
 rw [web_get ha,web_get hd];apply Nat.eq_of_testBit_eq;intro p;unfold ofB;rw [less_bit,Nat.testBit_or,bm_bit,bm_bit,bm_bit,Nat.testBit_two_pow];by_cases hp:p<n
 ·by_cases e:d=p
  ·subst e;simp
  ·have e2:¬ p=d:=fun z=>e z.symm;simp [hp,e,e2]
 ·simp [hp]
theorem zrV {n:Nat}{f:Nat->Bool}(h:bm n f≠0):∃ b,(zlT (bm n f)).headD 0=b/\b<n/\f b=true:=by
 refine ⟨_,rfl,?_⟩;have:(bm n f).testBit ((zlT (bm n f)).headD 0)=true:=by
  obtain ⟨a,r,e⟩:=zqM h;rw [e];exact mem_pts.mp (by rw [e];simp)
 rw [bm_bit,Bool.and_eq_true,decide_eq_true_iff] at this;exact this
noncomputable abbrev zbx:=Nat×Nat×Nat
noncomputable abbrev zas (r:zbx):D:=.lst [natD r.1,natD r.2.1,natD r.2.2]
noncomputable abbrev zp3:=List (List Nat)×(Nat->Nat->Bool)
noncomputable def crossM (M:Nat->Nat->Bool)(A B:List Nat)(v:Bool):Nat->Nat->Bool:=fun a b=>if ((decide (a∈A)&&decide (b∈B))||(decide (a∈B)&&decide (b∈A)))=true then v else M a b
noncomputable def zee (s:zp3)(r:zbx):zp3:=(s.1++[s.1.getD r.2.1 []++s.1.getD r.2.2 []],crossM s.2 (s.1.getD r.2.1 []) (s.1.getD r.2.2 []) (decide (r.1=1)))
noncomputable def simS (n:Nat)(rows:List zbx):zp3:=rows.foldl zee ((List.range n).map fun p=>[p],fun _ _=>false)
theorem za1 (n:Nat)(pre:List zbx)(r:zbx):simS n (pre++[r])=zee (simS n pre) r:=by unfold simS;rw [List.foldl_append];rfl
noncomputable def okS (s:zp3)(r:zbx):Prop:=r.2.1<s.1.length/\r.2.2<s.1.length/\r.1<=1/\∀ p∈s.1.getD r.2.1 [],∀ q∈s.1.getD r.2.2 [],p≠q/\s.2 p q=false
noncomputable def okR (n:Nat)(rows:List zbx):Prop:=∀ pre r post,rows=pre++r::post->okS (simS n pre) r
noncomputable def ztt (n:Nat)(s:zp3):Prop:=Good s.2/\(∀ i,∀ p∈s.1.getD i [],p<n)/\∀ i,(s.1.getD i []).Nodup
theorem znk {M:Nat->Nat->Bool}(g:Good M){A B:List Nat}(h:∀ p∈A,∀ q∈B,p≠q)(v:Bool):Good (crossM M A B v) where
 sym:=fun a b=>by
  unfold crossM;rw [g.sym a b];have e:((decide (a∈A)&&decide (b∈B))||(decide (a∈B)&&decide (b∈A)))=((decide (b∈A)&&decide (a∈B))||(decide (b∈B)&&decide (a∈A))):=by
   cases decide (a∈A)<;>cases decide (b∈B)<;>cases decide (a∈B)<;>cases decide (b∈A)<;>rfl
  rw [e]
 irr:=fun a=>by
  unfold crossM;rw [g.irr];split
  ·rename_i z;simp only [Bool.or_eq_true,Bool.and_eq_true,decide_eq_true_iff] at z;rcases z with ⟨z1,z2⟩|⟨z1,z2⟩
   ·exact absurd rfl (h a z1 a z2)
   ·exact absurd rfl (h a z2 a z1)
  ·rfl
theorem zaZ {α:Type}(xs:List (List α))(y:List α)(i:Nat):(xs++[y]).getD i []=if i<xs.length then xs.getD i [] else if i=xs.length then y else []:=by
 rw [List.getD_eq_getElem?_getD,List.getD_eq_getElem?_getD];by_cases h:i<xs.length
 ·rw [if_pos h,List.getElem?_append_left h]
 ·rw [if_neg h,List.getElem?_append_right (by omega)];by_cases e:i=xs.length
  ·rw [if_pos e,e,Nat.sub_self];rfl
  ·rw [if_neg e,List.getElem?_eq_none (by simp;omega)];rfl
theorem zp4 {n:Nat}{s:zp3}{r:zbx}(h:ztt n s)(ok:okS s r):ztt n (zee s r):=by
 obtain ⟨g,hm,hnd⟩:=h;obtain ⟨_,_,_,hs⟩:=ok;refine ⟨znk g (fun p hp q hq=>(hs p hp q hq).1) _,fun i p hp=>?_,fun i=>?_⟩
 ·have hp:p∈(s.1++[s.1.getD r.2.1 []++s.1.getD r.2.2 []]).getD i []:=hp;rw [zaZ] at hp;split at hp
  ·exact hm i p hp
  ·split at hp
   ·rcases List.mem_append.mp hp with hp|hp
    ·exact hm _ p hp
    ·exact hm _ p hp
   ·cases hp
 ·show ((s.1++[s.1.getD r.2.1 []++s.1.getD r.2.2 []]).getD i []).Nodup
  rw [zaZ];split
  ·exact hnd i
  ·split
   ·rw [List.nodup_append];exact ⟨hnd _,hnd _,fun p hp q hq=>(hs p hp q hq).1⟩
   ·exact List.nodup_nil
theorem zoN (n:Nat):ztt n (simS n []):=by
 have at0:∀ i,(simS n []).1.getD i []=if i<n then [i] else []:=fun i=>by
  show ((List.range n).map fun p=>[p]).getD i []=_
  rw [List.getD_eq_getElem?_getD,List.getElem?_map];by_cases h:i<n
  ·rw [List.getElem?_range h,if_pos h];rfl
  ·rw [List.getElem?_eq_none (by simpa using h),if_neg h];rfl
 refine ⟨⟨fun _ _=>rfl,fun _=>rfl⟩,fun i p hp=>?_,fun i=>?_⟩
 ·rw [at0] at hp;split at hp
  ·have:p=i:=by simpa using hp
   omega
  ·cases hp
 ·rw [at0];split
  ·simp
  ·exact List.nodup_nil
theorem zgb:∀ {n:Nat} {ps:List Nat},ps.Nodup->(∀ p∈ps,p<n)->ps.length<=n
 |0,ps,_,h=>by
  cases ps with
  |nil=>simp
  |cons p ps=>exact absurd (h p (by simp)) (by omega)
 |n+1,ps,hn,h=>by
  have h1:(ps.erase n).length<=n:=zgb (hn.erase n) fun p hp=>by
   have h2:=h p (List.mem_of_mem_erase hp);have h3:p≠n:=fun e=>by subst e;exact (List.Nodup.not_mem_erase hn) hp
   omega
  by_cases hm:n∈ps
  ·rw [List.length_erase_of_mem hm] at h1;omega
  ·rw [List.erase_of_not_mem hm] at h1;omega
theorem zeQ {n:Nat}{rows:List zbx}(h:okR n rows):∀ (k:Nat) (pre post:List zbx),pre.length=k->rows=pre++post->ztt n (simS n pre)/\(simS n pre).1.length=n+pre.length
 |0,pre,post,hk,e=>by
  obtain rfl:pre=[]:=List.length_eq_zero_iff.mp hk;exact ⟨zoN n,by show ((List.range n).map fun p=>[p]).length=_;simp⟩
 |k+1,pre,post,hk,e=>by
  rcases List.eq_nil_or_concat pre with rfl|⟨pr,r,rfl⟩
  ·cases hk
  ·have e2:rows=pr++r::post:=by rw [e];simp
   obtain ⟨h1,h2⟩:=zeQ h k pr (r::post) (by simpa using hk) e2;rw [List.concat_eq_append,za1];refine ⟨zp4 h1 (h pr r post e2),?_⟩;show ((simS n pr).1++[_]).length=_
   rw [List.length_append,h2];simp;omega
noncomputable def msk (n:Nat)(t:List Nat):Nat:=bm n fun q=>decide (q∈t)
theorem zeR {n:Nat}{t:List Nat}(h:∀ p∈t,p<n)(p:Nat):(msk n t).testBit p=decide (p∈t):=by
 unfold msk;rw [bm_bit];by_cases z:p∈t
 ·rw [decide_eq_true z,decide_eq_true (h p z)];rfl
 ·rw [decide_eq_false z,Bool.and_false]
theorem ztu {n:Nat}{a b:List Nat}(ha:∀ p∈a,p<n)(hb:∀ p∈b,p<n):msk n a ||| msk n b=msk n (a++b):=by
 apply Nat.eq_of_testBit_eq;intro p;rw [Nat.testBit_or,zeR ha,zeR hb,zeR (fun p hp=>(List.mem_append.mp hp).elim (ha p) (hb p)),<-Bool.decide_or];exact decide_eq_decide.mpr List.mem_append.symm
theorem zrW {n p:Nat}(hp:p<n):2 ^ p=msk n [p]:=by
 apply Nat.eq_of_testBit_eq;intro q
 rw [zeR (fun x hx=>by have:x=p:=by simpa using hx
                       omega),Nat.testBit_two_pow]
 exact decide_eq_decide.mpr (by simp;exact eq_comm)
noncomputable def thD (n:Nat)(T:List (List Nat)):List D:=T.map fun t=>natD (msk n t)
theorem zp5 {n:Nat}{T:List (List Nat)}{i:Nat}(h:i<T.length):atI (thD n T) (i:Int)=some (natD (msk n (T.getD i []))):=by
 refine L2.zaW ?_;unfold thD;rw [List.getElem?_map,List.getD_eq_getElem?_getD,List.getElem?_eq_getElem h];rfl
noncomputable def zrX (s:zp3)(left:List Nat):Prop:=∀ i∈left,∀ j∈left,i≠j->∀ p∈s.1.getD i [],∀ q∈s.1.getD j [],p≠q/\s.2 p q=false
theorem zm2 {s:zp3}{left rest:List Nat}{r:zbx}(h:zrX s left)(hlt:∀ i∈left,i<s.1.length)(hx:r.2.1∈left)(hy:r.2.2∈left)(hxy:r.2.1≠r.2.2)(hr:∀ i∈rest,i∈left/\i≠r.2.1/\i≠r.2.2):zrX (zee s r) (rest++[s.1.length]):=by
 have old:∀ i∈rest,(zee s r).1.getD i []=s.1.getD i []:=fun i hi=>by
  show (s.1++[_]).getD i []=_
  rw [zaZ,if_pos (hlt i (hr i hi).1)]
 have new:(zee s r).1.getD s.1.length []=s.1.getD r.2.1 []++s.1.getD r.2.2 []:=by
  show (s.1++[_]).getD s.1.length []=_
  rw [zaZ,if_neg (by omega),if_pos rfl]
 have out:∀ i∈rest,∀ p∈s.1.getD i [],p∉s.1.getD r.2.1 []/\p∉s.1.getD r.2.2 []:=fun i hi p hp=>by
  obtain ⟨h1,h2,h3⟩:=hr i hi;exact ⟨fun z=>(h i h1 _ hx h2 p hp p z).1 rfl,fun z=>(h i h1 _ hy h3 p hp p z).1 rfl⟩
 have keepL:∀ i∈rest,∀ p∈s.1.getD i [],∀ q,(zee s r).2 p q=s.2 p q/\(zee s r).2 q p=s.2 q p:=fun i hi p hp q=>by
  obtain ⟨o1,o2⟩:=out i hi p hp;show crossM _ _ _ _ p q=_/\crossM _ _ _ _ q p=_
  unfold crossM;rw [decide_eq_false o1,decide_eq_false o2];simp
 intro i hi j hj hij p hp q hq;rcases List.mem_append.mp hi with hi|hi
 ·rw [old i hi] at hp;rcases List.mem_append.mp hj with hj|hj
  ·rw [old j hj] at hq;obtain ⟨h1,h2⟩:=h i (hr i hi).1 j (hr j hj).1 hij p hp q hq;exact ⟨h1,by rw [(keepL i hi p hp q).1];exact h2⟩
  ·obtain rfl:j=s.1.length:=by simpa using hj
   rw [new] at hq;rw [(keepL i hi p hp q).1];rcases List.mem_append.mp hq with hq|hq
   ·exact h i (hr i hi).1 _ hx (hr i hi).2.1 p hp q hq
   ·exact h i (hr i hi).1 _ hy (hr i hi).2.2 p hp q hq
 ·obtain rfl:i=s.1.length:=by simpa using hi
  rcases List.mem_append.mp hj with hj|hj
  ·rw [old j hj] at hq;rw [new] at hp;rw [(keepL j hj q hq p).2];rcases List.mem_append.mp hp with hp|hp
   ·exact h _ hx j (hr j hj).1 (Ne.symm (hr j hj).2.1) p hp q hq
   ·exact h _ hy j (hr j hj).1 (Ne.symm (hr j hj).2.2) p hp q hq
  ·obtain rfl:j=s.1.length:=by simpa using hj
   exact absurd rfl hij
noncomputable def zdn (r:zbx):List Int:=[(r.1:Int),(r.2.1:Int),(r.2.2:Int)]
theorem zeS (rs:List zbx):rs.map zas=(rs.map zdn).map zhA:=by rw [List.map_map];rfl
noncomputable def toR (r:List Int):zbx:=((r.getD 0 0).toNat,(r.getD 1 0).toNat,(r.getD 2 0).toNat)
noncomputable def nmB (made:Nat)(named:List Int)(x:Int):Bool:=(decide (0<=x)&&decide (x<(made:Int)))&&decide (x∉named)
noncomputable def zdY (made:Nat)(named:List Int)(r:List Int):Bool:=decide (r.length=3)&&((decide (r.getD 0 0=0)||decide (r.getD 0 0=1))&&(decide (r.getD 1 0≠r.getD 2 0)&&(nmB made named (r.getD 1 0)&&nmB made named (r.getD 2 0))))
noncomputable def zbh (rows:List (List Int)):List Int:=rows.flatMap fun r=>r.drop 1
noncomputable def joB (n:Nat)(rows:List (List Int)):Bool:=decide (rows.length=n - 1)&&(List.range rows.length).all fun j=>zdY (n+j) (zbh (rows.take j)) (rows.getD j [])
noncomputable def namedN (pre:List zbx):List Nat:=pre.flatMap fun r=>[r.2.1,r.2.2]
theorem zoO {s:zp3}{l l':List Nat}(h:zrX s l)(hs:∀ i∈l',i∈l):zrX s l':=fun i hi j hj=>h i (hs i hi) j (hs j hj)
theorem zrY (n:Nat):okR n []:=fun pre r post e=>by cases pre<;>cases e
theorem zoP (n:Nat):zrX (simS n []) (List.range n):=by
 intro i hi j hj hij p hp q hq;have at0:∀ i∈List.range n,(simS n []).1.getD i []=[i]:=fun i hi=>by
  show ((List.range n).map fun p=>[p]).getD i []=_
  rw [List.getD_eq_getElem?_getD,List.getElem?_map,List.getElem?_range (List.mem_range.mp hi)];rfl
 rw [at0 i hi] at hp;rw [at0 j hj] at hq;obtain rfl:p=i:=by simpa using hp
 obtain rfl:q=j:=by simpa using hq
 exact ⟨hij,rfl⟩
theorem zoQ {n:Nat}{rows:List zbx}{r:zbx}(h:okR n rows)(hr:okS (simS n rows) r):okR n (rows++[r]):=by
 intro pre r' post e;rcases List.eq_nil_or_concat post with rfl|⟨p,l,rfl⟩
 ·obtain ⟨rfl,e2⟩:=List.append_inj' e rfl;obtain rfl:r=r':=by simpa using e2
  exact hr
 ·have e:rows++[r]=(pre++r'::p)++[l]:=by rw [e];simp
  obtain ⟨e1,_⟩:=List.append_inj' e rfl;exact h pre r' p e1
noncomputable def zbz (n:Nat)(rs:List zbx):Prop:=∀ pre r post,rs=pre++r::post->r.1<=1/\r.2.1<n+pre.length/\r.2.2<n+pre.length/\r.2.1≠r.2.2/\r.2.1∉namedN pre/\r.2.2∉namedN pre
theorem zg1 {n:Nat}{rs:List zbx}(h:zbz n rs):∀ (k:Nat) (pre post:List zbx),pre.length=k->rs=pre++post->okR n pre/\zrX (simS n pre) ((List.range (n+pre.length)).filter fun i=>decide (i∉namedN pre))
 |0,pre,post,hk,e=>by
  obtain rfl:pre=[]:=List.length_eq_zero_iff.mp hk;exact ⟨zrY n,zoO (zoP n) fun i hi=>(List.mem_filter.mp hi).1⟩
 |k+1,pre,post,hk,e=>by
  rcases List.eq_nil_or_concat pre with rfl|⟨pr,r,rfl⟩
  ·cases hk
  ·have e2:rs=pr++r::post:=by rw [e];simp
   obtain ⟨hok,hsep⟩:=zg1 h k pr (r::post) (by simpa using hk) e2;obtain ⟨n1,n2,n3,n4,n5,n6⟩:=h pr r post e2;obtain ⟨_,hTl⟩:=zeQ hok pr.length pr [] rfl (by simp);have hx:r.2.1∈(List.range (n+pr.length)).filter fun i=>decide (i∉namedN pr):=List.mem_filter.mpr ⟨List.mem_range.mpr n2,decide_eq_true n5⟩;have hy:r.2.2∈(List.range (n+pr.length)).filter fun i=>decide (i∉namedN pr):=List.mem_filter.mpr ⟨List.mem_range.mpr n3,decide_eq_true n6⟩;have hltT:∀ i∈(List.range (n+pr.length)).filter fun i=>decide (i∉namedN pr),i<(simS n pr).1.length:=fun i hi=>by rw [hTl];exact List.mem_range.mp (List.mem_filter.mp hi).1
   have okr:okS (simS n pr) r:=⟨hltT _ hx,hltT _ hy,n1,fun p hp q hq=>hsep _ hx _ hy n4 p hp q hq⟩;have es:=zm2 (rest:=((List.range (n+pr.length)).filter fun i=>decide (i∉namedN pr)).filter fun i=>decide (i≠r.2.1)&&decide (i≠r.2.2)) hsep hltT hx hy n4 fun i hi=>by
    obtain ⟨h1,h2⟩:=List.mem_filter.mp hi;rw [Bool.and_eq_true,decide_eq_true_iff,decide_eq_true_iff] at h2;exact ⟨h1,h2.1,h2.2⟩
   rw [List.concat_eq_append];refine ⟨zoQ hok okr,?_⟩;rw [za1];refine zoO es fun i hi=>?_;obtain ⟨h1,h2⟩:=List.mem_filter.mp hi;have h1:=List.mem_range.mp h1;have h2:=of_decide_eq_true h2;have h2:i∉namedN pr/\i≠r.2.1/\i≠r.2.2:=by
    unfold namedN at h2 ⊢;rw [List.flatMap_append] at h2;simp only [List.mem_append,List.flatMap_cons,List.flatMap_nil,List.append_nil,List.mem_cons,List.not_mem_nil,or_false] at h2;exact ⟨fun z=>h2 (.inl z),fun z=>h2 (.inr (.inl z)),fun z=>h2 (.inr (.inr z))⟩
   rw [hTl];rw [List.length_append,List.length_singleton] at h1;by_cases z:i=n+pr.length
   ·rw [z];simp
   ·refine List.mem_append.mpr (.inl (List.mem_filter.mpr ⟨List.mem_filter.mpr ⟨List.mem_range.mpr (by omega),decide_eq_true h2.1⟩,?_⟩));rw [decide_eq_true h2.2.1,decide_eq_true h2.2.2];rfl
theorem zuK {is:List Int}(h:is.length=3):∃ a b c,is=[a,b,c]:=by
 match is,h with
 | [a,b,c],_=>exact ⟨a,b,c,rfl⟩
theorem zk5 {made:Nat}{named:List Int}{r:List Int}(h:zdY made named r=true):r=zdn (toR r)/\(toR r).1<=1/\(toR r).2.1<made/\(toR r).2.2<made/\(toR r).2.1≠(toR r).2.2/\((toR r).2.1:Int)∉named/\((toR r).2.2:Int)∉named:=by
 unfold zdY nmB at h;simp only [Bool.and_eq_true,Bool.or_eq_true,decide_eq_true_iff] at h;obtain ⟨h0,h1,h2,⟨⟨h3,h4⟩,h5⟩,⟨h6,h7⟩,h8⟩:=h;obtain ⟨a,b,c,rfl⟩:=zuK h0;have h1:a=0\/a=1:=h1;have h2:b≠c:=h2;have h3:0<=b:=h3;have h4:b<made:=h4;have h5:b∉named:=h5;have h6:0<=c:=h6;have h7:c<made:=h7;have h8:c∉named:=h8;have eb:((b.toNat:Nat):Int)=b:=by omega
 have ec:((c.toNat:Nat):Int)=c:=by omega
 have ea:((a.toNat:Nat):Int)=a:=by omega
 refine ⟨?_,?_,?_,?_,?_,?_,?_⟩
 ·show [a,b,c]=[((a.toNat:Nat):Int),((b.toNat:Nat):Int),((c.toNat:Nat):Int)];rw [ea,eb,ec]
 ·show a.toNat<=1;omega
 ·show b.toNat<made;omega
 ·show c.toNat<made;omega
 ·show b.toNat≠c.toNat;omega
 ·show ((b.toNat:Nat):Int)∉named;rw [eb];exact h5
 ·show ((c.toNat:Nat):Int)∉named;rw [ec];exact h8
theorem zrZ {n:Nat}{rows:List (List Int)}(h:joB n rows=true):rows=(rows.map toR).map zdn/\okR n (rows.map toR):=by
 unfold joB at h;rw [Bool.and_eq_true,List.all_eq_true] at h;have each:∀ pre r post,rows=pre++r::post->zdY (n+pre.length) (zbh pre) r=true:=fun pre r post e=>by
  have hl:pre.length<rows.length:=by rw [e];simp
  have:=h.2 pre.length (List.mem_range.mpr hl);have e1:rows.take pre.length=pre:=by rw [e,List.take_left]
  have e2:rows.getD pre.length []=r:=by rw [e,List.getD_eq_getElem?_getD,List.getElem?_append_right (Nat.le_refl _),Nat.sub_self];rfl
  rw [e1,e2] at this;exact this
 have all:∀ r∈rows,r=zdn (toR r):=fun r hr=>by
  obtain ⟨pre,post,e⟩:=List.append_of_mem hr;exact (zk5 (each pre r post e)).1
 refine ⟨?_,?_⟩
 ·rw [List.map_map];exact ((List.map_congr_left fun r hr=>(all r hr).symm).trans (List.map_id' rows)).symm
 ·have nice:zbz n (rows.map toR):=by
   intro pre r post e;obtain ⟨l1,l2,e1,e2,e3⟩:=List.map_eq_append_iff.mp e;obtain ⟨r0,l3,e4,e5,e6⟩:=List.map_eq_cons_iff.mp e3;subst e2 e5;have er:rows=l1++r0::l3:=by rw [e1,e4]
   obtain ⟨_,h1,h2,h3,h4,h5,h6⟩:=zk5 (each l1 r0 l3 er);have nm:∀ i:Nat,i∈namedN (l1.map toR)->(i:Int)∈zbh l1:=fun i hi=>by
    unfold namedN at hi;obtain ⟨s,hs,hi⟩:=List.mem_flatMap.mp hi;obtain ⟨q,hq,rfl⟩:=List.mem_map.mp hs;unfold zbh;refine List.mem_flatMap.mpr ⟨q,hq,?_⟩;have hqr:=all q (by rw [er];exact List.mem_append.mpr (.inl hq));rw [hqr];show (i:Int)∈[((toR q).2.1:Int),((toR q).2.2:Int)];simp only [List.mem_cons,List.not_mem_nil,or_false] at hi ⊢;omega
   rw [List.length_map];exact ⟨h1,h2,h3,h4,fun z=>h5 (nm _ z),fun z=>h6 (nm _ z)⟩
  exact (zg1 nice (rows.map toR).length (rows.map toR) [] rfl (by simp)).1
theorem at3 (a b c:D):atI [a,b,c] 0=some a/\atI [a,b,c] 1=some b/\atI [a,b,c] 2=some c:=⟨L2.zaW (j:=0) rfl,L2.zaW (j:=1) rfl,L2.zaW (j:=2) rfl⟩
theorem zjh {rows:List (List Int)}{k:Nat}(h:k<rows.length):zbh (rows.take (k+1))=zbh (rows.take k)++(rows.getD k []).drop 1:=by
 rw [zoJ [] h];unfold zbh;rw [List.flatMap_append];simp
theorem zk6 {rows:List (List Int)}(h:∀ r∈rows,r.length<=100)(hl:rows.length<=100):∀ k,k<=rows.length->(zbh (rows.take k)).length<=100 * k
 |0,_=>by simp [zbh]
 |k+1,hk=>by
  rw [zjh (by omega),List.length_append];have:=zk6 h hl k (by omega);have:=h _ (zoM (show k<rows.length by omega));rw [List.length_drop];omega
noncomputable def eqW (n:Nat)(M1 M2:Nat->Nat->Bool):Bool:=decide (webOf n M1=webOf n M2)
noncomputable def nbN (m:Nat):List (Nat×Nat):=(List.range (m - 1)).map fun k=>(k,k+1)
noncomputable def zk7 (n:Nat)(M:Nat->Nat->Bool)(is:List Int):Bool:=decide (is.length≠0)&&(zh7 n is&&decide (ziO (webOf is.length (pt M (is.map Int.toNat)))=nbN is.length))
noncomputable def zuw (n:Nat)(M:Nat->Nat->Bool)(is:List Int)(k:Nat):Prop:=(∀ i,i<k->inB n (is.getD i 0)=true)/\∀ i j,j<i->i<k->is.getD i 0≠is.getD j 0/\M (is.getD i 0).toNat (is.getD j 0).toNat=decide (i=j+1)
theorem zux (W:Nat->Nat->Bool):decide (ziO (webOf 4 W)=nbN 4)=(W 0 1&&W 1 2&&W 2 3&&(!W 0 2&& !W 0 3&& !W 1 3)):=by
 have key:∀ a,a<4->tiesFrom (webOf 4 W) a=([0,1,2,3].filter fun b=>decide (a<b)&&W a b).map (fun b=>(a,b)):=by
  intro a ha;unfold tiesFrom;rw [web_get ha,zkU,List.filter_filter];rfl
 have e:ziO (webOf 4 W)=[0,1,2,3].flatMap (tiesFrom (webOf 4 W)):=by unfold ziO;rw [zau];rfl
 rw [e];simp only [List.flatMap_cons,List.flatMap_nil,key 0 (by decide),key 1 (by decide),key 2 (by decide),key 3 (by decide)];have n4:nbN 4=[(0,1),(1,2),(2,3)]:=rfl;rw [n4];cases h1:W 0 1<;>cases h2:W 1 2<;>cases h3:W 2 3<;>cases h4:W 0 2<;>cases h5:W 0 3<;>cases h6:W 1 3<;>simp [h1,h2,h3,h4,h5,h6]
theorem zm3 {n:Nat}{M:Nat->Nat->Bool}(g:Good M){is:List Int}(h4:is.length=4):(decide (is.length=4)&&zk7 n M is)=true↔zuw n M is 4:=by
 unfold zk7;rw [decide_eq_true h4,h4,zux];obtain ⟨a,b,c,d,rfl⟩:=zvb h4;have s:=fun x y=>g.sym x y;constructor
 ·intro h;simp only [pt,zh7,List.map_cons,List.map_nil,List.getD_cons_zero,List.getD_cons_succ,List.all_cons,List.all_nil,Bool.and_eq_true,Bool.and_true,Bool.true_and,decide_eq_true_iff,Bool.not_eq_true',List.nodup_cons,List.mem_cons,List.not_mem_nil,or_false,not_or,List.nodup_nil,and_true] at h;obtain ⟨_,⟨⟨ha,hb,hc,hd⟩,⟨ab,ac,ad⟩,⟨bc,bd⟩,cd,_⟩,⟨⟨m1,m2⟩,m3⟩,⟨m4,m5⟩,m6⟩:=h;refine ⟨fun i hi=>?_,fun i j hj hi=>?_⟩
  ·match i,hi with
   |0,_=>exact ha
   |1,_=>exact hb
   |2,_=>exact hc
   |3,_=>exact hd
  ·match i,j,hj,hi with
   |1,0,_,_=>exact ⟨Ne.symm ab,(s _ _).trans m1⟩
   |2,0,_,_=>exact ⟨Ne.symm ac,(s _ _).trans m4⟩
   |2,1,_,_=>exact ⟨Ne.symm bc,(s _ _).trans m2⟩
   |3,0,_,_=>exact ⟨Ne.symm ad,(s _ _).trans m5⟩
   |3,1,_,_=>exact ⟨Ne.symm bd,(s _ _).trans m6⟩
   |3,2,_,_=>exact ⟨Ne.symm cd,(s _ _).trans m3⟩
 ·rintro ⟨h1,h2⟩;have ha:=h1 0 (by decide);have hb:=h1 1 (by decide);have hc:=h1 2 (by decide);have hd:=h1 3 (by decide);have q1:=h2 1 0 (by decide) (by decide);have q2:=h2 2 0 (by decide) (by decide);have q3:=h2 2 1 (by decide) (by decide);have q4:=h2 3 0 (by decide) (by decide);have q5:=h2 3 1 (by decide) (by decide);have q6:=h2 3 2 (by decide) (by decide);rw [s] at q1 q2 q3 q4 q5 q6;simp only [List.getD_cons_zero,List.getD_cons_succ] at ha hb hc hd q1 q2 q3 q4 q5 q6;simp only [pt,zh7,List.map_cons,List.map_nil,List.getD_cons_zero,List.getD_cons_succ,List.all_cons,List.all_nil,Bool.and_eq_true,Bool.and_true,Bool.true_and,decide_eq_true_iff,Bool.not_eq_true',List.nodup_cons,List.mem_cons,List.not_mem_nil,or_false,not_or,List.nodup_nil,and_true];exact ⟨by decide,⟨⟨ha,hb,hc,hd⟩,⟨Ne.symm q1.1,Ne.symm q2.1,Ne.symm q4.1⟩,⟨Ne.symm q3.1,Ne.symm q5.1⟩,Ne.symm q6.1,fun z=>z⟩,⟨⟨q1.2,q3.2⟩,q6.2⟩,⟨q2.2,q4.2⟩,q5.2⟩
noncomputable def NoL (M:Nat->Nat->Bool)(l:List Nat):Prop:=∀ a∈l,∀ b∈l,∀ c∈l,∀ d∈l,M a b=true->M b c=true->M c d=true->M a c=false->M a d=false->M b d=false->False
noncomputable def Spl (M:Nat->Nat->Bool)(l:List Nat):Prop:=∃ (p:Nat->Bool) (v:Bool),(∃ x∈l,p x=true)/\(∃ y∈l,p y=false)/\∀ x∈l,∀ y∈l,p x=true->p y=false->M x y=v
theorem zia {M:Nat->Nat->Bool}{l l':List Nat}(h:NoL M l)(hs:∀ x∈l',x∈l):NoL M l':=fun a ha b hb c hc d hd=>h a (hs a ha) b (hs b hb) c (hs c hc) d (hs d hd)
theorem zoR {M:Nat->Nat->Bool}(g:Good M){l:List Nat}(h:NoL M l)(w:Bool){a b c d:Nat}(ha:a∈l)(hb:b∈l)(hc:c∈l)(hd:d∈l)(h1:M a b= !w)(h2:M b c= !w)(h3:M c d= !w)(h4:M a c=w)(h5:M a d=w)(h6:M b d=w):False:=by
 cases w
 ·exact h a ha b hb c hc d hd h1 h2 h3 h4 h5 h6
 ·exact h c hc a ha d hd b hb (by rw [g.sym];exact h4) h5 (by rw [g.sym];exact h6) h3 (by rw [g.sym];exact h2) h1
theorem zoS {M:Nat->Nat->Bool}(g:Good M):∀ l:List Nat,l.Nodup->2<=l.length->NoL M l->Spl M l
 | [],_,h,_=>absurd h (by simp)
 | [_],_,h,_=>absurd h (by simp)
 | [v,u],hnd,_,_=>by
  have hne:v≠u:=by simpa using hnd
  refine ⟨fun x=>decide (x=v),M v u,⟨v,by simp,by simp⟩,⟨u,by simp,by simp [Ne.symm hne]⟩,fun x hx y hy px py=>?_⟩;have px:=of_decide_eq_true px;have py:=of_decide_eq_false py;have hy:y=u:=by
   rcases List.mem_cons.mp hy with e|e
   ·exact absurd e py
   ·simpa using e
  rw [px,hy]
 |v::u::t::l,hnd,_,hno=>by
  have hnd':=List.nodup_cons.mp hnd;obtain ⟨p,w,⟨x0,hx0,px0⟩,⟨y0,hy0,py0⟩,hc⟩:=zoS g (u::t::l) hnd'.2 (by simp) (zia hno fun x hx=>List.mem_cons_of_mem v hx);have hv:v∉u::t::l:=hnd'.1;generalize u::t::l=S at hv hno hx0 hy0 hc;have ne:∀ x∈S,x≠v:=fun x hx e=>hv (e▸hx);by_cases hB:∀ y∈S,p y=false->M v y=w
  ·refine ⟨fun x=>decide (x=v)||p x,w,⟨v,by simp,by simp⟩,⟨y0,by simp [hy0],by simp [ne y0 hy0,py0]⟩,fun x hx y hy px py=>?_⟩;simp only [Bool.or_eq_true,decide_eq_true_iff] at px;simp only [Bool.or_eq_false_iff,decide_eq_false_iff_not] at py;have hyS:y∈S:=(List.mem_cons.mp hy).resolve_left py.1;rcases px with ex|px
   ·rw [ex];exact hB y hyS py.2
   ·rcases List.mem_cons.mp hx with ex|hx
    ·rw [ex];exact hB y hyS py.2
    ·exact hc x hx y hyS px py.2
  by_cases hA:∀ y∈S,p y=true->M v y=w
  ·refine ⟨fun x=>decide (x≠v)&&p x,w,⟨x0,by simp [hx0],by simp [ne x0 hx0,px0]⟩,⟨v,by simp,by simp⟩,fun x hx y hy px py=>?_⟩;simp only [Bool.and_eq_true,decide_eq_true_iff] at px;have hx:x∈S:=(List.mem_cons.mp hx).resolve_left px.1;rcases List.mem_cons.mp hy with ey|hy
   ·rw [ey,g.sym];exact hA x hx px.2
   ·have py:p y=false:=by simpa [ne y hy] using py
    exact hc x hx y hy px.2 py
  obtain ⟨b1,hb1,pb1,mb1⟩:∃ b1∈S,p b1=false/\M v b1= !w:=by
   by_cases z:∃ b1∈S,p b1=false/\M v b1= !w
   ·obtain ⟨b,h1,h2,h3⟩:=z;exact ⟨b,h1,h2,h3⟩
   ·refine absurd (fun y hy py=>?_) hB;cases e:M v y<;>cases w<;>first|rfl|exact absurd ⟨y,hy,py,e⟩ z
  obtain ⟨a1,ha1,pa1,ma1⟩:∃ a1∈S,p a1=true/\M v a1= !w:=by
   by_cases z:∃ b1∈S,p b1=true/\M v b1= !w
   ·obtain ⟨b,h1,h2,h3⟩:=z;exact ⟨b,h1,h2,h3⟩
   ·refine absurd (fun y hy py=>?_) hA;cases e:M v y<;>cases w<;>first|rfl|exact absurd ⟨y,hy,py,e⟩ z
  by_cases hY:∃ y∈S,M v y=w
  ·obtain ⟨y1,hy1,my1⟩:=hY;have nv:∀ x y:Nat,¬ M x y= !w->M x y=w:=fun x y h=>by
    generalize M x y=e at h;cases e<;>cases w<;>simp_all
   refine ⟨fun x=>decide (x=v)||decide (M v x= !w),w,⟨v,by simp,by simp⟩,⟨y1,by simp [hy1],by simp [ne y1 hy1,my1]⟩,fun x hx y hy px py=>?_⟩;simp only [Bool.or_eq_true,decide_eq_true_iff] at px;simp only [Bool.or_eq_false_iff,decide_eq_false_iff_not] at py;have hyS:y∈S:=(List.mem_cons.mp hy).resolve_left py.1;have my:M v y=w:=nv _ _ py.2;rcases px with ex|mx
   ·rw [ex];exact my
   rcases List.mem_cons.mp hx with ex|hx
   ·rw [ex];exact my
   refine nv _ _ fun mxy=>?_;have Lx:x∈v::S:=List.mem_cons_of_mem _ hx;have Ly:y∈v::S:=List.mem_cons_of_mem _ hyS;have Lv:v∈v::S:=List.mem_cons_self;have La:a1∈v::S:=List.mem_cons_of_mem _ ha1;have Lb:b1∈v::S:=List.mem_cons_of_mem _ hb1;have sy:∀ a b:Nat,∀ e,M a b=e->M b a=e:=fun a b e h=>by rw [g.sym];exact h
   have ww:w≠ !w:=by cases w<;>decide
   cases px:p x<;>cases py:p y
   ·exact zoR g hno w Ly Lx Lv La (sy _ _ _ mxy) (sy _ _ _ mx) ma1 (sy _ _ _ my) (sy _ _ _ (hc a1 ha1 y hyS pa1 py)) (sy _ _ _ (hc a1 ha1 x hx pa1 px))
   ·exact ww ((hc y hyS x hx py px).symm.trans (sy _ _ _ mxy))
   ·exact ww ((hc x hx y hyS px py).symm.trans mxy)
   ·exact zoR g hno w Ly Lx Lv Lb (sy _ _ _ mxy) (sy _ _ _ mx) mb1 (sy _ _ _ my) (hc y hyS b1 hb1 py pb1) (hc x hx b1 hb1 px pb1)
  ·refine ⟨fun x=>decide (x=v),!w,⟨v,by simp,by simp⟩,⟨x0,by simp [hx0],by simp [ne x0 hx0]⟩,fun x hx y hy px py=>?_⟩;have ex:x=v:=of_decide_eq_true px;rw [ex];have py:=of_decide_eq_false py;have hyS:y∈S:=(List.mem_cons.mp hy).resolve_left py;cases e:M v y<;>cases w<;>first|rfl|exact absurd ⟨y,hyS,e⟩ hY
theorem zoT (p:Nat->Bool):∀ l:List Nat,(l.filter p).length+(l.filter fun x=> !p x).length=l.length
 | []=>rfl
 |a::l=>by
  have:=zoT p l;cases e:p a<;>simp [e]<;>omega
theorem zoU {l:List Nat}(h:l.length<2){x y:Nat}(hx:x∈l)(hy:y∈l):x=y:=by
 match l,h with
 | [a],_=>rw [List.mem_singleton.mp hx,List.mem_singleton.mp hy]
theorem twn {M:Nat->Nat->Bool}(g:Good M):∀ (k:Nat) (l:List Nat),l.length<=k->l.Nodup->2<=l.length->NoL M l->∃ a∈l,∃ b∈l,a≠b/\∀ c∈l,c≠a->c≠b->M a c=M b c
 |0,l,hk,_,h2,_=>absurd h2 (by omega)
 |k+1,l,hk,hnd,h2,hno=>by
  obtain ⟨p,w,⟨x0,hx0,px0⟩,⟨y0,hy0,py0⟩,hc⟩:=zoS g l hnd h2 hno;have hf:=zoT p l;have m1:x0∈l.filter p:=List.mem_filter.mpr ⟨hx0,px0⟩;have m2:y0∈l.filter fun x=> !p x:=List.mem_filter.mpr ⟨hy0,by rw [py0];rfl⟩;have l1:0<(l.filter p).length:=List.length_pos_of_mem m1;have l2:0<(l.filter fun x=> !p x).length:=List.length_pos_of_mem m2;have in1:∀ x,x∈l.filter p->x∈l/\p x=true:=fun x hx=>List.mem_filter.mp hx;have in2:∀ x,x∈(l.filter fun x=> !p x)->x∈l/\p x=false:=fun x hx=>⟨(List.mem_filter.mp hx).1,by simpa using (List.mem_filter.mp hx).2⟩;by_cases h1:2<=(l.filter p).length
  ·obtain ⟨a,ha,b,hb,hab,ht⟩:=twn g k (l.filter p) (by omega) (hnd.filter p) h1 (zia hno fun x hx=>(in1 x hx).1);refine ⟨a,(in1 a ha).1,b,(in1 b hb).1,hab,fun c hcl ca cb=>?_⟩;cases e:p c
   ·rw [hc a (in1 a ha).1 c hcl (in1 a ha).2 e,hc b (in1 b hb).1 c hcl (in1 b hb).2 e]
   ·exact ht c (List.mem_filter.mpr ⟨hcl,e⟩) ca cb
  by_cases h3:2<=(l.filter fun x=> !p x).length
  ·obtain ⟨a,ha,b,hb,hab,ht⟩:=twn g k (l.filter fun x=> !p x) (by omega) (hnd.filter _) h3 (zia hno fun x hx=>(in2 x hx).1);refine ⟨a,(in2 a ha).1,b,(in2 b hb).1,hab,fun c hcl ca cb=>?_⟩;cases e:p c
   ·exact ht c (List.mem_filter.mpr ⟨hcl,by rw [e];rfl⟩) ca cb
   ·rw [g.sym a c,g.sym b c,hc c hcl a (in2 a ha).1 e (in2 a ha).2,hc c hcl b (in2 b hb).1 e (in2 b hb).2]
  refine ⟨x0,hx0,y0,hy0,fun e=>(by rw [e,py0] at px0;cases px0),fun c hcl ca cb=>?_⟩;cases e:p c
  ·exact absurd (zoU (by omega) (List.mem_filter.mpr ⟨hcl,by rw [e];rfl⟩) m2) cb
  ·exact absurd (zoU (by omega) (List.mem_filter.mpr ⟨hcl,e⟩) m1) ca
theorem zp6 {M:Nat->Nat->Bool}(g:Good M){A B:List Nat}(hA:NoL M A)(hB:NoL M B){w:Bool}(h:∀ x∈A,∀ y∈B,M x y=w):NoL M (A++B):=by
 have h':∀ x∈B,∀ y∈A,M x y=w:=fun x hx y hy=>by rw [g.sym];exact h y hy x hx
 intro a ha b hb c hc d hd h1 h2 h3 h4 h5 h6;rcases List.mem_append.mp ha with ha|ha<;>rcases List.mem_append.mp hb with hb|hb<;>rcases List.mem_append.mp hc with hc|hc<;>rcases List.mem_append.mp hd with hd|hd
 all_goals first
  |exact hA a ha b hb c hc d hd h1 h2 h3 h4 h5 h6
  |exact hB a ha b hb c hc d hd h1 h2 h3 h4 h5 h6
  | (have q1:=fun u v=>h a u b v;have q2:=fun u v=>h' a u b v;have q3:=fun u v=>h a u c v;have q4:=fun u v=>h' a u c v;have q5:=fun u v=>h a u d v;have q6:=fun u v=>h' a u d v;have q7:=fun u v=>h b u c v;have q8:=fun u v=>h' b u c v;have q9:=fun u v=>h b u d v;have q10:=fun u v=>h' b u d v;have q11:=fun u v=>h c u d v;have q12:=fun u v=>h' c u d v;simp_all)
noncomputable def twB (n:Nat)(M:Nat->Nat->Bool)(f:Nat->Bool)(a b:Nat):Bool:=(List.range n).all fun c=> !f c||(decide (c=a)||(decide (c=b)||decide (M a c=M b c)))
theorem tw_iff {n:Nat}{M:Nat->Nat->Bool}{f:Nat->Bool}{a b:Nat}:twB n M f a b=true↔ ∀ c,c<n->f c=true->c≠a->c≠b->M a c=M b c:=by
 unfold twB;rw [List.all_eq_true];constructor
 ·intro h c hc hf h1 h2;have:=h c (List.mem_range.mpr hc);rw [hf,decide_eq_false h1,decide_eq_false h2] at this;simpa using this
 ·intro h c hc;have:=h c (List.mem_range.mp hc);cases e:f c
  ·rfl
  ·by_cases h1:c=a
   ·simp [h1]
   ·by_cases h2:c=b
    ·simp [h2]
    ·simp [this e h1 h2]
theorem ztv {n:Nat}{M:Nat->Nat->Bool}{f:Nat->Bool}{a b:Nat}:twB n M f a b=twB n M f b a:=by
 rw [Bool.eq_iff_iff,tw_iff,tw_iff];exact ⟨fun h c h1 h2 h3 h4=>(h c h1 h2 h4 h3).symm,fun h c h1 h2 h3 h4=>(h c h1 h2 h4 h3).symm⟩
theorem zuy {n:Nat}{M:Nat->Nat->Bool}{f:Nat->Bool}{a b:Nat}(ha:a<n)(hb:b<n):decide ((webOf n M).getD a 0 &&& zmQ (bm n f) (2 ^ a ||| 2 ^ b)=(webOf n M).getD b 0 &&& zmQ (bm n f) (2 ^ a ||| 2 ^ b))=twB n M f a b:=by
 rw [web_get ha,web_get hb,Bool.eq_iff_iff,decide_eq_true_iff,tw_iff];constructor
 ·intro h c hc hf h1 h2;have:=congrArg (fun z=>z.testBit c) h;simp only [Nat.testBit_and,less_bit,bm_bit,Nat.testBit_or,Nat.testBit_two_pow,decide_eq_true hc,hf,Bool.true_and,decide_eq_false (Ne.symm h1),decide_eq_false (Ne.symm h2),Bool.or_false,Bool.not_false,Bool.and_true] at this;exact this
 ·intro h;apply Nat.eq_of_testBit_eq;intro c;rw [Nat.testBit_and,Nat.testBit_and,less_bit,Nat.testBit_or,bm_bit,bm_bit,bm_bit,Nat.testBit_two_pow,Nat.testBit_two_pow];by_cases hc:c<n
  ·cases e:f c
   ·simp
   ·by_cases h1:c=a
    ·subst h1;simp
    ·by_cases h2:c=b
     ·subst h2;simp
     ·rw [h c hc e h1 h2]
  ·simp [hc]
noncomputable def zib:VF:=fun ds Q=>∃ s p:Int,ds=[.int s,.int p]/\Q .sh (.bl (zrH s p))
theorem zr0:∀ ds Q,zib ds Q->ds.length=2:=by rintro _ Q ⟨s,p,rfl,h⟩;rfl
noncomputable def zr1:VS:=(zci (zan (zgQ (vBin fGe (zac 1) (vC (.int 0))) (vBin fEq (vBin (vI fun i j=>.int (Builtin.bitAnd i j)) (vBin (vI2 (fun _ j=>0<=j) fun i j=>.int (i / 2 ^ j.toNat)) (zac 0) (zac 1)) (vC (.int 1))) (vC (.int 1))))))
noncomputable abbrev ztw:List Str:=["some","p"]
theorem ztx:∀ ds Q,zib ds Q->zr1 {nx:=fun _=>Q .sh .non,rt:=Q} (zaz ztw ds):=by
 rintro _ Q ⟨s,p,rfl,h⟩;simp! [zr1];unfold zrH at h;by_cases hp:0<=p
 ·rw [bitAnd_m1];simp only [hp,decide_true,if_true,Bool.true_and,true_and] at h ⊢;exact h
 ·simp only [hp,decide_false,Bool.false_and,Bool.false_eq_true,if_false,true_and] at h ⊢;exact h
noncomputable def zbf:VF:=fun ds Q=>∃ p:Int,ds=[.int p]/\0<=p/\p<=1000000/\Q .sh (.int (2 ^ p.toNat))
theorem zoV:∀ ds Q,zbf ds Q->ds.length=1:=by rintro _ Q ⟨p,rfl,h⟩;rfl
noncomputable def zl2:VS:=(zci (zan (vBin (vI2 ztO fun i j=>.int (i * 2 ^ j.toNat)) (vC (.int 1)) (zac 0))))
noncomputable abbrev zoW:List Str:=["p"]
theorem zp7:∀ ds Q,zbf ds Q->zl2 {nx:=fun _=>Q .sh .non,rt:=Q} (zaz zoW ds):=by
 rintro _ Q ⟨p,rfl,h0,h1,h⟩;simp! [zl2];rw [Int.one_mul];exact ⟨⟨h0,h1,by decide⟩,h⟩
noncomputable def zc6:VF:=fun ds Q=>∃ ss:List Nat,ds=[.lst (ss.map natD)]/\Q .sh (natD (orL ss))
theorem zk8:∀ ds Q,zc6 ds Q->ds.length=1:=by rintro _ Q ⟨w,rfl,h⟩;rfl
noncomputable def zdu:VS:=(zdW 1)
noncomputable def zdv:VS:=(zat (vFz 0 (zlF (gV 2) (zkK 0)
 (zbd 1 (zan (vBin (vI fun i j=>.int (Builtin.bitOr i j)) (zac 1) (zac 2)))))) zdu)
noncomputable def zg2:VS:=(zat (zbd 1 (zan (vC (.int 0)))) zdv)
noncomputable abbrev zji:List Str:=["several","whole","some"]
theorem zl3:∀ ds Q,zc6 ds Q->zg2 {nx:=fun _=>Q .sh .non,rt:=Q} (zaz zji ds):=by
 rintro _ Q ⟨ss,rfl,h⟩;simp! [zg2,zdu,zdv];refine zbw natD ss (fun pre st=>∃ o2,st=[some (.sh,.lst (ss.map natD)),some (.sh,natD (orL pre)),o2]) ?_ ?_ ⟨_,rfl⟩
 ·rintro pre s post st kk e ⟨o2,rfl⟩ hk;simp! [zdu,zdv];rw [znh];rw [zpS] at hk;exact hk _ ⟨_,rfl⟩
 ·rintro st ⟨o2,rfl⟩;simp! [zdu,zdv];exact h
noncomputable def zfa:VF:=fun ds Q=>∃ ps:List Nat,ds=[.lst (ps.map natD)]/\ps.length<=1000/\(∀ p∈ps,p<=1000)/\Q .sh (natD (ztP ps))
theorem znl:∀ ds Q,zfa ds Q->ds.length=1:=by rintro _ Q ⟨w,rfl,h⟩;rfl
noncomputable def zjM:VS:=(zci (zaK zc6 (zaa (zdT (zb7 (zdk (zac 0)) zb5 (zaq zbf (zaa (zac 0) zai)))) zai)))
noncomputable abbrev zm4:List Str:=["points"]
theorem zoX:∀ ds Q,zfa ds Q->zjM {nx:=fun _=>Q .sh .non,rt:=Q} (zaz zm4 ds):=by
 rintro _ Q ⟨ps,rfl,hl,hp,h⟩;simp! [zjM];refine ⟨Nat.le_trans hl (by decide),?_⟩;refine za0 natD (fun p=>natD (2 ^ p)) ps _ (fun p hpp Q h=>?_) ?_
 ·simp! [];have:=hp p hpp;refine ⟨_,rfl,by omega,by omega,?_⟩;have e:((2:Int) ^ ((p:Int)).toNat)=((2 ^ p:Nat):Int):=by simp
  rw [e];exact h
 ·refine ⟨ps.map fun p=>2 ^ p,by rw [List.map_map];rfl,.inr ⟨rfl,by simp [D.flat]⟩,h⟩
noncomputable def zaN:VF:=fun ds Q=>∃ s:Nat,ds=[natD s]/\bts s<=1000/\Q .ow (.lst ((zlT s).map natD))
theorem zjN:∀ ds Q,zaN ds Q->ds.length=1:=by rintro _ Q ⟨p,rfl,h⟩;rfl
noncomputable def zfA:VS:=(zci (zds (zb7 (zki (zaa (zjF (zac 0)) zai)) (zb4 (zaq zib (zaa (zac 1) (zaa (zac 0) zai)))) (zac 0))))
noncomputable abbrev zic:List Str:=["some"]
theorem zk9:∀ ds Q,zaN ds Q->zfA {nx:=fun _=>Q .sh .non,rt:=Q} (zaz zic ds):=by
 rintro _ Q ⟨s,rfl,hs,h⟩;simp! [zfA];refine ⟨(by first|exact zkj (by omega)|exact ⟨by omega,by omega⟩),Nat.le_trans hs (by decide),?_⟩;refine ze8 natD s.testBit natD (List.range (bts s)) [] _ (fun b hb Q h=>?_) (fun b hb _ Q h=>?_) ?_
 ·simp! [];refine ⟨_,_,rfl,?_⟩;rw [zf5];exact h
 ·simpa only [zci,zds,zac,zaz,zb4,zai,zaa,zaq,zki,zb7,zjF,zeH,List.map_cons,List.map_nil,List.length_cons,List.length_nil,List.length_map,List.length_range,List.cons_append,List.nil_append,List.getElem?_cons_zero,List.getElem?_cons_succ,List.replicate,List.set_cons_zero,List.set_cons_succ,Nat.reduceAdd,Nat.reduceSub,Nat.reduceLeDiff,D.flat,flats,zqG,isI,zkN,zoe,zof,zea,zkQ,D.dep,Int.zero_add,Int.toNat_natCast,Bool.true_and,Bool.and_true,true_and,znW,zfl,zkV,ngt,dAt,fdD,dFD,zk2,zlZ,ztn,zk1,Option.map_some,zoF,zoG,zoH,zto,zrS] using h
 ·exact ⟨zbj _,h⟩
noncomputable def zc7:VF:=fun ds Q=>∃ s:Nat,ds=[natD s]/\s≠0/\bts s<=1000/\Q .sh (natD ((zlT s).headD 0))
theorem zla:∀ ds Q,zc7 ds Q->ds.length=1:=by rintro _ Q ⟨s,rfl,h⟩;rfl
noncomputable def zhg:VS:=(zci (zan (vBin fIx (zaq zaN (zaa (zac 0) zai)) (vC (.int 0)))))
noncomputable def zg3:VS:=(zat (ze7 (zb4 (vBin fEq (zac 0) (vC (.int 0))))
 zmH
 zbD) zhg)
noncomputable abbrev zjj:List Str:=["some"]
theorem zl4:∀ ds Q,zc7 ds Q->zg3 {nx:=fun _=>Q .sh .non,rt:=Q} (zaz zjj ds):=by
 rintro _ Q ⟨s,rfl,hs,hb,h⟩;simp! [zg3];refine ifF (by simp;omega) ?_;simp! [zhg];obtain ⟨a,r,e⟩:=zqM hs;refine ⟨s,rfl,hb,?_⟩;rw [e] at h ⊢;have e2:atI (natD a::r.map natD) 0=some (natD a):=L2.zaW (j:=0) rfl;simp! [List.map_cons];rw [e2];exact ⟨rfl,h⟩
noncomputable def zba:VF:=fun ds Q=>∃ a b:Nat,ds=[natD a,natD b]/\Q .sh (natD (zmQ a b))
theorem zl5:∀ ds Q,zba ds Q->ds.length=2:=by rintro _ Q ⟨a,b,rfl,h⟩;rfl
noncomputable def zid:VS:=(zci (zan (vBin (vI fun i j=>.int (Builtin.bitAnd i j)) (zac 0) (vUn Builtin.bitNot (zac 1)))))
noncomputable abbrev zlb:List Str:=["some","other"]
theorem znm:∀ ds Q,zba ds Q->zid {nx:=fun _=>Q .sh .non,rt:=Q} (zaz zlb ds):=by
 rintro _ Q ⟨a,b,rfl,h⟩;simp! [zid];rw [zpI];exact h
noncomputable def zbF:VF:=fun ds Q=>∃ i:Int,ds=[.int i]/\0<=i/\i<=14/\Q .sh .non
theorem zie:∀ ds Q,zbF ds Q->ds.length=1:=by rintro _ Q ⟨i,rfl,h⟩;rfl
noncomputable def zef:VS:=(ze7 (vOr (zb4 (vBin fLt (zac 0) (vC (.int 0)))) (zb4 (vBin fGt (zac 0) (vC (.int 14)))))
 zmH
 zbD)
noncomputable abbrev zgc:List Str:=["many"]
theorem ziQ:∀ ds Q,zbF ds Q->zef {nx:=fun _=>Q .sh .non,rt:=Q} (zaz zgc ds):=by
 rintro _ Q ⟨i,rfl,h0,h1,h⟩;simp! [zef];exact ifF (by simp;omega) (ifF (by simp;omega) h)
noncomputable def zhh:VF:=fun ds Q=>∃ (w:List Nat) (a:Nat) (b:Int),ds=[zaF w,natD a,.int b]/\a<w.length/\Q .sh (.bl (zrH (w.getD a 0) b))
theorem zp8:∀ ds Q,zhh ds Q->ds.length=3:=by rintro _ Q ⟨w,a,b,rfl,h⟩;rfl
noncomputable def zoY:VS:=(zci (zaK zib (zaa (vBin fIx (zac 0) (zac 1)) (zaa (zac 2) zai))))
noncomputable abbrev zqN:List Str:=["web","a","b"]
theorem zr2:∀ ds Q,zhh ds Q->zoY {nx:=fun _=>Q .sh .non,rt:=Q} (zaz zqN ds):=by
 rintro _ Q ⟨w,a,b,rfl,ha,h⟩;simp! [zoY];rw [web_at ha];exact ⟨_,_,rfl,.inr ⟨rfl,by simp [D.flat]⟩,h⟩
noncomputable def zcM:VF:=fun ds Q=>∃ w:List Nat,ds=[zaF w]/\(∀ s∈w,bts s<=1000)/\w.length<=100/\Q .ow (.lst ((ziO w).map zgM))
theorem zl6:∀ ds Q,zcM ds Q->ds.length=1:=by rintro _ Q ⟨w,rfl,h⟩;rfl
noncomputable def zcq:VS:=(zdW 1)
noncomputable def zcr:VS:=(zat (zfz (gV 2) (zaa (vCB zbP (zaa (zac 0) zai)) zai)
 (zsi 1 (zb7 (zdk (zaq zaN (zaa (vBin fIx (zac 0) (zac 2)) zai))) (zb4 (vBin fLt (zac 3) (zac 0))) (zrl (zaa (zac 3) (zaa (zac 0) zai)))))) zcq)
noncomputable def zif:VS:=(zat (zbd 1 (zds (zbi zai))) zcr)
noncomputable abbrev zlc:List Str:=["web","ties","a"]
theorem znn:∀ ds Q,zcM ds Q->zif {nx:=fun _=>Q .sh .non,rt:=Q} (zaz zlc ds):=by
 rintro _ Q ⟨w,rfl,hb,hl,h⟩;simp! [zif,zcq,zcr];refine ⟨(by first|exact zkj (by omega)|exact ⟨by omega,by omega⟩),?_⟩;have key:∀ k,k<=w.length->((List.range k).flatMap (tiesFrom w)).length<=1000 * k:=by
  intro k
  induction k with
  |zero=>intro _;simp
  |succ k ih=>
   intro hk;rw [List.range_succ,List.flatMap_append,List.length_append];have:=ih (by omega);have:=zmV hb k;simp only [List.flatMap_cons,List.flatMap_nil,List.append_nil];omega
 refine zb8 w.length (fun k st=>∃ o1,st=[some (.sh,zaF w),some (.ow,.lst (((List.range k).flatMap (tiesFrom w)).map zgM)),o1]) ?_ ?_ ⟨_,rfl⟩
 ·rintro k st kk hk ⟨o1,rfl⟩ hkk;simp! [zcq,zcr];rw [web_at hk];have hbs:bts (w.getD k 0:Nat)<=1000:=by
   rw [List.getD_eq_getElem?_getD,List.getElem?_eq_getElem hk];exact hb _ (List.getElem_mem hk)
  refine ⟨_,rfl,hbs,?_,?_⟩
  ·rw [List.length_map];exact Nat.le_trans (zop _) (Nat.le_trans hbs (by decide))
  refine ze8 natD (fun b=>decide (k<b)) (fun b=>zgM (k,b)) _ [] _ (fun b hb' Q h=>?_) (fun b hb' _ Q h=>?_) ?_
  ·simp! [zcq,zcr];simpa using h
  ·simp! [zcq,zcr];exact h
  ·rw [List.nil_append];have e1:List.map (fun b=>zgM (k,b)) (List.filter (fun b=>decide (k<b)) (zlT (w.getD k 0)))=(tiesFrom w k).map zgM:=by unfold tiesFrom;rw [List.map_map];rfl
   rw [e1];have l1:=key k (by omega);have l2:=zmV hb k;have e2:((List.range k).flatMap (tiesFrom w)).map zgM++(tiesFrom w k).map zgM=((List.range (k+1)).flatMap (tiesFrom w)).map zgM:=by
    rw [List.range_succ,List.flatMap_append,List.map_append];simp
   rw [e2];refine ⟨?_,zgX _,hkk _ ⟨_,rfl⟩⟩;rw [List.length_map];exact Nat.le_trans (by omega:_<=1000000) (by decide)
 ·rintro st ⟨o1,rfl⟩;simp! [zcq,zcr];exact h
noncomputable def zbS:VF:=fun ds Q=>∃ w:List Nat,ds=[zaF w]/\w.length<=1000/\Q .sh (natD (2 ^ w.length - 1))
theorem zld:∀ ds Q,zbS ds Q->ds.length=1:=by rintro _ Q ⟨w,rfl,h⟩;rfl
noncomputable def zg4:VS:=(zci (zan (vBin (vI fun i j=>.int (i - j)) (zaq zbf (zaa (vCB zbP (zaa (zac 0) zai)) zai)) (vC (.int 1)))))
noncomputable abbrev zjk:List Str:=["web"]
theorem zl7:∀ ds Q,zbS ds Q->zg4 {nx:=fun _=>Q .sh .non,rt:=Q} (zaz zjk ds):=by
 rintro _ Q ⟨w,rfl,hl,h⟩;simp! [zg4];refine ⟨_,rfl,by omega,by omega,?_⟩;simp! [];have e:((2 ^ w.length - 1:Nat):Int)=2 ^ w.length - 1:=by
  rw [Int.natCast_sub (Nat.one_le_two_pow (n:=w.length)),Int.natCast_pow];rfl
 rw [<-e];exact h
noncomputable def zbc:VF:=fun ds Q=>∃ w:List Nat,ds=[zaF w]/\w.length<=1000/\Q .ow (zaF (zcS w))
theorem zjO:∀ ds Q,zbc ds Q->ds.length=1:=by rintro _ Q ⟨w,rfl,h⟩;rfl
noncomputable def zc5:VS:=(zci (zds (zb7 (zki (zaa (vCB zbP (zaa (zac 0) zai)) zai)) zb5 (zaq zba (zaa (zac 2) (zaa (vBin (vI fun i j=>.int (Builtin.bitOr i j)) (vBin fIx (zac 1) (zac 0)) (zaq zbf (zaa (zac 0) zai))) zai))))))
noncomputable def zfB:VS:=(zat (zbd 1 (zaK zbS (zaa (zac 0) zai))) zc5)
noncomputable abbrev zig:List Str:=["web","whole"]
theorem zle:∀ ds Q,zbc ds Q->zfB {nx:=fun _=>Q .sh .non,rt:=Q} (zaz zig ds):=by
 rintro _ Q ⟨w,rfl,hl,h⟩;simp! [zfB,zc5];refine ⟨_,rfl,hl,.inr ⟨rfl,by simp [D.flat]⟩,⟨by omega,by omega⟩,Nat.le_trans hl (by decide),?_⟩;refine za0 natD (fun a=>natD (zmQ (2 ^ w.length - 1) (w.getD a 0 ||| 2 ^ a))) (List.range w.length) _ (fun a ha Q h=>?_) ?_
 ·have ha:=List.mem_range.mp ha;simp! [zdm ha,zc5];refine ⟨_,rfl,by omega,by omega,?_⟩;simp! [zc5];rw [zeb,znh];exact ⟨_,_,rfl,h⟩
 ·have e:(List.range w.length).map (fun a=>natD (zmQ (2 ^ w.length - 1) (w.getD a 0 ||| 2 ^ a)))=(zcS w).map natD:=by unfold zcS;rw [List.map_map];rfl
  rw [e];exact ⟨zbj _,h⟩
noncomputable def zaR:VF:=fun ds Q=>∃ (w ps:List Nat) (p:Nat),ds=[zaF w,zaF ps,natD p]/\p<w.length/\ps.length<=1000/\Q .sh (natD (zgY w ps p))
theorem zfC:∀ ds Q,zaR ds Q->ds.length=3:=by rintro _ Q ⟨w,ps,p,rfl,h⟩;rfl
noncomputable def zcs:VS:=(zci (zaK zfa (zaa (zdT (zb7 (zki (zaa (vCB zbP (zaa (zac 1) zai)) zai)) (zb4 (zaq zhh (zaa (zac 1) (zaa (zac 3) (zaa (vBin fIx (zac 2) (zac 0)) zai))))) (zac 0))) zai)))
noncomputable abbrev zdZ:List Str:=["web","points","p"]
theorem zgd:∀ ds Q,zaR ds Q->zcs {nx:=fun _=>Q .sh .non,rt:=Q} (zaz zdZ ds):=by
 rintro _ Q ⟨w,ps,p,rfl,hp,hl,h⟩;simp! [zcs];refine ⟨(by first|exact zkj (by omega)|exact ⟨by omega,by omega⟩),Nat.le_trans hl (by decide),?_⟩;refine ze8 natD (fun k=>(w.getD p 0).testBit (ps.getD k 0)) natD (List.range ps.length) [] _ (fun k hk Q h=>?_) (fun k hk _ Q h=>?_) ?_
 ·have hk:=List.mem_range.mp hk;simp! [zdm hk];refine ⟨_,_,_,rfl,hp,?_⟩;rw [zf5];exact h
 ·simpa only [zci,vBin,zac,zaz,zb4,zai,zaa,zdT,vCB,zaq,zaK,zki,zb7,zbP,fIx,zeH,List.map_cons,List.map_nil,List.length_cons,List.length_nil,List.length_map,List.length_range,List.cons_append,List.nil_append,List.getElem?_cons_zero,List.getElem?_cons_succ,List.replicate,List.set_cons_zero,List.set_cons_succ,Nat.reduceAdd,Nat.reduceSub,Nat.reduceLeDiff,D.flat,flats,zqG,isI,zkN,zoe,zof,zea,zkQ,D.dep,Int.zero_add,Int.toNat_natCast,Bool.true_and,Bool.and_true,true_and,znW,zfl,zkV,ngt,dAt,fdD,dFD,zk2,zlZ,ztn,zk1,Option.map_some,zoF,zoG,zoH,zto,zrS] using h
 ·rw [List.nil_append];refine ⟨_,rfl,Nat.le_trans (List.length_filter_le _ _) (by simpa using hl),fun q hq=>?_,.inr ⟨rfl,by simp [D.flat]⟩,h⟩;have:=List.mem_range.mp (List.mem_filter.mp hq).1;omega
noncomputable def zjl:VF:=fun ds Q=>∃ (w ps:List Nat),ds=[zaF w,zaF ps]/\(∀ p∈ps,p<w.length)/\ps.length<=1000/\Q .ow (zaF (zou w ps))
theorem zp9:∀ ds Q,zjl ds Q->ds.length=2:=by rintro _ Q ⟨w,ps,rfl,h⟩;rfl
noncomputable def zoZ:VS:=(zci (zds (zb7 (zdk (zac 1)) zb5 (zaq zaR (zaa (zac 1) (zaa (zac 2) (zaa (zac 0) zai)))))))
noncomputable abbrev zqO:List Str:=["web","points"]
theorem zr3:∀ ds Q,zjl ds Q->zoZ {nx:=fun _=>Q .sh .non,rt:=Q} (zaz zqO ds):=by
 rintro _ Q ⟨w,ps,rfl,hp,hl,h⟩;simp! [zoZ];refine ⟨Nat.le_trans hl (by decide),?_⟩;refine za0 natD (fun p=>natD (zgY w ps p)) ps _ (fun p hpp Q h=>?_) ?_
 ·simp! [];exact ⟨_,_,_,rfl,hp p hpp,hl,h⟩
 ·have e:ps.map (fun p=>natD (zgY w ps p))=(zou w ps).map natD:=by unfold zou;rw [List.map_map];rfl
  rw [e];exact ⟨zbj _,h⟩
noncomputable def zdw:VF:=fun ds Q=>∃ w v:List Nat,ds=[zaF w,zaF v]/\w.length+v.length<=14/\(∀ s∈v,s<2 ^ 14)/\Q .ow (zaF (zp1 w v))
theorem zno:∀ ds Q,zdw ds Q->ds.length=2:=by rintro _ Q ⟨w,v,rfl,h⟩;rfl
noncomputable def zjm:VS:=(zci (zds (zqB (zac 0) (zdT (zb7 (zdk (zac 1)) zb5 (vBin (vI2 ztO fun i j=>.int (i * 2 ^ j.toNat)) (zac 0) (vCB zbP (zaa (zac 1) zai))))))))
noncomputable def zjP:VS:=(zat (zrt (zaq zbF (zaa (vBin (vI fun i j=>.int (i+j)) (vCB zbP (zaa (zac 0) zai)) (vCB zbP (zaa (zac 1) zai))) zai))) zjm)
noncomputable abbrev zm5:List Str:=["one","two"]
theorem zo0:∀ ds Q,zdw ds Q->zjP {nx:=fun _=>Q .sh .non,rt:=Q} (zaz zm5 ds):=by
 rintro _ Q ⟨w,v,rfl,hl,hv,h⟩;simp! [zjP];refine ⟨_,rfl,by omega,by omega,?_⟩;simp! [zjm];refine ⟨Nat.le_trans (by omega:v.length<=1000) (by decide),?_⟩;refine za0 natD (fun s=>natD (s * 2 ^ w.length)) v _ (fun s hs Q h=>?_) ?_
 ·simp! [];have:=hv s hs;refine ⟨⟨by omega,by omega,by omega⟩,?_⟩;rw [zeb,<-Int.natCast_mul];exact h
 ·have e:List.map natD w++List.map (fun s=>natD (s * 2 ^ w.length)) v=(zp1 w v).map natD:=by unfold zp1;rw [List.map_append,List.map_map];rfl
  simp! [];rw [e];exact ⟨Nat.le_trans (by omega:w.length+v.length<=1000) (by decide),zbj _,h⟩
noncomputable def zuL (w v:List Nat):List Nat:=zcS (zp1 (zcS w) (zcS v))
theorem zfb (w:List Nat):(zcS w).length=w.length:=by unfold zcS;simp
theorem zo1 {w:List Nat}{s:Nat}(h:s∈zcS w):s<2 ^ w.length:=by
 unfold zcS at h;obtain ⟨a,_,rfl⟩:=List.mem_map.mp h;exact zrK (by have:=Nat.two_pow_pos w.length;omega)
theorem zqa (w v:List Nat):(zp1 w v).length=w.length+v.length:=by unfold zp1;simp
noncomputable def zfc:VF:=fun ds Q=>∃ w v:List Nat,ds=[zaF w,zaF v]/\w.length+v.length<=14/\Q .ow (zaF (zuL w v))
theorem znp:∀ ds Q,zfc ds Q->ds.length=2:=by rintro _ Q ⟨w,v,rfl,h⟩;rfl
noncomputable def zjQ:VS:=(zci (zaK zbc (zaa (zaq zdw (zaa (zaq zbc (zaa (zac 0) zai)) (zaa (zaq zbc (zaa (zac 1) zai)) zai))) zai)))
noncomputable abbrev zm6:List Str:=["one","two"]
theorem zo2:∀ ds Q,zfc ds Q->zjQ {nx:=fun _=>Q .sh .non,rt:=Q} (zaz zm6 ds):=by
 rintro _ Q ⟨w,v,rfl,hl,h⟩;simp! [zjQ];refine ⟨w,rfl,by omega,v,rfl,by omega,zcS w,zcS v,rfl,by rw [zfb,zfb];omega,fun s hs=>?_,zp1 (zcS w) (zcS v),rfl,by rw [zqa,zfb,zfb];omega,.inl rfl,h⟩;exact Nat.lt_of_lt_of_le (zo1 hs) (Nat.pow_le_pow_right (by decide) (by omega))
noncomputable def zbT:VF:=fun ds Q=>∃ (w:List Nat) (is:List Int),ds=[zaF w,.lst (is.map .int)]/\is.length<=1000/\Q .sh (.bl (zh7 w.length is))
theorem ziR:∀ ds Q,zbT ds Q->ds.length=2:=by rintro _ Q ⟨w,is,rfl,h⟩;rfl
noncomputable def zfn:VS:=(zci (zan (zgQ (zac 2) (vBin fEq (zlY (zaa (zac 1) zai)) (vCB zbP (zaa (zac 1) zai))))))
noncomputable def zeT:VS:=(zat (zbd 2 (zan (vCB zrC (zaa (zdT (zb7 (zdk (zac 1)) zb5 (zkR fLe fLt (vC (.int 0)) (zac 0) (vCB zbP (zaa (zac 1) zai))))) zai)))) zfn)
noncomputable abbrev zhi:List Str:=["web","some","inside"]
theorem zjR:∀ ds Q,zbT ds Q->zeT {nx:=fun _=>Q .sh .non,rt:=Q} (zaz zhi ds):=by
 rintro _ Q ⟨w,is,rfl,hl,h⟩;simp! [zeT];refine ⟨Nat.le_trans hl (by decide),?_⟩;refine za0 D.int (fun x=>.bl (inB w.length x)) is _ (fun x hx Q h=>?_) ?_
 ·simp! [];unfold inB at h;refine if2 (fun z=>?_) (fun z=>?_)
  ·rw [z,Bool.true_and] at h;exact h
  ·rw [Bool.eq_false_iff.mpr z,Bool.false_and] at h;exact h
 refine ⟨is.map (inB w.length),by rw [List.map_map];rfl,?_⟩;rw [List.all_map,show (id ∘ inB w.length)=inB w.length from rfl];simp! [zfn];unfold zh7 at h;refine if2 (fun z=>?_) (fun z=>?_)
 ·rw [z,Bool.true_and] at h;refine ⟨is,rfl,hl,fun k hk hle=>?_⟩;rw [decide_eq_decide.mpr (show ((k:Int)=(is.length:Int))↔is.Nodup from by rw [<-hk];omega)];exact h
 ·rw [Bool.eq_false_iff.mpr z,Bool.false_and] at h;exact h
noncomputable def zlf (n:Nat):List (Nat×Nat):=(List.range n).flatMap fun a=>(List.range (n - (a+1))).map fun k=>(a,a+1+k)
theorem pairs_mem {n:Nat}{t:Nat×Nat}:t∈zlf n↔t.1<t.2/\t.2<n:=by
 unfold zlf;rw [List.mem_flatMap];constructor
 ·rintro ⟨a,ha,h⟩;obtain ⟨k,hk,rfl⟩:=List.mem_map.mp h;have:=List.mem_range.mp ha;have:=List.mem_range.mp hk;exact ⟨by simp only;omega,by simp only;omega⟩
 ·rintro ⟨h1,h2⟩;exact ⟨t.1,List.mem_range.mpr (by omega),List.mem_map.mpr ⟨t.2 - (t.1+1),List.mem_range.mpr (by omega),by rw [show t.1+1+(t.2 - (t.1+1))=t.2 by omega]⟩⟩
theorem zlg {n:Nat}(hn:n<=100):∀ k,k<=n->((List.range k).flatMap fun a=>(List.range (n - (a+1))).map fun j=>(a,a+1+j)).length<=100 * k
 |0,_=>by simp
 |k+1,h=>by
  rw [List.range_succ,List.flatMap_append,List.length_append];have:=zlg hn k (by omega);simp only [List.flatMap_cons,List.flatMap_nil,List.append_nil,List.length_map,List.length_range];omega
noncomputable def zc8:VF:=fun ds Q=>∃ n:Nat,ds=[natD n]/\n<=100/\Q .ow (.lst ((zlf n).map zgM))
theorem zlh:∀ ds Q,zc8 ds Q->ds.length=1:=by rintro _ Q ⟨n,rfl,h⟩;rfl
noncomputable def zhj:VS:=(zdW 1)
noncomputable def zhk:VS:=(zat (zfz (gV 2) (zaa (zac 0) zai)
 (zsi 1 (zb7 (zru (zaa (vBin (vI fun i j=>.int (i+j)) (zac 2) (vC (.int 1))) (zaa (zac 0) zai))) zb5 (zrl (zaa (zac 3) (zaa (zac 0) zai)))))) zhj)
noncomputable def zg5:VS:=(zat (zbd 1 (zds (zbi zai))) zhk)
noncomputable abbrev zjn:List Str:=["many","pairs","a"]
theorem zl8:∀ ds Q,zc8 ds Q->zg5 {nx:=fun _=>Q .sh .non,rt:=Q} (zaz zjn ds):=by
 rintro _ Q ⟨n,rfl,hn,h⟩;simp! [zg5,zhk];refine ⟨(by first|exact zkj (by omega)|exact ⟨by omega,by omega⟩),?_⟩;refine zb8 n (fun k st=>∃ o2,st=[some (.sh,natD n),some (.ow,.lst (((List.range k).flatMap fun a=>(List.range (n - (a+1))).map fun j=>(a,a+1+j)).map zgM)),o2]) ?_ ?_ ⟨_,rfl⟩
 ·rintro k st kk hk ⟨o2,rfl⟩ hkk;simp! [];have ez:((n:Int) - ((k:Int)+1)).toNat=n - (k+1):=by omega
  rw [ez];refine ⟨⟨by omega,by omega,by omega,by omega⟩,Nat.le_trans (by omega:n - (k+1)<=1000) (by decide),?_⟩;rw [show (List.range (n - (k+1))).map (fun j=>D.int ((k:Int)+1+((j:Nat):Int)))=((List.range (n - (k+1))).map fun j=>k+1+j).map natD from by rw [List.map_map];exact zaM fun j _=>rfl];refine za0 natD (fun b=>zgM (k,b)) _ _ (fun b hb Q h=>?_) ?_
  ·simp! [];exact h
  ·have e1:((List.range (n - (k+1))).map fun j=>k+1+j).map (fun b=>zgM (k,b))=((List.range (n - (k+1))).map fun j=>(k,k+1+j)).map zgM:=by rw [List.map_map,List.map_map];rfl
   have l1:=zlg hn k (by omega);rw [e1,<-List.map_append];have e2:((List.range k).flatMap fun a=>(List.range (n - (a+1))).map fun j=>(a,a+1+j))++((List.range (n - (k+1))).map fun j=>(k,k+1+j))=(List.range (k+1)).flatMap fun a=>(List.range (n - (a+1))).map fun j=>(a,a+1+j):=by
    rw [List.range_succ,List.flatMap_append];simp
   rw [e2];refine ⟨?_,zgX _,hkk _ ⟨_,rfl⟩⟩;exact Nat.le_trans (by simp only [List.length_map,List.length_range];omega:_<=1000000) (by decide)
 ·rintro st ⟨o2,rfl⟩;simp! [zhj];exact h
noncomputable def zbU:VF:=fun ds Q=>∃ m:Nat,ds=[natD m]/\m<=1000/\Q .ow (.lst ((nbN m).map zgM))
theorem ziS:∀ ds Q,zbU ds Q->ds.length=1:=by rintro _ Q ⟨m,rfl,h⟩;rfl
noncomputable def zeU:VS:=(zci (zds (zb7 (zki (zaa (vBin (vI fun i j=>.int (i - j)) (zac 0) (vC (.int 1))) zai)) zb5 (zrl (zaa (zac 0) (zaa (vBin (vI fun i j=>.int (i+j)) (zac 0) (vC (.int 1))) zai))))))
noncomputable abbrev zhl:List Str:=["many"]
theorem zjS:∀ ds Q,zbU ds Q->zeU {nx:=fun _=>Q .sh .non,rt:=Q} (zaz zhl ds):=by
 rintro _ Q ⟨m,rfl,hm,h⟩;simp! [zeU];have e:((m:Int) - 1).toNat=m - 1:=by omega
 rw [e];refine ⟨(by first|exact zkj (by omega)|exact ⟨by omega,by omega⟩),Nat.le_trans (by omega:m - 1<=1000) (by decide),?_⟩;refine za0 natD (fun k=>zgM (k,k+1)) (List.range (m - 1)) _ (fun k hk Q h=>?_) ?_
 ·simp! [];exact h
 ·have e2:(List.range (m - 1)).map (fun k=>zgM (k,k+1))=(nbN m).map zgM:=by unfold nbN;rw [List.map_map];rfl
  rw [e2];exact ⟨zgX _,h⟩
noncomputable def zd0:VF:=fun ds Q=>∃ (n:Nat) (M:Nat->Nat->Bool) (is:List Int),ds=[zaF (webOf n M),.lst (is.map .int)]/\n<=100/\is.length<=100/\Q .sh (.bl (zk7 n M is))
theorem zl9:∀ ds Q,zd0 ds Q->ds.length=2:=by rintro _ Q ⟨n,M,is,rfl,h⟩;rfl
noncomputable def zih:VS:=(zci (zan (vBin fEq (zaq zcM (zaa (zaq zjl (zaa (zac 0) (zaa (zac 1) zai))) zai)) (zaq zbU (zaa (vCB zbP (zaa (zac 1) zai)) zai)))))
noncomputable def zii:VS:=(zat (ze7 (vOr (zb4 (vBin fEq (vCB zbP (zaa (zac 1) zai)) (vC (.int 0)))) (zpA (zb4 (zaq zbT (zaa (zac 0) (zaa (zac 1) zai))))))
 (zci (zan (vC (.bl false))))
 zbD) zih)
noncomputable abbrev zli:List Str:=["web","some"]
theorem znq:∀ ds Q,zd0 ds Q->zii {nx:=fun _=>Q .sh .non,rt:=Q} (zaz zli ds):=by
 rintro _ Q ⟨n,M,is,rfl,hn,hl,h⟩;unfold zk7 at h;simp! [zii];refine if2 (fun z=>?_) (fun z=>?_)
 ·rw [decide_eq_false (by have:=of_decide_eq_true z;omega),Bool.false_and] at h;exact h
 have z:is.length≠0:=fun e=>z (decide_eq_true (by omega));rw [decide_eq_true z,Bool.true_and] at h;refine ⟨webOf n M,is,rfl,by omega,?_⟩;rw [zau];cases ok:zh7 n is with
 |false=>
  rw [ok,Bool.false_and] at h;exact ifT (by decide) h
 |true=>
  rw [ok,Bool.true_and] at h;refine ifF (by decide) ?_;obtain ⟨ps,rfl,hps,hnd⟩:=zni ok;have em:(ps.map fun p:Nat=>(p:Int)).map Int.toNat=ps:=by
   rw [List.map_map];exact (List.map_congr_left (fun _ _=>rfl)).trans (List.map_id' ps)
  rw [em,List.length_map] at h;rw [List.length_map] at hl;simp! [zih];have ew:(ps.map fun p:Nat=>(p:Int)).map D.int=ps.map natD:=by rw [List.map_map];rfl
  rw [ew];refine ⟨webOf n M,ps,rfl,by rw [zau];exact hps,by omega,?_⟩;rw [znj hps];refine ⟨_,rfl,zot (by omega),by rw [zau];omega,ps.length,rfl,by omega,?_⟩;simp! [];rw [zpO];exact ⟨by have:=zpP (ziO (webOf ps.length (pt M ps)));simp only [D.dep] at this;omega,h⟩
noncomputable def za4:VF:=fun ds Q=>∃ (n:Nat) (M:Nat->Nat->Bool) (A B:List Nat),ds=[zaF (webOf n M),natD (msk n A),natD (msk n B)]/\n<=100/\(∀ p∈A,p<n)/\(∀ p∈B,p<n)/\Q .ow (zaF (webOf n (crossM M A B true)))
theorem zge:∀ ds Q,za4 ds Q->ds.length=3:=by rintro _ Q ⟨n,M,A,B,rfl,h⟩;rfl
noncomputable def zcP:VS:=(zci (zds (zb7 (zki (zaa (vCB zbP (zaa (zac 0) zai)) zai)) zb5 (vBin (vI fun i j=>.int (Builtin.bitOr i j)) (vBin (vI fun i j=>.int (Builtin.bitOr i j)) (vBin fIx (zac 1) (zac 0)) (vIf (zb4 (zaq zib (zaa (zac 2) (zaa (zac 0) zai)))) (zac 3) (vC (.int 0)))) (vIf (zb4 (zaq zib (zaa (zac 3) (zaa (zac 0) zai)))) (zac 2) (vC (.int 0)))))))
noncomputable abbrev zeq:List Str:=["web","one","two"]
theorem zg6:∀ ds Q,za4 ds Q->zcP {nx:=fun _=>Q .sh .non,rt:=Q} (zaz zeq ds):=by
 rintro _ Q ⟨n,M,A,B,rfl,hn,hA,hB,h⟩;simp! [zcP];rw [zau];refine ⟨(by first|exact zkj (by omega)|exact ⟨by omega,by omega⟩),Nat.le_trans (by omega:n<=1000) (by decide),?_⟩;refine za0 natD (fun p=>natD ((webOf n (crossM M A B true)).getD p 0)) (List.range n) _ (fun p hp Q h=>?_) ?_
 ·have hp:=List.mem_range.mp hp;have val:∀ x y:Nat,x=(if p∈A then msk n B else 0)->y=(if p∈B then msk n A else 0)->(webOf n M).getD p 0 ||| x ||| y=(webOf n (crossM M A B true)).getD p 0:=by
   rintro x y rfl rfl;apply Nat.eq_of_testBit_eq;intro q;rw [web_get hp,web_get hp,Nat.testBit_or,Nat.testBit_or,bm_bit,bm_bit];have b1:(if p∈A then msk n B else 0).testBit q=(decide (p∈A)&&decide (q∈B)):=by
    by_cases z:p∈A
    ·rw [if_pos z,zeR hB,decide_eq_true z,Bool.true_and]
    ·rw [if_neg z,Nat.zero_testBit,decide_eq_false z,Bool.false_and]
   have b2:(if p∈B then msk n A else 0).testBit q=(decide (p∈B)&&decide (q∈A)):=by
    by_cases z:p∈B
    ·rw [if_pos z,zeR hA,decide_eq_true z,Bool.true_and]
    ·rw [if_neg z,Nat.zero_testBit,decide_eq_false z,Bool.false_and]
   rw [b1,b2];unfold crossM;by_cases hq:q<n
   ·rw [decide_eq_true hq,Bool.true_and,Bool.true_and];cases M p q<;>cases decide (p∈A)<;>cases decide (q∈B)<;>cases decide (p∈B)<;>cases decide (q∈A)<;>rfl
   ·rw [decide_eq_false hq,decide_eq_false (fun z=>hq (hA q z)),decide_eq_false (fun z=>hq (hB q z))];simp
  have hasA:zrH (msk n A) (p:Int)=decide (p∈A):=by rw [zf5,zeR hA]
  have hasB:zrH (msk n B) (p:Int)=decide (p∈B):=by rw [zf5,zeR hB]
  simp! [];rw [web_at (by rw [zau];exact hp)];simp! [];refine ⟨msk n A,p,rfl,?_⟩;rw [hasA];refine if2 (fun z=>?_) (fun z=>?_)
  ·have z:p∈A:=of_decide_eq_true z;refine ⟨msk n B,p,rfl,?_⟩;rw [hasB];refine if2 (fun y=>?_) (fun y=>?_)
   ·rw [znh,znh,val _ _ (if_pos z).symm (if_pos (of_decide_eq_true y)).symm];exact h
   ·rw [znh,show (0:Int)=((0:Nat):Int) from rfl,znh,val _ _ (if_pos z).symm (if_neg (fun e=>y (decide_eq_true e))).symm];exact h
  ·have z:¬ p∈A:=fun e=>z (decide_eq_true e);refine ⟨msk n B,p,rfl,?_⟩;rw [hasB,show (0:Int)=((0:Nat):Int) from rfl,znh];refine if2 (fun y=>?_) (fun y=>?_)
   ·rw [znh,val _ _ (if_neg z).symm (if_pos (of_decide_eq_true y)).symm];exact h
   ·rw [znh,val _ _ (if_neg z).symm (if_neg (fun e=>y (decide_eq_true e))).symm];exact h
 ·have e:(List.range n).map (fun p=>natD ((webOf n (crossM M A B true)).getD p 0))=(webOf n (crossM M A B true)).map natD:=by
   have:=zfm 0 natD (webOf n (crossM M A B true));rw [zau] at this;exact this.symm
  rw [e];exact ⟨zbj _,h⟩
noncomputable def za5:VF:=fun ds Q=>∃ (n:Nat) (rows:List zbx),ds=[natD n,.lst (rows.map zas)]/\n<=14/\rows.length<=100/\okR n rows/\Q .ow (zaF (webOf n (simS n rows).2))
theorem zgf:∀ ds Q,za5 ds Q->ds.length=2:=by rintro _ Q ⟨n,rows,rfl,h⟩;rfl
theorem znr {M:Nat->Nat->Bool}(g:Good M){A B:List Nat}(h:∀ p∈A,∀ q∈B,p≠q/\M p q=false):crossM M A B false=M:=by
 funext a b;unfold crossM;split
 ·rename_i z;simp only [Bool.or_eq_true,Bool.and_eq_true,decide_eq_true_iff] at z;rcases z with ⟨z1,z2⟩|⟨z1,z2⟩
  ·exact ((h a z1 b z2).2).symm
  ·rw [g.sym];exact ((h b z2 a z1).2).symm
 ·rfl
noncomputable def r_web_of_joining_2b1:VS:=(zn7 3 (zan (vBin (vI fun i j=>.int (Builtin.bitOr i j)) (vBin fIx (zac 3) (zac 5)) (vBin fIx (zac 3) (zac 6)))))
noncomputable def zdx:VS:=(zdW 2)
noncomputable def zdy:VS:=(zat (vFz 1 (zlF (zti 4 5 6) (zkK 1)
 (zat (ze7 (zb4 (vBin fEq (zac 4) (vC (.int 1))))
 (zbd 2 (zaK za4 (zaa (zac 2) (zaa (vBin fIx (zac 3) (zac 5)) (zaa (vBin fIx (zac 3) (zac 6)) zai)))))
 zbD) r_web_of_joining_2b1))) zdx)
noncomputable def zdz:VS:=(zat (zbd 3 (zds (zb7 (zki (zaa (zac 0) zai)) zb5 (zaq zbf (zaa (zac 0) zai))))) zdy)
noncomputable def zcQ:VS:=(zat (zbd 2 (zds (zlW (zbi (zaa (vC (.int 0)) zai)) (zac 0)))) zdz)
noncomputable abbrev zer:List Str:=["many","rows","web","things","mark","x","y"]
theorem zqb (n:Nat):(List.replicate n [D.int 0]).flatten=(webOf n fun _ _=>false).map natD:=by
 have e:(webOf n fun _ _=>false)=(List.range n).map fun _=>0:=by
  unfold webOf;refine List.map_congr_left fun a _=>?_;apply Nat.eq_of_testBit_eq;intro p;rw [bm_bit,Bool.and_false,Nat.zero_testBit]
 rw [e,List.map_map];clear e
 induction n with
 |zero=>rfl
 |succ n ih=>rw [List.replicate_succ',List.flatten_append,ih,List.range_succ,List.map_append];rfl
theorem zg7:∀ ds Q,za5 ds Q->zcQ {nx:=fun _=>Q .sh .non,rt:=Q} (zaz zer ds):=by
 rintro _ Q ⟨n,rows,rfl,hn,hl,ok,h⟩;have sz:∀ n,n<=1000->n<=sizeLine:=fun n h=>Nat.le_trans h (by decide);simp! [zcQ];rw [zqb];refine ⟨⟨by omega,by omega⟩,sz _ (by omega),zbj _,?_⟩;simp! [zdz];refine ⟨(by first|exact zkj (by omega)|exact ⟨by omega,by omega⟩),sz _ (by omega),?_⟩;refine za0 natD (fun p=>natD (msk n [p])) (List.range n) _ (fun p hp Q h=>?_) ?_
 ·have hp:=List.mem_range.mp hp;simp! [];refine ⟨p,rfl,by omega,by omega,?_⟩;rw [Int.toNat_natCast,show ((2:Int) ^ p)=((2 ^ p:Nat):Int) from by rw [Int.natCast_pow];rfl,zrW hp];exact h
 have e0:(List.range n).map (fun p=>natD (msk n [p]))=thD n (simS n []).1:=by
  show _=thD n ((List.range n).map fun p=>[p])
  unfold thD;rw [List.map_map];rfl
 have fth:∀ T:List (List Nat),flats (thD n T)=true:=fun T=>zdX (fun t=>by simp [D.flat]) T;rw [e0];refine ⟨fth _,?_⟩;simp! [zdy];refine zbw zas rows (fun pre st=>∃ o4 o5 o6,st=[some (.sh,natD n),some (.sh,.lst (rows.map zas)),some (.ow,zaF (webOf n (simS n pre).2)),some (.ow,.lst (thD n (simS n pre).1)),o4,o5,o6]) ?_ ?_ ⟨_,_,_,rfl⟩
 ·rintro pre r post st kk e ⟨o4,o5,o6,rfl⟩ hkk;have okr:=ok pre r post e;obtain ⟨⟨g,hm,hnd⟩,hlen⟩:=zeQ ok pre.length pre (r::post) rfl e;obtain ⟨hx,hy,hr1,hsep⟩:=okr;have hpl:pre.length<=100:=by have:=congrArg List.length e;simp at this;omega
  rw [za1] at hkk;generalize simS n pre=s at hkk g hm hnd hlen hx hy hsep ⊢;have eT:thD n s.1++[natD (msk n (s.1.getD r.2.1 []++s.1.getD r.2.2 []))]=thD n (zee s r).1:=by
   show _=thD n (s.1++[s.1.getD r.2.1 []++s.1.getD r.2.2 []])
   unfold thD;rw [List.map_append];rfl
  have nxt:∀ (M':Nat->Nat->Bool) (B:LSt->Prop),M'=(zee s r).2->r_web_of_joining_2b1 {nx:=kk,rt:=Q,ct:=kk,bk:=B} [some (.sh,natD n),some (.sh,.lst (rows.map zas)),some (.ow,zaF (webOf n M')),some (.ow,.lst (thD n s.1)),some (.sh,natD r.1),some (.sh,natD r.2.1),some (.sh,natD r.2.2)]:=by
   rintro M' B rfl;simp! [r_web_of_joining_2b1,appM,if_true];rw [zp5 hx,zp5 hy];simp! [];rw [znh,ztu (hm _) (hm _),eT];have:(thD n s.1).length<=1000:=by unfold thD;rw [List.length_map,hlen];omega
   exact ⟨zby (by omega),hkk _ ⟨_,_,_,rfl⟩⟩
  simp! [];have ed:decide ((r.1:Int)=1)=decide (r.1=1):=decide_eq_decide.mpr (by omega);rw [ed];refine if2 (fun z=>?_) (fun z=>nxt _ _ ?_)
  ·rw [zp5 hx,zp5 hy];refine ⟨n,s.2,s.1.getD r.2.1 [],s.1.getD r.2.2 [],rfl,by omega,hm _,hm _,.inl rfl,nxt _ _ ?_⟩;show _=crossM s.2 _ _ (decide (r.1=1))
   rw [z]
  ·show _=crossM s.2 _ _ (decide (r.1=1))
   rw [Bool.eq_false_iff.mpr z,znr g hsep]
 ·rintro st ⟨o4,o5,o6,rfl⟩;simp! [zdx];exact h
noncomputable def zct:VF:=fun ds Q=>∃ (r:List Int) (made:Nat) (named:List Int),ds=[zhA r,natD made,zhA named]/\r.length<=1000/\Q .sh (.bl (zdY made named r))
theorem zjT:∀ ds Q,zct ds Q->ds.length=3:=by rintro _ Q ⟨r,m,nm,rfl,h⟩;rfl
noncomputable def zgg:VS:=(zci (zan (vCB zrC (zaa (zdT (zb7 (zdk (zdT (vSl (zac 0) (vP (vC (.int 1))) zrm))) zb5 (zgQ (zkR fLe fLt (vC (.int 0)) (zac 0) (zac 2)) (vBin zh0 (zac 0) (zac 3))))) zai))))
noncomputable def zfD:VS:=(zat (ze7 (vOr (zb4 (vBin fNe (vCB zbP (zaa (zac 0) zai)) (vC (.int 3)))) (vOr (zb4 (vBin zh0 (vBin fIx (zac 0) (vC (.int 0))) (zrl (zaa (vC (.int 0)) (zaa (vC (.int 1)) zai))))) (zb4 (vBin fEq (vBin fIx (zac 0) (vC (.int 1))) (vBin fIx (zac 0) (vC (.int 2)))))))
 (zci (zan (vC (.bl false))))
 zbD) zgg)
noncomputable abbrev zij:List Str:=["row","made","named"]
theorem zvc (x:Int):([D.int 0,D.int 1].any fun z=>deq z (.int x))=(decide (x=0)||decide (x=1)):=by
 simp only [List.any_cons,List.any_nil,Bool.or_false,zea];rw [decide_eq_decide.mpr (show (0:Int)=x↔x=0 from eq_comm),decide_eq_decide.mpr (show (1:Int)=x↔x=1 from eq_comm)]
theorem zlj:∀ ds Q,zct ds Q->zfD {nx:=fun _=>Q .sh .non,rt:=Q} (zaz zij ds):=by
 rintro _ Q ⟨r,made,named,rfl,hl,h⟩;unfold zdY at h;simp! [zfD];refine if2 (fun z=>?_) (fun z=>?_)
 ·have z:¬ r.length=3:=fun e=>by rw [e] at z;simp at z
  rw [decide_eq_false z,Bool.false_and] at h;exact h
 have z:r.length=3:=by
  by_cases e:r.length=3
  ·exact e
  ·exact absurd (by simp;omega) z
 rw [decide_eq_true z,Bool.true_and] at h;obtain ⟨a,b,c,rfl⟩:=zuK z;obtain ⟨e0,e1,e2⟩:=at3 (.int a) (.int b) (.int c);have h:Q .sh (.bl ((decide (a=0)||decide (a=1))&&(decide (b≠c)&&(nmB made named b&&nmB made named c)))):=h;simp! [];rw [e0,e1,e2];simp! [];rw [zvc];refine ⟨by simp [deps,D.dep],if2 (fun y=>?_) (fun y=>?_)⟩
 ·have y:(decide (a=0)||decide (a=1))=false:=by simpa using y
  rw [y,Bool.false_and] at h;exact h
 have y:(decide (a=0)||decide (a=1))=true:=by
  cases e:(decide (a=0)||decide (a=1)) with
  |true=>rfl
  |false=>exact absurd (by rw [e];rfl) y
 rw [y,Bool.true_and] at h;refine if2 (fun x=>?_) (fun x=>?_)
 ·rw [decide_eq_false (fun hc=>hc (of_decide_eq_true x)),Bool.false_and] at h;exact h
 rw [decide_eq_true (show b≠c from fun e=>x (decide_eq_true e)),Bool.true_and] at h;simp! [zgg];rw [show VL.zqA [D.int a,D.int b,D.int c] (some 1) none=[b,c].map D.int from zmN [D.int a,D.int b,D.int c] 1];have dn:=deps_ints named;refine ⟨Nat.le_trans (by simp:_<=1000) (by decide),?_⟩;refine za0 D.int (fun x=>.bl (nmB made named x)) [b,c] _ (fun x _ Q h=>?_) ?_
 ·simp! [];rw [zrU];unfold nmB at h;refine if2 (fun w=>?_) (fun w=>?_)
  ·rw [w,Bool.true_and] at h;refine if2 (fun w2=>?_) (fun w2=>?_)
   ·rw [w2,Bool.true_and] at h;refine ⟨by omega,?_⟩;rw [show (!decide (x∈named))=decide (x∉named) from by simp];exact h
   ·rw [Bool.eq_false_iff.mpr w2,Bool.false_and] at h;exact h
  ·rw [Bool.eq_false_iff.mpr w,Bool.false_and,Bool.false_and] at h;exact h
 refine ⟨[nmB made named b,nmB made named c],rfl,?_⟩;exact ⟨rfl,by simpa using h⟩
noncomputable def zaw:VF:=fun ds Q=>∃ (n:Nat) (rows:List (List Int)),ds=[natD n,.lst (rows.map zhA)]/\n<=14/\rows.length<=100/\(∀ r∈rows,r.length<=100)/\Q .sh (.bl (joB n rows))
theorem zeg:∀ ds Q,zaw ds Q->ds.length=2:=by rintro _ Q ⟨n,rows,rfl,h⟩;rfl
noncomputable def zbM:VS:=(zsi 2 (vSl (vBin fIx (zac 1) (zac 3)) (vP (vC (.int 1))) zrm))
noncomputable def zca:VS:=(zci (zan (vC (.bl true))))
noncomputable def zcb:VS:=(zat (zfz (gV 3) (zaa (vCB zbP (zaa (zac 1) zai)) zai)
 (zat (ze7 (zpA (zb4 (zaq zct (zaa (vBin fIx (zac 1) (zac 3)) (zaa (vBin (vI fun i j=>.int (i+j)) (zac 0) (zac 3)) (zaa (zac 2) zai))))))
 (zci (zan (vC (.bl false))))
 zbD) zbM)) zca)
noncomputable def zcc:VS:=(zat (zbd 2 (zds (zbi zai))) zcb)
noncomputable def zbA:VS:=(zat (ze7 (zb4 (vBin fNe (vCB zbP (zaa (zac 1) zai)) (vCB zn4 (zaa (vBin (vI fun i j=>.int (i - j)) (zac 0) (vC (.int 1))) (zaa (vC (.int 0)) zai)))))
 (zci (zan (vC (.bl false))))
 zbD) zcc)
noncomputable abbrev zcN:List Str:=["many","rows","named","k"]
theorem zeI:∀ ds Q,zaw ds Q->zbA {nx:=fun _=>Q .sh .non,rt:=Q} (zaz zcN ds):=by
 rintro _ Q ⟨n,rows,rfl,hn,hl,hrl,h⟩;have sp:joB n rows=(decide (rows.length=n - 1)&&(List.range rows.length).all fun j=>zdY (n+j) (zbh (rows.take j)) (rows.getD j [])):=rfl;have em:(if (0:Int)>(n:Int) - 1 then (0:Int) else (n:Int) - 1)=((n - 1:Nat):Int):=by split<;>omega
 simp! [zbA];rw [em];have ed:decide ((rows.length:Int)=((n - 1:Nat):Int))=decide (rows.length=n - 1):=decide_eq_decide.mpr (by omega);rw [ed];refine if2 (fun z=>?_) (fun z=>?_)
 ·have z:decide (rows.length=n - 1)=false:=by simpa using z
  rw [sp,z,Bool.false_and] at h;exact h
 have z:decide (rows.length=n - 1)=true:=by simpa using z
 rw [z,Bool.true_and] at sp;simp! [zcc,zcb];refine ⟨(by first|exact zkj (by omega)|exact ⟨by omega,by omega⟩),?_⟩;refine zb8 rows.length (fun k st=>∃ (o3:Option (Md×D)),(∀ j,j<k->zdY (n+j) (zbh (rows.take j)) (rows.getD j [])=true)/\st=[some (.sh,natD n),some (.sh,.lst (rows.map zhA)),some (.ow,zhA (zbh (rows.take k))),o3]) ?_ ?_ ⟨_,(fun j hj=>absurd hj (by omega)),rfl⟩
 ·rintro k st kk hk ⟨o3,hin,rfl⟩ hkk;have enk:(n:Int)+(k:Int)=((n+k:Nat):Int):=by omega
  have hrk:=hrl _ (zoM hk);have hnl:=zk6 hrl hl k (by omega);simp! [];rw [zoL hk,enk];refine ⟨rows.getD k [],n+k,zbh (rows.take k),rfl,by omega,?_⟩;simp! [];refine if2 (fun y=>?_) (fun y=>?_)
  ·have y:zdY (n+k) (zbh (rows.take k)) (rows.getD k [])=false:=by simpa using y
   have:((List.range rows.length).all fun j=>zdY (n+j) (zbh (rows.take j)) (rows.getD j []))=false:=by
    rw [List.all_eq_false];exact ⟨k,List.mem_range.mpr hk,by rw [y];decide⟩
   rw [sp,this] at h;exact h
  ·have y:zdY (n+k) (zbh (rows.take k)) (rows.getD k [])=true:=by simpa using y
   simp! [zbM];rw [zoL hk];simp! [];rw [show VL.zqA ((rows.getD k []).map D.int) (some 1) none=_ from zmN ((rows.getD k []).map D.int) 1,<-List.map_drop,<-List.map_append,<-zjh hk];refine ⟨?_,zgW _,hkk _ ⟨_,fun j hj=>?_,rfl⟩⟩
   ·exact Nat.le_trans (by simp only [List.length_map,List.length_drop];omega:_<=1000000) (by decide)
   ·by_cases ee:j=k
    ·rw [ee];exact y
    ·exact hin j (by omega)
 ·rintro st ⟨o3,hin,rfl⟩;have:((List.range rows.length).all fun j=>zdY (n+j) (zbh (rows.take j)) (rows.getD j []))=true:=List.all_eq_true.mpr fun j hj=>hin j (List.mem_range.mp hj);simp! [zca];rw [sp,this] at h;exact h
noncomputable def isJ (n:Nat)(M:Nat->Nat->Bool)(rows:List (List Int)):Bool:=joB n rows&&eqW n (simS n (rows.map toR)).2 M
noncomputable def zaP:VF:=fun ds Q=>∃ (n:Nat) (M:Nat->Nat->Bool) (rows:List (List Int)),ds=[zaF (webOf n M),.lst (rows.map zhA)]/\n<=14/\rows.length<=100/\(∀ r∈rows,r.length<=100)/\Q .sh (.bl (isJ n M rows))
theorem ziT:∀ ds Q,zaP ds Q->ds.length=2:=by rintro _ Q ⟨n,M,rows,rfl,h⟩;rfl
noncomputable def zeV:VS:=(zci (zan (zgQ (zaq zaw (zaa (vCB zbP (zaa (zac 0) zai)) (zaa (zac 1) zai))) (vBin fEq (zaq za5 (zaa (vCB zbP (zaa (zac 0) zai)) (zaa (zac 1) zai))) (zac 0)))))
noncomputable abbrev zhm:List Str:=["web","rows"]
theorem zjU:∀ ds Q,zaP ds Q->zeV {nx:=fun _=>Q .sh .non,rt:=Q} (zaz zhm ds):=by
 rintro _ Q ⟨n,M,rows,rfl,hn,hl,hrl,h⟩;unfold isJ at h;simp! [zeV];rw [zau];refine ⟨n,rows,rfl,hn,hl,hrl,?_⟩;simp! [];refine if2 (fun z=>?_) (fun z=>?_)
 ·rw [z,Bool.true_and] at h;obtain ⟨e1,ok⟩:=zrZ z;refine ⟨n,rows.map toR,by rw [zeS,<-e1],hn,by rw [List.length_map];exact hl,ok,?_⟩;simp! [];rw [zoi];have d2:=zh4 (webOf n (simS n (rows.map toR)).2);exact ⟨by omega,h⟩
 ·rw [Bool.eq_false_iff.mpr z,Bool.false_and] at h;exact h
noncomputable def zcu:VF:=fun ds Q=>∃ (n:Nat) (M:Nat->Nat->Bool) (f:Nat->Bool) (a b:Nat),ds=[zaF (webOf n M),natD a,natD b,natD (bm n f)]/\n<=100/\a<n/\b<n/\Q .sh (.bl (twB n M f a b))
theorem zjV:∀ ds Q,zcu ds Q->ds.length=4:=by rintro _ Q ⟨n,M,f,a,b,rfl,h⟩;rfl
noncomputable def zgh:VS:=(zci (zan (vBin fEq (vBin (vI fun i j=>.int (Builtin.bitAnd i j)) (vBin fIx (zac 0) (zac 1)) (zac 4)) (vBin (vI fun i j=>.int (Builtin.bitAnd i j)) (vBin fIx (zac 0) (zac 2)) (zac 4)))))
noncomputable def zfE:VS:=(zat (zbd 4 (zaK zba (zaa (zac 3) (zaa (vBin (vI fun i j=>.int (Builtin.bitOr i j)) (zaq zbf (zaa (zac 1) zai)) (zaq zbf (zaa (zac 2) zai))) zai)))) zgh)
noncomputable abbrev zik:List Str:=["web","a","b","left","others"]
theorem zlk:∀ ds Q,zcu ds Q->zfE {nx:=fun _=>Q .sh .non,rt:=Q} (zaz zik ds):=by
 rintro _ Q ⟨n,M,f,a,b,rfl,hn,ha,hb,h⟩;simp! [zfE];refine ⟨_,rfl,by omega,by omega,_,rfl,by omega,by omega,?_⟩;simp! [];rw [zeb,zeb,znh];refine ⟨_,_,rfl,.inr ⟨rfl,by simp [D.flat]⟩,?_⟩;simp! [zgh];rw [zdm (by rw [zau];exact ha),zdm (by rw [zau];exact hb)];simp! [];rw [zta,zta];have e1:decide ((((webOf n M).getD a 0 &&& zmQ (bm n f) (2 ^ a ||| 2 ^ b):Nat):Int)=(((webOf n M).getD b 0 &&& zmQ (bm n f) (2 ^ a ||| 2 ^ b):Nat):Int))=twB n M f a b:=by
  rw [<-zuy ha hb];exact decide_eq_decide.mpr (by omega)
 rw [e1];exact h
noncomputable def zc9:VF:=fun ds Q=>∃ (n:Nat) (M:Nat->Nat->Bool) (f:Nat->Bool),ds=[zaF (webOf n M),natD (bm n f)]/\n<=100/\(∀ a b:Nat,a<n->b<n->f a=true->f b=true->a≠b->twB n M f a b=true->Q .sh (zgM (a,b)))/\((∀ a b:Nat,a<n->b<n->f a=true->f b=true->a≠b->twB n M f a b=false)->Q .sh .non)
theorem zll:∀ ds Q,zc9 ds Q->ds.length=2:=by rintro _ Q ⟨n,M,f,rfl,h⟩;rfl
noncomputable def zhn:VS:=(zci (zan (vC .non)))
noncomputable def zho:VS:=(zat (zlF (gV2 3 4) (zaK zc8 (zaa (vCB zbP (zaa (zac 2) zai)) zai))
 (ze7 (zb4 (zaq zcu (zaa (zac 0) (zaa (vBin fIx (zac 2) (zac 3)) (zaa (vBin fIx (zac 2) (zac 4)) (zaa (zac 1) zai))))))
 (zci (zan (zrl (zaa (vBin fIx (zac 2) (zac 3)) (zaa (vBin fIx (zac 2) (zac 4)) zai)))))
 zbD)) zhn)
noncomputable def zg8:VS:=(zat (zbd 2 (zaK zaN (zaa (zac 1) zai))) zho)
noncomputable abbrev zjo:List Str:=["web","left","points","j","k"]
theorem zma:∀ ds Q,zc9 ds Q->zg8 {nx:=fun _=>Q .sh .non,rt:=Q} (zaz zjo ds):=by
 rintro _ Q ⟨n,M,f,rfl,hn,h1,h2⟩;simp! [zg8];refine ⟨bm n f,rfl,Nat.le_trans (zh6 (zkT n f)) (by omega),.inl rfl,?_⟩;rw [zkU];have hin:∀ p∈(List.range n).filter f,p<n/\f p=true:=fun p hp=>⟨List.mem_range.mp (List.mem_filter.mp hp).1,(List.mem_filter.mp hp).2⟩;have hall:∀ p,p<n->f p=true->p∈(List.range n).filter f:=fun p h1 h2=>List.mem_filter.mpr ⟨List.mem_range.mpr h1,h2⟩;have hnd:((List.range n).filter f).Nodup:=List.Pairwise.filter _ List.nodup_range;have hlen:((List.range n).filter f).length<=n:=Nat.le_trans (List.length_filter_le _ _) (by simp);generalize (List.range n).filter f=ps at hin hall hnd hlen ⊢;simp! [zho];refine ⟨ps.length,rfl,by omega,.inl rfl,?_⟩;have lt:∀ i,i<ps.length->ps.getD i 0<n/\f (ps.getD i 0)=true:=fun i hi=>hin _ (by rw [List.getD_eq_getElem?_getD,List.getElem?_eq_getElem hi];exact List.getElem_mem hi);refine zbw zgM (zlf ps.length) (fun pre st=>∃ o3 o4,(∀ t∈pre,twB n M f (ps.getD t.1 0) (ps.getD t.2 0)=false)/\st=[some (.sh,zaF (webOf n M)),some (.sh,natD (bm n f)),some (.ow,zaF ps),o3,o4]) ?_ ?_ ⟨_,_,by simp,rfl⟩
 ·rintro pre t post st kk e ⟨o3,o4,hd,rfl⟩ hkk;obtain ⟨j,k⟩:=t;obtain ⟨hlt,hdn⟩:=pairs_mem.mp (show (j,k)∈zlf ps.length by rw [e];simp);have hlt:j<k:=hlt;have hdn:k<ps.length:=hdn;obtain ⟨a1,a2⟩:=lt j (by omega);obtain ⟨b1,b2⟩:=lt k hdn;simp! [];rw [zdm (by omega),zdm hdn];simp! [];refine ⟨n,M,f,_,_,rfl,hn,a1,b1,?_⟩;refine if2 (fun z=>?_) (fun z=>?_)
  ·exact h1 _ _ a1 b1 a2 b2 (zjg hnd (by omega) hdn (by omega)) z
  ·refine hkk _ ⟨_,_,fun t ht=>?_,rfl⟩;rcases List.mem_append.mp ht with ht|ht
   ·exact hd t ht
   ·obtain rfl:t=(j,k):=by simpa using ht
    exact Bool.eq_false_iff.mpr z
 ·rintro st ⟨o3,o4,hd,rfl⟩;simp! [zhn];refine h2 fun a b ha hb hfa hfb hab=>?_;obtain ⟨i,hi,ei⟩:=List.mem_iff_getElem.mp (hall a ha hfa);obtain ⟨j,hj,ej⟩:=List.mem_iff_getElem.mp (hall b hb hfb);have gi:ps.getD i 0=a:=by rw [List.getD_eq_getElem?_getD,List.getElem?_eq_getElem hi];exact ei
  have gj:ps.getD j 0=b:=by rw [List.getD_eq_getElem?_getD,List.getElem?_eq_getElem hj];exact ej
  by_cases hij:i<j
  ·have:=hd (i,j) (pairs_mem.mpr ⟨hij,hj⟩);rw [<-gi,<-gj];exact this
  ·have hne:i≠j:=fun z=>hab (by subst z;rw [<-gi,gj]);have:=hd (j,i) (pairs_mem.mpr ⟨by show j<i;omega,hi⟩);rw [<-gi,<-gj,ztv];exact this
theorem zdA {n:Nat}{rs:List zbx}(h:zbz n rs):∀ i∈namedN rs,i<n+rs.length:=by
 intro i hi;unfold namedN at hi;obtain ⟨r,hr,hi⟩:=List.mem_flatMap.mp hi;obtain ⟨pre,post,e⟩:=List.append_of_mem hr;obtain ⟨_,h2,h3,_⟩:=h pre r post e;have:pre.length<=rs.length:=by rw [e];simp
 simp only [List.mem_cons,List.not_mem_nil,or_false] at hi;omega
theorem zgi {n:Nat}{rs:List zbx}{r:zbx}(h:zbz n rs)(hr:r.1<=1/\r.2.1<n+rs.length/\r.2.2<n+rs.length/\r.2.1≠r.2.2/\r.2.1∉namedN rs/\r.2.2∉namedN rs):zbz n (rs++[r]):=by
 intro pre r' post e;rcases List.eq_nil_or_concat post with rfl|⟨p,l,rfl⟩
 ·obtain ⟨rfl,e2⟩:=List.append_inj' e rfl;obtain rfl:r=r':=by simpa using e2
  exact hr
 ·have e:rs++[r]=(pre++r'::p)++[l]:=by rw [e];simp
  obtain ⟨e1,_⟩:=List.append_inj' e rfl;exact h pre r' p e1
theorem zqc (rs:List zbx):zbh (rs.map zdn)=(namedN rs).map fun i:Nat=>(i:Int):=by
 unfold zbh namedN
 induction rs with
 |nil=>rfl
 |cons r rs ih=>rw [List.map_cons,List.flatMap_cons,List.flatMap_cons,List.map_append,ih];rfl
theorem zmb {n:Nat}{rs:List zbx}(h:zbz n rs)(hl:rs.length=n - 1):joB n (rs.map zdn)=true:=by
 unfold joB;rw [Bool.and_eq_true,List.length_map,decide_eq_true_iff,List.all_eq_true];refine ⟨hl,fun j hj=>?_⟩;have hj:=List.mem_range.mp hj;have e1:rs=rs.take j++rs[j]::rs.drop (j+1):=by rw [<-List.drop_eq_getElem_cons hj,List.take_append_drop]
 obtain ⟨n1,n2,n3,n4,n5,n6⟩:=h _ _ _ e1;have lt:(rs.take j).length=j:=by rw [List.length_take];omega
 rw [lt] at n2 n3;have e2:(rs.map zdn).getD j []=zdn rs[j]:=by rw [List.getD_eq_getElem?_getD,List.getElem?_map,List.getElem?_eq_getElem hj];rfl
 rw [e2,<-List.map_take,zqc];have nin:∀ x:Nat,x∉namedN (rs.take j)->(x:Int)∉(namedN (rs.take j)).map fun i:Nat=>(i:Int):=fun x hx hm=>by
  obtain ⟨y,hy,ey⟩:=List.mem_map.mp hm;have:y=x:=by omega
  exact hx (this▸hy)
 generalize rs[j]=r at n1 n2 n3 n4 n5 n6 ⊢;obtain ⟨v,x,y⟩:=r;unfold zdY nmB;show (decide (3=3)&&((decide ((v:Int)=0)||decide ((v:Int)=1))&&(decide ((x:Int)≠(y:Int))&&(((decide (0<=(x:Int))&&decide ((x:Int)<((n+j:Nat):Int)))&&decide ((x:Int)∉(namedN (rs.take j)).map fun i:Nat=>(i:Int)))&&((decide (0<=(y:Int))&&decide ((y:Int)<((n+j:Nat):Int)))&&decide ((y:Int)∉(namedN (rs.take j)).map fun i:Nat=>(i:Int)))))))=true;have n1:v<=1:=n1;have n2:x<n+j:=n2;have n3:y<n+j:=n3;have n4:x≠y:=n4;have w1:=nin x n5;have w2:=nin y n6;rw [decide_eq_true (show (x:Int)≠(y:Int) by omega),decide_eq_true (show 0<=(x:Int) by omega),decide_eq_true (show (x:Int)<((n+j:Nat):Int) by omega),decide_eq_true w1,decide_eq_true (show 0<=(y:Int) by omega),decide_eq_true (show (y:Int)<((n+j:Nat):Int) by omega),decide_eq_true w2];have hv:v=0\/v=1:=by omega
 rcases hv with rfl|rfl<;>rfl
noncomputable abbrev grp (n:Nat)(acc:List zbx)(th:Nat->Nat)(p:Nat):List Nat:=(simS n acc).1.getD (th p) []
structure JI (n:Nat)(M:Nat->Nat->Bool)(L:List Nat)(th:Nat->Nat)(acc:List zbx):Prop where
 nice:zbz n acc
 nd:L.Nodup
 lt:∀ p∈L,p<n
 len:L.length+acc.length=n
 tlt:∀ p∈L,th p<n+acc.length/\th p∉namedN acc
 inj:∀ p∈L,∀ q∈L,p≠q->th p≠th q
 cov:∀ x,x<n->∃ p∈L,x∈grp n acc th p
 ins:∀ p∈L,∀ x∈grp n acc th p,∀ y∈grp n acc th p,(simS n acc).2 x y=M x y
 acr:∀ p∈L,∀ q∈L,p≠q->∀ x∈grp n acc th p,∀ y∈grp n acc th q,M x y=M p q
 nol:∀ p∈L,NoL M (grp n acc th p)
theorem zqd (n:Nat){M:Nat->Nat->Bool}(g:Good M):JI n M (List.range n) (fun p=>p) []:=by
 have at0:∀ i∈List.range n,grp n [] (fun p=>p) i=[i]:=fun i hi=>by
  show ((List.range n).map fun p=>[p]).getD i []=_
  rw [List.getD_eq_getElem?_getD,List.getElem?_map,List.getElem?_range (List.mem_range.mp hi)];rfl
 refine ⟨fun pre r post e=>(by cases pre<;>cases e),List.nodup_range,fun p hp=>List.mem_range.mp hp,by simp,fun p hp=>⟨List.mem_range.mp hp,by simp [namedN]⟩,fun p _ q _ h=>h,fun x hx=>⟨x,List.mem_range.mpr hx,by rw [at0 x (List.mem_range.mpr hx)];simp⟩,fun p hp x hx y hy=>?_,fun p hp q hq hpq x hx y hy=>?_,fun p hp=>?_⟩
 ·rw [at0 p hp] at hx hy;rw [List.mem_singleton.mp hx,List.mem_singleton.mp hy,g.irr];rfl
 ·rw [at0 p hp] at hx;rw [at0 q hq] at hy;rw [List.mem_singleton.mp hx,List.mem_singleton.mp hy]
 ·rw [at0 p hp];intro a ha b hb c _ d _ h _ _ _ _ _;rw [List.mem_singleton.mp ha,List.mem_singleton.mp hb,g.irr] at h;cases h
theorem zr4 {n:Nat}{M:Nat->Nat->Bool}(g:Good M){L:List Nat}{th:Nat->Nat}{acc:List zbx}(J:JI n M L th acc){a b:Nat}(ha:a∈L)(hb:b∈L)(hab:a≠b)(tw:∀ c∈L,c≠a->c≠b->M a c=M b c):JI n M (L.erase b) (fun p=>if p=a then n+acc.length else th p) (acc++[(if M a b=true then 1 else 0,th a,th b)]):=by
 obtain ⟨hok,hsep⟩:=zg1 J.nice acc.length acc [] rfl (by simp);obtain ⟨⟨gs,hm,hnd⟩,hlen⟩:=zeQ hok acc.length acc [] rfl (by simp);have un:∀ p∈L,th p∈(List.range (n+acc.length)).filter fun i=>decide (i∉namedN acc):=fun p hp=>List.mem_filter.mpr ⟨List.mem_range.mpr (J.tlt p hp).1,decide_eq_true (J.tlt p hp).2⟩;have dis:∀ p∈L,∀ q∈L,p≠q->∀ x∈grp n acc th p,x∉grp n acc th q:=fun p hp q hq hpq x hx hx'=>(hsep _ (un p hp) _ (un q hq) (J.inj p hp q hq hpq) x hx x hx').1 rfl;have hnl:=zdA J.nice;have er:∀ p,p∈L.erase b↔p≠b/\p∈L:=fun p=>J.nd.mem_erase_iff;have gold:∀ p∈L,p≠a->grp n (acc++[(if M a b=true then 1 else 0,th a,th b)]) (fun p=>if p=a then n+acc.length else th p) p=grp n acc th p:=fun p hp hpa=>by
  unfold grp;rw [za1];show ((simS n acc).1++[_]).getD (if p=a then n+acc.length else th p) []=_
  rw [if_neg hpa,zaZ,if_pos (by rw [hlen];exact (J.tlt p hp).1)]
 have gnew:grp n (acc++[(if M a b=true then 1 else 0,th a,th b)]) (fun p=>if p=a then n+acc.length else th p) a=grp n acc th a++grp n acc th b:=by
  unfold grp;rw [za1];show ((simS n acc).1++[_]).getD (if a=a then n+acc.length else th a) []=_
  rw [if_pos rfl,zaZ,if_neg (by omega),if_pos hlen.symm]
 have mval:decide ((if M a b=true then 1 else 0)=1)=M a b:=by cases M a b<;>rfl
 have s2:∀ x y,(simS n (acc++[(if M a b=true then 1 else 0,th a,th b)])).2 x y=crossM (simS n acc).2 (grp n acc th a) (grp n acc th b) (M a b) x y:=fun x y=>by
  rw [za1];show crossM _ _ _ (decide ((if M a b=true then 1 else 0)=1)) x y=_
  rw [mval]
 have cr:∀ x∈grp n acc th a,∀ y∈grp n acc th b,M x y=M a b:=J.acr a ha b hb hab;refine ⟨zgi J.nice ⟨?_,(J.tlt a ha).1,(J.tlt b hb).1,J.inj a ha b hb hab,(J.tlt a ha).2,(J.tlt b hb).2⟩,J.nd.erase b,fun p hp=>J.lt p ((er p).mp hp).2,?_,fun p hp=>?_,fun p hp q hq hpq=>?_,fun x hx=>?_,fun p hp x hx y hy=>?_,fun p hp q hq hpq x hx y hy=>?_,fun p hp=>?_⟩
 ·show (if M a b=true then 1 else 0)<=1
  split<;>omega
 ·rw [List.length_erase_of_mem hb,List.length_append,List.length_singleton];have:=J.len;have:=List.length_pos_of_mem hb;omega
 ·obtain ⟨hpb,hp⟩:=(er p).mp hp;have hna:namedN (acc++[(if M a b=true then 1 else 0,th a,th b)])=namedN acc++[th a,th b]:=by unfold namedN;rw [List.flatMap_append];rfl
  rw [hna,List.length_append,List.length_singleton];have ta:=J.tlt a ha;have tb:=J.tlt b hb;by_cases e:p=a
  ·simp only [if_pos e];refine ⟨by omega,fun hm=>?_⟩;rcases List.mem_append.mp hm with hm|hm
   ·have:=hnl _ hm;omega
   ·simp only [List.mem_cons,List.not_mem_nil,or_false] at hm;omega
  ·simp only [if_neg e];have tp:=J.tlt p hp;refine ⟨by omega,fun hm=>?_⟩;rcases List.mem_append.mp hm with hm|hm
   ·exact tp.2 hm
   ·simp only [List.mem_cons,List.not_mem_nil,or_false] at hm;rcases hm with hm|hm
    ·exact J.inj p hp a ha e hm
    ·exact J.inj p hp b hb hpb hm
 ·obtain ⟨hpb,hp⟩:=(er p).mp hp;obtain ⟨hqb,hq⟩:=(er q).mp hq;have tp:=(J.tlt p hp).1;have tq:=(J.tlt q hq).1;by_cases e1:p=a
  ·have e2:q≠a:=fun z=>hpq (e1.trans z.symm);simp only [if_pos e1,if_neg e2];omega
  ·by_cases e2:q=a
   ·simp only [if_neg e1,if_pos e2];omega
   ·simp only [if_neg e1,if_neg e2];exact J.inj p hp q hq hpq
 ·obtain ⟨p,hp,hxp⟩:=J.cov x hx;by_cases e1:p=a
  ·refine ⟨a,(er a).mpr ⟨hab,ha⟩,?_⟩;rw [gnew];exact List.mem_append.mpr (.inl (e1▸hxp))
  ·by_cases e2:p=b
   ·refine ⟨a,(er a).mpr ⟨hab,ha⟩,?_⟩;rw [gnew];exact List.mem_append.mpr (.inr (e2▸hxp))
   ·exact ⟨p,(er p).mpr ⟨e2,hp⟩,by rw [gold p hp e1];exact hxp⟩
 ·obtain ⟨hpb,hp⟩:=(er p).mp hp;rw [s2];by_cases e:p=a
  ·subst e;rw [gnew] at hx hy;unfold crossM;rcases List.mem_append.mp hx with hx|hx<;>rcases List.mem_append.mp hy with hy|hy
   ·rw [decide_eq_false (dis p hp b hb hpb x hx),decide_eq_false (dis p hp b hb hpb y hy)];simp only [Bool.and_false,Bool.false_and,Bool.or_false,Bool.false_eq_true,if_false];exact J.ins p hp x hx y hy
   ·rw [decide_eq_true hx,decide_eq_true hy];simp only [Bool.and_true,Bool.true_or,if_true];exact (cr x hx y hy).symm
   ·rw [decide_eq_true hx,decide_eq_true hy];simp only [Bool.and_true,Bool.or_true,if_true];rw [g.sym x y];exact (cr y hy x hx).symm
   ·rw [decide_eq_false (dis b hb p hp (Ne.symm hpb) x hx),decide_eq_false (dis b hb p hp (Ne.symm hpb) y hy)];simp only [Bool.and_false,Bool.false_and,Bool.or_false,Bool.false_eq_true,if_false];exact J.ins b hb x hx y hy
  ·rw [gold p hp e] at hx hy;unfold crossM;rw [decide_eq_false (dis p hp a ha e x hx),decide_eq_false (dis p hp b hb hpb x hx)];simp only [Bool.false_and,Bool.or_false,Bool.false_eq_true,if_false];exact J.ins p hp x hx y hy
 ·obtain ⟨hpb,hp⟩:=(er p).mp hp;obtain ⟨hqb,hq⟩:=(er q).mp hq;by_cases e1:p=a
  ·have e2:q≠a:=fun z=>hpq (e1.trans z.symm);subst e1;rw [gnew] at hx;rw [gold q hq e2] at hy;rcases List.mem_append.mp hx with hx|hx
   ·exact J.acr p hp q hq hpq x hx y hy
   ·rw [J.acr b hb q hq (Ne.symm hqb) x hx y hy];exact (tw q hq e2 hqb).symm
  ·by_cases e2:q=a
   ·subst e2;rw [gnew] at hy;rw [gold p hp e1] at hx;rcases List.mem_append.mp hy with hy|hy
    ·exact J.acr p hp q hq hpq x hx y hy
    ·rw [J.acr p hp b hb hpb x hx y hy,g.sym p b,g.sym p q];exact (tw p hp e1 hpb).symm
   ·rw [gold p hp e1] at hx;rw [gold q hq e2] at hy;exact J.acr p hp q hq hpq x hx y hy
 ·obtain ⟨hpb,hp⟩:=(er p).mp hp;by_cases e:p=a
  ·subst e;rw [gnew];exact zp6 g (J.nol p hp) (J.nol b hb) cr
  ·rw [gold p hp e];exact J.nol p hp
theorem zty {n:Nat}{M:Nat->Nat->Bool}{L:List Nat}{th:Nat->Nat}{acc:List zbx}(J:JI n M L th acc)(hl:acc.length=n - 1):NoL M (List.range n)/\∀ x,x<n->∀ y,y<n->(simS n acc).2 x y=M x y:=by
 by_cases h0:n=0
 ·subst h0;exact ⟨fun a ha=>(by cases ha),fun x hx=>absurd hx (by omega)⟩
 have h1:L.length<2:=by have:=J.len;omega
 obtain ⟨p,hp,_⟩:=J.cov 0 (by omega);have all:∀ x,x<n->x∈grp n acc th p:=fun x hx=>by
  obtain ⟨q,hq,hxq⟩:=J.cov x hx;rw [zoU h1 hp hq];exact hxq
 exact ⟨zia (J.nol p hp) fun x hx=>all x (List.mem_range.mp hx),fun x hx y hy=>J.ins p hp x (all x hx) y (all y hy)⟩
noncomputable def zbB:VF:=fun ds Q=>∃ (n:Nat) (M:Nat->Nat->Bool),ds=[zaF (webOf n M)]/\n<=14/\Good M/\(∀ rs:List zbx,zbz n rs->rs.length=n - 1->okR n rs->NoL M (List.range n)->(∀ x,x<n->∀ y,y<n->(simS n rs).2 x y=M x y)->Q .ow (.lst (rs.map zas)))/\(¬ NoL M (List.range n)->Q .sh .non)
theorem zmc:∀ ds Q,zbB ds Q->ds.length=1:=by rintro _ Q ⟨n,M,rfl,h⟩;rfl
noncomputable def zgj:VS:=(zbd 3 (zaK zba (zaa (zac 3) (zaa (zaq zbf (zaa (zac 7) zai)) zai))))
noncomputable def r_joining_3b5:VS:=(zat (zqD 2 (zan (zac 4)) (zac 6)) zgj)
noncomputable def zgk:VS:=(zat (zn7 1 (zds (zbi (zaa (vIf (zb4 (zaq zhh (zaa (zac 0) (zaa (zac 6) (zaa (zac 7) zai))))) (vC (.int 1)) (vC (.int 0))) (zaa (vBin fIx (zac 2) (zac 6)) (zaa (vBin fIx (zac 2) (zac 7)) zai)))))) r_joining_3b5)
noncomputable def zgl:VS:=(zat (zbd 7 (zan (vBin fIx (zac 5) (vC (.int 1))))) zgk)
noncomputable def zgm:VS:=(zat (zbd 6 (zan (vBin fIx (zac 5) (vC (.int 0))))) zgl)
noncomputable def zeh:VS:=(zat (ze7 (zb4 (zmD false (zac 5)))
 (zci (zan (vC .non)))
 zbD) zgm)
noncomputable def zei:VS:=(zdW 1)
noncomputable def zil:VS:=(zat (zfZ (gV 4) (zaa (vCB zbP (zaa (zac 0) zai)) (zaa (vBin (vI fun i j=>.int (i - j)) (vBin (vI2 IntMulOk fun i j=>.int (i * j)) (vC (.int 2)) (vCB zbP (zaa (zac 0) zai))) (vC (.int 1))) zai))
 (zat (zbd 5 (zaK zc9 (zaa (zac 0) (zaa (zac 3) zai)))) zeh)) zei)
noncomputable def zim:VS:=(zat (zbd 3 (zaK zbS (zaa (zac 0) zai))) zil)
noncomputable def zin:VS:=(zat (zbd 2 (zds (zmS (zaa (vCB zbP (zaa (zac 0) zai)) zai)))) zim)
noncomputable def zio:VS:=(zat (zbd 1 (zds (zbi zai))) zin)
noncomputable abbrev zlm:List Str:=["web","rows","things","left","k","twins","kept","gone"]
theorem zqP {n p:Nat}(f:Nat->Nat)(h:p<n):atI (((List.range n).map f).map natD) (p:Int)=some (natD (f p)):=by
 refine L2.zaW ?_;rw [List.getElem?_map,List.getElem?_map,List.getElem?_range h];rfl
theorem map_set {n p v:Nat}(f:Nat->Nat):(((List.range n).map f).map natD).set p (natD v)=((List.range n).map fun q=>if q=p then v else f q).map natD:=by
 rw [<-List.map_set];congr 1;apply List.ext_getElem?;intro i;rw [List.getElem?_set,List.getElem?_map,List.getElem?_map,List.length_map,List.length_range];by_cases hi:i<n
 ·rw [List.getElem?_range hi];by_cases e:p=i
  ·subst e;simp [hi]
  ·simp [e,Ne.symm e]
 ·rw [List.getElem?_eq_none (by simpa using hi)];simp;intro e;omega
theorem zns:∀ ds Q,zbB ds Q->zio {nx:=fun _=>Q .sh .non,rt:=Q} (zaz zlm ds):=by
 rintro _ Q ⟨n,M,rfl,hn,g,h1,h2⟩;have sz:∀ n,n<=1000->n<=sizeLine:=fun n h=>Nat.le_trans h (by decide);simp! [zio,zin];rw [zau];refine ⟨(by first|exact zkj (by omega)|exact ⟨by omega,by omega⟩),sz _ (by omega),zbj _,?_⟩;simp! [zim];refine ⟨_,rfl,by rw [zau];omega,.inr ⟨rfl,by simp [D.flat]⟩,?_⟩;rw [zau];have e0:2 ^ n - 1=bm n fun q=>decide (q∈List.range n):=by
  apply Nat.eq_of_testBit_eq;intro p;rw [all_bit,bm_bit];simp
 rw [e0];simp! [zil];rw [zau];have ez:((2:Int) * (n:Int) - 1 - (n:Int)).toNat=n - 1:=by omega
 rw [ez];refine ⟨zjD (by decide),⟨by omega,by omega,by omega,by omega⟩,?_⟩;have es:(List.range n).map (fun k=>D.int ((k:Nat):Int))=((List.range n).map fun p=>p).map natD:=by rw [List.map_map];rfl
 rw [es];refine zbw (fun k:Nat=>D.int ((n:Int)+(k:Int))) (List.range (n - 1)) (fun pre st=>∃ (L:List Nat) (th:Nat->Nat) (acc:List zbx) (o4 o5 o6 o7:Option (Md×D)),JI n M L th acc/\acc.length=pre.length/\st=[some (.sh,zaF (webOf n M)),some (.ow,.lst (acc.map zas)),some (.ow,zaF ((List.range n).map th)),some (.sh,natD (bm n fun q=>decide (q∈L))),o4,o5,o6,o7]) ?_ ?_ ⟨List.range n,fun p=>p,[],_,_,_,_,zqd n g,rfl,rfl⟩
 ·rintro pre k post st kk e ⟨L,th,acc,o4,o5,o6,o7,J,hal,rfl⟩ hkk;obtain ⟨ek,hk⟩:=zoK e;have hLl:=J.len;simp! [];refine ⟨n,M,_,rfl,by omega,fun a b ha hb hfa hfb hab htw=>⟨.inr ⟨rfl,by simp [D.flat,flats]⟩,?_⟩,fun hno=>⟨.inr ⟨rfl,by simp [D.flat]⟩,?_⟩⟩
  ·have hfa:=of_decide_eq_true hfa;have hfb:=of_decide_eq_true hfb;have tw:∀ c∈L,c≠a->c≠b->M a c=M b c:=fun c hc h1 h2=>tw_iff.mp htw c (J.lt c hc) (decide_eq_true hc) h1 h2;have J':=zr4 g J hfa hfb hab tw;have ekn:(n:Int)+(k:Int)=((n+acc.length:Nat):Int):=by omega
   have ebm:zmQ (bm n fun q=>decide (q∈L)) (2 ^ b)=bm n fun q=>decide (q∈L.erase b):=by
    apply Nat.eq_of_testBit_eq;intro p;rw [less_bit,bm_bit,bm_bit,Nat.testBit_two_pow,Bool.and_assoc,<-decide_not,<-Bool.decide_and];congr 1;refine decide_eq_decide.mpr ?_;rw [J.nd.mem_erase_iff];exact ⟨fun z=>⟨Ne.symm z.2,z.1⟩,fun z=>⟨z.2,Ne.symm z.1⟩⟩
   have nxt:∀ (B:LSt->Prop),r_joining_3b5 {nx:=kk,rt:=Q,bk:=B,ct:=kk} [some (.sh,zaF (webOf n M)),some (.ow,.lst ((acc++[(if M a b=true then 1 else 0,th a,th b)]).map zas)),some (.ow,zaF ((List.range n).map th)),some (.sh,natD (bm n fun q=>decide (q∈L))),some (.sh,.int ((n:Int)+(k:Int))),some (.sh,zgM (a,b)),some (.sh,natD a),some (.sh,natD b)]:=by
    intro B;simp! [r_joining_3b5];rw [ixN_nat ha];simp! [appM,if_true];rw [ekn,map_set];simp! [zgj];refine ⟨_,rfl,by omega,by omega,?_⟩;rw [zeb];refine ⟨_,_,rfl,.inr ⟨rfl,by simp [D.flat]⟩,?_⟩;rw [Int.toNat_natCast,ebm];exact hkk _ ⟨_,_,_,_,_,_,_,J',by simp [hal],rfl⟩
   simp! [zeh];refine ifF (by simp) ?_;simp! [zgm];rw [(at2 _ _).1];refine ⟨rfl,?_⟩;simp! [zgl];rw [(at2 _ _).2];refine ⟨rfl,?_⟩;simp! [zgk,appM,if_true];rw [zqP th ha,zqP th hb];simp! [];refine ⟨_,_,_,rfl,by rw [zau];exact ha,?_⟩;rw [zp2 ha hb];have hsz:acc.length<sizeLine:=zby (by omega);refine if2 (fun z=>⟨hsz,?_⟩) (fun z=>⟨hsz,?_⟩)
   ·have:=nxt (zei {nx:=fun x=>Q .sh .non,rt:=Q});rw [if_pos z,List.map_append] at this;exact this
   ·have:=nxt (zei {nx:=fun x=>Q .sh .non,rt:=Q});rw [if_neg z,List.map_append] at this;exact this
  ·simp! [zeh];refine ifT (by simp) ?_;refine h2 fun hN=>?_;obtain ⟨a,ha,b,hb,hab,ht⟩:=twn g L.length L (Nat.le_refl _) J.nd (by omega) (zia hN fun x hx=>List.mem_range.mpr (J.lt x hx));have:=hno a b (J.lt a ha) (J.lt b hb) (decide_eq_true ha) (decide_eq_true hb) hab;rw [tw_iff.mpr fun c _ hc h1 h2=>ht c (of_decide_eq_true hc) h1 h2] at this;cases this
 ·rintro st ⟨L,th,acc,o4,o5,o6,o7,J,hal,rfl⟩;rw [List.length_range] at hal;obtain ⟨hN,hE⟩:=zty J hal;simp! [zei];exact h1 acc J.nice hal (zg1 J.nice acc.length acc [] rfl (by simp)).1 hN hE
noncomputable def zax:VF:=fun ds Q=>∃ (n:Nat) (M:Nat->Nat->Bool) (is:List Int),ds=[zaF (webOf n M),.lst (is.map .int)]/\n<=100/\is.length<=1000/\Q .sh (.bl (decide (is.length=4)&&zk7 n M is))
theorem zfF:∀ ds Q,zax ds Q->ds.length=2:=by rintro _ Q ⟨n,M,is,rfl,h⟩;rfl
noncomputable def zcv:VS:=(zci (zan (zgQ (vBin fEq (vCB zbP (zaa (zac 1) zai)) (vC (.int 4))) (zaq zd0 (zaa (zac 0) (zaa (zac 1) zai))))))
noncomputable abbrev zd1:List Str:=["web","some"]
theorem zgn:∀ ds Q,zax ds Q->zcv {nx:=fun _=>Q .sh .non,rt:=Q} (zaz zd1 ds):=by
 rintro _ Q ⟨n,M,is,rfl,hn,hl,h⟩;simp! [zcv];refine if2 (fun z=>?_) (fun z=>?_)
 ·have z:is.length=4:=by have:=of_decide_eq_true z;omega
  rw [decide_eq_true z,Bool.true_and] at h;exact ⟨n,M,is,rfl,hn,by omega,rfl,h⟩
 ·have z:¬ is.length=4:=fun e=>z (decide_eq_true (by omega));rw [decide_eq_false z,Bool.false_and] at h;exact h
noncomputable def endB (M:Nat->Nat->Bool)(a b c:Nat):Nat->Bool:=fun d=>ofB M c b d&& !M a d
theorem ztz {n:Nat}{M:Nat->Nat->Bool}{a b c:Nat}(ha:a<n):zmQ (bm n (ofB M c b)) ((webOf n M).getD a 0)=bm n (endB M a b c):=by
 rw [web_get ha];apply Nat.eq_of_testBit_eq;intro p;unfold endB;rw [less_bit,bm_bit,bm_bit,bm_bit];cases decide (p<n)<;>simp
noncomputable def zcw:VF:=fun ds Q=>∃ (n:Nat) (M:Nat->Nat->Bool) (b c:Nat),ds=[zaF (webOf n M),natD b,natD c]/\n<=100/\b<n/\c<n/\(∀ a d:Nat,a<n->d<n->ofB M b c a=true->endB M a b c d=true->Q .ow (zaF [a,b,c,d]))/\((∀ a d:Nat,a<n->d<n->ofB M b c a=true->endB M a b c d=true->False)->Q .sh .non)
theorem zjW:∀ ds Q,zcw ds Q->ds.length=3:=by rintro _ Q ⟨n,M,b,c,rfl,h⟩;rfl
noncomputable def zeW:VS:=(ze7 (zb4 (vBin fNe (zac 5) (vC (.int 0))))
 (zci (zds (zbi (zaa (zac 4) (zaa (zac 1) (zaa (zac 2) (zaa (zaq zc7 (zaa (zac 5) zai)) zai)))))))
 zbD)
noncomputable def zgo:VS:=(zci (zan (vC .non)))
noncomputable def zgp:VS:=(zat (zlF (gV 4) (zaK zaN (zaa (zaq zba (zaa (vBin fIx (zac 0) (zac 1)) (zaa (vBin (vI fun i j=>.int (Builtin.bitOr i j)) (vBin fIx (zac 0) (zac 2)) (zaq zbf (zaa (zac 2) zai))) zai))) zai))
 (zat (zbd 5 (zaK zba (zaa (zac 3) (zaa (vBin fIx (zac 0) (zac 4)) zai)))) zeW)) zgo)
noncomputable def zfG:VS:=(zat (zbd 3 (zaK zba (zaa (vBin fIx (zac 0) (zac 2)) (zaa (vBin (vI fun i j=>.int (Builtin.bitOr i j)) (vBin fIx (zac 0) (zac 1)) (zaq zbf (zaa (zac 1) zai))) zai)))) zgp)
noncomputable abbrev ziq:List Str:=["web","b","c","ends","a","free"]
theorem zln:∀ ds Q,zcw ds Q->zfG {nx:=fun _=>Q .sh .non,rt:=Q} (zaz ziq ds):=by
 rintro _ Q ⟨n,M,b,c,rfl,hn,hb,hc,h1,h2⟩;simp! [zfG];rw [zdm (by rw [zau];exact hc),zdm (by rw [zau];exact hb)];simp! [];refine ⟨_,rfl,by omega,by omega,?_⟩;simp! [];rw [zeb,znh];refine ⟨_,_,rfl,.inr ⟨rfl,by simp [D.flat]⟩,?_⟩;rw [zts hc hb];simp! [zgp];rw [zdm (by rw [zau];exact hb),zdm (by rw [zau];exact hc)];simp! [];refine ⟨_,rfl,by omega,by omega,?_⟩;simp! [];rw [zeb,znh];refine ⟨_,_,rfl,?_⟩;rw [zts hb hc];refine ⟨_,rfl,Nat.le_trans (zh6 (zkT n _)) (by omega),.inl rfl,?_⟩;rw [zkU];refine zbw natD ((List.range n).filter (ofB M b c)) (fun pre st=>∃ o4 o5,(∀ a∈pre,bm n (endB M a b c)=0)/\st=[some (.sh,zaF (webOf n M)),some (.sh,natD b),some (.sh,natD c),some (.sh,natD (bm n (ofB M c b))),o4,o5]) ?_ ?_ ⟨_,_,by simp,rfl⟩
 ·rintro pre a post st kk e ⟨o4,o5,hd,rfl⟩ hkk;have hm:a∈(List.range n).filter (ofB M b c):=by rw [e];simp
  obtain ⟨ha,hfa⟩:a<n/\ofB M b c a=true:=⟨List.mem_range.mp (List.mem_filter.mp hm).1,(List.mem_filter.mp hm).2⟩;simp! [];rw [zdm (by rw [zau];exact ha)];simp! [];refine ⟨_,_,rfl,.inr ⟨rfl,by simp [D.flat]⟩,?_⟩;rw [ztz ha];simp! [zeW];by_cases z:bm n (endB M a b c)=0
  ·refine ifF (by simp [z]) (hkk _ ⟨_,_,fun x hx=>?_,rfl⟩);rcases List.mem_append.mp hx with hx|hx
   ·exact hd x hx
   ·obtain rfl:x=a:=by simpa using hx
    exact z
  ·refine ifT (by simp<;>omega) ?_;obtain ⟨d,ed,hdn,hfd⟩:=zrV z;refine ⟨_,rfl,z,Nat.le_trans (zh6 (zkT n _)) (by omega),?_⟩;rw [ed];refine ⟨by simp [D.flat],?_⟩;exact h1 a d ha hdn hfa hfd
 ·rintro st ⟨o4,o5,hd,rfl⟩;simp! [zgo];refine h2 fun a d ha hdn hfa hfd=>?_;have:=bm_bit n (endB M a b c) d;rw [hd a (List.mem_filter.mpr ⟨List.mem_range.mpr ha,hfa⟩),Nat.zero_testBit,decide_eq_true hdn,hfd] at this;cases this
theorem zr5 {n:Nat}{M:Nat->Nat->Bool}(g:Good M){a b c d:Nat}(ha:a<n)(hb:b<n)(hc:c<n)(hd:d<n)(hbc:M b c=true)(h1:ofB M b c a=true)(h2:endB M a b c d=true):(decide ([(a:Int),(b:Int),(c:Int),(d:Int)].length=4)&&zk7 n M [(a:Int),(b:Int),(c:Int),(d:Int)])=true:=by
 unfold endB at h2;unfold ofB at h1 h2;simp only [Bool.and_eq_true,Bool.not_eq_true',decide_eq_true_iff] at h1 h2;obtain ⟨mba,mca,nac⟩:=h1;obtain ⟨⟨mcd,mbd,ndb⟩,mad⟩:=h2;have s:=fun x y=>g.sym x y;have nab:a≠b:=fun e=>by rw [e,g.irr] at mba;cases mba
 have nbc:b≠c:=fun e=>by rw [e,g.irr] at hbc;cases hbc
 have ncd:c≠d:=fun e=>by rw [e,g.irr] at mcd;cases mcd
 have nad:a≠d:=fun e=>by rw [e,mbd] at mba;cases mba
 refine (zm3 g rfl).mpr ⟨fun i hi=>?_,fun i j hj hi=>?_⟩
 ·unfold inB
  match i,hi with
  |0,_=>show (decide (0<=(a:Int))&&decide ((a:Int)<(n:Int)))=true;rw [decide_eq_true (by omega),decide_eq_true (by omega)];rfl
  |1,_=>show (decide (0<=(b:Int))&&decide ((b:Int)<(n:Int)))=true;rw [decide_eq_true (by omega),decide_eq_true (by omega)];rfl
  |2,_=>show (decide (0<=(c:Int))&&decide ((c:Int)<(n:Int)))=true;rw [decide_eq_true (by omega),decide_eq_true (by omega)];rfl
  |3,_=>show (decide (0<=(d:Int))&&decide ((d:Int)<(n:Int)))=true;rw [decide_eq_true (by omega),decide_eq_true (by omega)];rfl
 ·match i,j,hj,hi with
  |1,0,_,_=>exact ⟨by show (b:Int)≠(a:Int);omega,mba⟩
  |2,0,_,_=>exact ⟨by show (c:Int)≠(a:Int);omega,mca⟩
  |2,1,_,_=>exact ⟨by show (c:Int)≠(b:Int);omega,(s c b).trans hbc⟩
  |3,0,_,_=>exact ⟨by show (d:Int)≠(a:Int);omega,(s d a).trans mad⟩
  |3,1,_,_=>exact ⟨by show (d:Int)≠(b:Int);omega,(s d b).trans mbd⟩
  |3,2,_,_=>exact ⟨by show (d:Int)≠(c:Int);omega,(s d c).trans mcd⟩
theorem zr6 {n:Nat}{M:Nat->Nat->Bool}(g:Good M)(h:NoL M (List.range n)){a b c d:Nat}(ha:a<n)(hb:b<n)(hc:c<n)(hd:d<n)(hbc:M b c=true)(h1:ofB M b c a=true)(h2:endB M a b c d=true):False:=by
 unfold endB at h2;unfold ofB at h1 h2;simp only [Bool.and_eq_true,Bool.not_eq_true',decide_eq_true_iff] at h1 h2;obtain ⟨mba,mca,nac⟩:=h1;obtain ⟨⟨mcd,mbd,ndb⟩,mad⟩:=h2;have r:=fun x (hx:x<n)=>List.mem_range.mpr hx;exact h a (r a ha) b (r b hb) c (r c hc) d (r d hd) (by rw [g.sym];exact mba) hbc mcd (by rw [g.sym];exact mca) mad mbd
noncomputable def zaE:VF:=fun ds Q=>∃ (n:Nat) (M:Nat->Nat->Bool),ds=[zaF (webOf n M)]/\n<=14/\Good M/\(¬ NoL M (List.range n)->∀ a b c d:Nat,(decide ([(a:Int),(b:Int),(c:Int),(d:Int)].length=4)&&zk7 n M [(a:Int),(b:Int),(c:Int),(d:Int)])=true->Q .ow (zaF [a,b,c,d]))/\(NoL M (List.range n)->Q .sh .non)
theorem zhB:∀ ds Q,zaE ds Q->ds.length=1:=by rintro _ Q ⟨n,M,rfl,h⟩;rfl
noncomputable def zcd:VS:=(ze7 (zb4 (zmD true (zac 3)))
 (zdW 3)
 zbD)
noncomputable def zes:VS:=(zci (zan (vC .non)))
noncomputable def zdN:VS:=(zat (zlF (gV2 1 2) (zaK zcM (zaa (zac 0) zai))
 (zat (zbd 3 (zaK zcw (zaa (zac 0) (zaa (zac 1) (zaa (zac 2) zai))))) zcd)) zes)
noncomputable abbrev zfo:List Str:=["web","b","c","found"]
theorem zir:∀ ds Q,zaE ds Q->zdN {nx:=fun _=>Q .sh .non,rt:=Q} (zaz zfo ds):=by
 rintro _ Q ⟨n,M,rfl,hn,g,h1,h2⟩;simp! [zdN];refine ⟨_,rfl,zot (by omega),by rw [zau];omega,.inl rfl,?_⟩;refine zbw zgM (ziO (webOf n M)) (fun pre st=>∃ o1 o2 o3,(∀ t∈pre,∀ a d:Nat,a<n->d<n->ofB M t.1 t.2 a=true->endB M a t.1 t.2 d=true->False)/\st=[some (.sh,zaF (webOf n M)),o1,o2,o3]) ?_ ?_ ⟨_,_,_,by simp,rfl⟩
 ·rintro pre t post st kk e ⟨o1,o2,o3,hd,rfl⟩ hkk;obtain ⟨b,c⟩:=t;obtain ⟨hbc,hc,hm⟩:=ties_mem.mp (show (b,c)∈ziO (webOf n M) by rw [e];simp);have hbc:b<c:=hbc;have hc:c<n:=hc;have hm:M b c=true:=hm;simp! [];refine ⟨n,M,b,c,rfl,by omega,by omega,hc,fun a d ha hdn hfa hfd=>⟨.inl rfl,?_⟩,fun hno=>⟨.inr ⟨rfl,by simp [D.flat]⟩,?_⟩⟩
  ·simp! [zcd];refine ifT (by simp) ?_;exact h1 (fun hN=>zr6 g hN ha (by omega) hc hdn hm hfa hfd) a b c d (zr5 g ha (by omega) hc hdn hm hfa hfd)
  ·simp! [zcd];refine ifF (by simp) (hkk _ ⟨_,_,_,fun t ht=>?_,rfl⟩);rcases List.mem_append.mp ht with ht|ht
   ·exact hd t ht
   ·obtain rfl:t=(b,c):=by simpa using ht
    exact hno
 ·rintro st ⟨o1,o2,o3,hd,rfl⟩;simp! [zes];refine h2 fun a ha b hb c hc d hd' h1 h2 h3 h4 h5 h6=>?_;have ha:=List.mem_range.mp ha;have hb:=List.mem_range.mp hb;have hc:=List.mem_range.mp hc;have hd':=List.mem_range.mp hd';have s:=fun x y=>g.sym x y;have nac:a≠c:=fun e=>by rw [e,h3] at h5;cases h5
  have ndb:d≠b:=fun e=>by rw [e,h1] at h5;cases h5
  have nbc:b≠c:=fun e=>by rw [e,g.irr] at h2;cases h2
  by_cases hlt:b<c
  ·refine hd (b,c) (ties_mem.mpr ⟨hlt,hc,h2⟩) a d ha hd' ?_ ?_
   ·show (M b a&&(!M c a&&decide (a≠c)))=true
    rw [s b a,h1,s c a,h4,decide_eq_true nac];rfl
   ·show ((M c d&&(!M b d&&decide (d≠b)))&& !M a d)=true
    rw [h3,h6,h5,decide_eq_true ndb];rfl
  ·refine hd (c,b) (ties_mem.mpr ⟨by show c<b;omega,hb,by show M c b=true;rw [s];exact h2⟩) d a hd' ha ?_ ?_
   ·show (M c d&&(!M b d&&decide (d≠b)))=true
    rw [h3,h6,decide_eq_true ndb];rfl
   ·show ((M b a&&(!M c a&&decide (a≠c)))&& !M d a)=true
    rw [s b a,h1,s c a,h4,s d a,h5,decide_eq_true nac];rfl
noncomputable def zak:VF:=fun ds Q=>∃ (ns:List Int) (k:Int),ds=[.lst (ns.map .int),.int k]/\0<=k/\Q .sh (.int (cellP ns k))
theorem zhC:∀ ds Q,zak ds Q->ds.length=2:=by rintro _ Q ⟨ns,k,rfl,h⟩;rfl
noncomputable def zet:VS:=(zci (zan (vC (.int 0))))
noncomputable def zdO:VS:=(zat (ze7 (zb4 (vBin fLt (zac 1) (vCB zbP (zaa (zac 0) zai))))
 (zci (zan (vBin fIx (zac 0) (zac 1))))
 zbD) zet)
noncomputable abbrev zfp:List Str:=["_law_script","_law_k"]
theorem zis:∀ ds Q,zak ds Q->zdO {nx:=fun _=>Q .sh .non,rt:=Q} (zaz zfp ds):=by
 rintro _ Q ⟨ns,k,rfl,hk,h⟩;simp! [zdO,zet];refine if2 (fun hl=>?_) (fun hl=>?_)
 ·have hl:k<(ns.length:Int):=of_decide_eq_true hl;have e:atI (ns.map D.int) k=some (.int (cellP ns k)):=by
   refine zrz hk ?_;unfold cellP;rw [List.getElem?_map,List.getD_eq_getElem?_getD,List.getElem?_eq_getElem (by omega)];rfl
  rw [e];exact ⟨rfl,h⟩
 ·have hl:¬ k<(ns.length:Int):=fun z=>hl (decide_eq_true z);have e:cellP ns k=0:=by
   unfold cellP;rw [List.getD_eq_getElem?_getD,List.getElem?_eq_none (by omega)];rfl
  rw [e] at h;exact h
noncomputable def zcx:VF:=fun ds Q=>∃ (ns:List Int) (m:Nat),ds=[.lst (ns.map .int),natD m]/\∀ n,n<=m->Q .sh (natD n)
theorem zjX:∀ ds Q,zcx ds Q->ds.length=2:=by rintro _ Q ⟨c,k,rfl,h⟩;rfl
noncomputable def zgq:VS:=(zci (zan (vBin (vI2 (fun _ j=>0<j) fun i j=>.int (i % j)) (vBin (vI2 zfg fun i j=>.int (i / j)) (zac 2) (vC (.int 3))) (vBin (vI fun i j=>.int (i+j)) (zac 1) (vC (.int 1))))))
noncomputable def zgr:VS:=(zat (ze7 (zb4 (vBin fEq (vBin (vI2 (fun _ j=>0<j) fun i j=>.int (i % j)) (zac 2) (vC (.int 3))) (vC (.int 1))))
 (zdW 1)
 zbD) zgq)
noncomputable def zfH:VS:=(zat (zbd 2 (zaK zak (zaa (zac 0) (zaa (vC (.int 0)) zai)))) zgr)
noncomputable abbrev zit:List Str:=["_law_script","_law_most","_law_cell"]
theorem zlo:∀ ds Q,zcx ds Q->zfH {nx:=fun _=>Q .sh .non,rt:=Q} (zaz zit ds):=by
 rintro _ Q ⟨ns,m,rfl,h⟩;simp! [zfH];refine ⟨ns,0,rfl,by decide,.inr ⟨rfl,by simp [D.flat]⟩,?_⟩;simp! [zgr];refine ⟨by decide,if2 (fun _=>h m (Nat.le_refl m)) (fun _=>?_)⟩;simp! [zgq];obtain ⟨n,en,hn⟩:=zbE (cellP ns 0 / 3) (m+1) (by omega);have en:cellP ns 0 / 3 % ((m:Int)+1)=(n:Int):=en;rw [en];exact ⟨zgV (by decide) (by decide),by omega,h n (by omega)⟩
theorem ztA:∃ f:Int->Int->Int,∀ c k,f c k=(c * 48271+k * k * 69621+3) % 2147483647 * ((c * 48271+k * k * 69621+3) % 2147483647) % 2147483629:=⟨_,fun _ _=>rfl⟩
noncomputable def mxP:Int->Int->Int:=Classical.choose ztA
theorem ztB (c k:Int):mxP c k=(c * 48271+k * k * 69621+3) % 2147483647 * ((c * 48271+k * k * 69621+3) % 2147483647) % 2147483629:=Classical.choose_spec ztA c k
noncomputable def zao:VF:=fun ds Q=>∃ c k:Int,ds=[.int c,.int k]/\ -1000000<k/\k<1000000/\Q .sh (.int (mxP c k))
theorem ziU:∀ ds Q,zao ds Q->ds.length=2:=by rintro _ Q ⟨c,k,rfl,h⟩;rfl
noncomputable def zfq:VS:=(zci (zan (vBin (vI2 (fun _ j=>0<j) fun i j=>.int (i % j)) (vBin (vI2 IntMulOk fun i j=>.int (i * j)) (zac 2) (zac 2)) (vC (.int 2147483629)))))
noncomputable def zeX:VS:=(zat (zbd 2 (zan (vBin (vI2 (fun _ j=>0<j) fun i j=>.int (i % j)) (vBin (vI fun i j=>.int (i+j)) (vBin (vI fun i j=>.int (i+j)) (vBin (vI2 IntMulOk fun i j=>.int (i * j)) (zac 0) (vC (.int 48271))) (vBin (vI2 IntMulOk fun i j=>.int (i * j)) (vBin (vI2 IntMulOk fun i j=>.int (i * j)) (zac 1) (zac 1)) (vC (.int 69621)))) (vC (.int 3))) (vC (.int 2147483647))))) zfq)
noncomputable abbrev zhp:List Str:=["_law_cell","_law_k","_law_number"]
theorem zjY:∀ ds Q,zao ds Q->zeX {nx:=fun _=>Q .sh .non,rt:=Q} (zaz zhp ds):=by
 rintro _ Q ⟨c,k,rfl,h0,h1,h⟩;rw [ztB] at h;simp! [zeX,zfq];have lo:=Int.emod_nonneg (c * 48271+k * k * 69621+3) (b:=2147483647) (by decide);have hi:=Int.emod_lt_of_pos (c * 48271+k * k * 69621+3) (b:=2147483647) (by decide);generalize (c * 48271+k * k * 69621+3) % 2147483647=x at lo hi h ⊢;exact ⟨zcp (by decide),zjD (zb9 h0 h1),zcp (by decide),by decide,zjD (zqH (by omega) (by omega)),by decide,h⟩
noncomputable def zbV:VF:=fun ds Q=>∃ (c:Int) (n:Nat),ds=[.int c,natD n]/\n<=100/\∀ ps:List Nat,ps.Perm (List.range n)->Q .ow (zaF ps)
theorem ziV:∀ ds Q,zbV ds Q->ds.length=2:=by rintro _ Q ⟨w,v,rfl,h⟩;rfl
noncomputable def zfr:VS:=(zdW 2)
noncomputable def zfs:VS:=(zat (zfz (gV 3) (zaa (zac 1) zai)
 (ztQ 2 (vBin (vI2 (fun _ j=>0<j) fun i j=>.int (i % j)) (zaq zao (zaa (zac 0) (zaa (zac 3) zai))) (vBin (vI fun i j=>.int (i+j)) (zac 3) (vC (.int 1)))) (zan (zac 3)))) zfr)
noncomputable def zeY:VS:=(zat (zbd 2 (zds (zbi zai))) zfs)
noncomputable abbrev zhq:List Str:=["_law_cell","_law_many_here","_law_points_here","_law_k"]
theorem zjZ:∀ ds Q,zbV ds Q->zeY {nx:=fun _=>Q .sh .non,rt:=Q} (zaz zhq ds):=by
 rintro _ Q ⟨c,n,rfl,hn,h⟩;simp! [zeY,zfs];refine ⟨(by first|exact zkj (by omega)|exact ⟨by omega,by omega⟩),?_⟩;refine zb8 n (fun k st=>∃ (ps:List Nat) (o3:Option (Md×D)),ps.Perm (List.range k)/\st=[some (.sh,.int c),some (.sh,natD n),some (.ow,zaF ps),o3]) ?_ ?_ ⟨[],_,List.Perm.refl _,rfl⟩
 ·rintro k st kk hk ⟨ps,o3,hp,rfl⟩ hkk;have hpl:ps.length=k:=by rw [hp.length_eq];simp
  simp! [];obtain ⟨a,ea,ha⟩:=zbE (mxP c (k:Int)) (k+1) (by omega);have ea:mxP c (k:Int) % ((k:Int)+1)=(a:Int):=by rw [<-ea];rfl
  refine ⟨_,_,rfl,by omega,by omega,?_⟩;simp! [];rw [ea];simp! [appM,if_true];refine ⟨by omega,⟨by omega,by omega⟩,by decide,zby (by omega),?_⟩;have e:List.take a (ps.map natD)++D.int (k:Int)::List.drop a (ps.map natD)=(ps.take a++k::ps.drop a).map natD:=by
   rw [List.map_append,List.map_cons,List.map_take,List.map_drop]
  rw [e];refine hkk _ ⟨ps.take a++k::ps.drop a,_,?_,rfl⟩;rw [List.range_succ];refine List.perm_middle.trans ?_;rw [List.take_append_drop];exact (List.Perm.cons k hp).trans (List.perm_append_singleton k (List.range k)).symm
 ·rintro st ⟨ps,o3,hp,rfl⟩;simp! [zfr];exact h ps hp
noncomputable def zaQ:VF:=fun ds Q=>∃ ns:List Int,ds=[.lst (ns.map .int)]/\∀ is:List Int,is.length=13->Q .ow (.lst (is.map .int))
theorem zhD:∀ ds Q,zaQ ds Q->ds.length=1:=by rintro _ Q ⟨ns,rfl,h⟩;rfl
noncomputable def zeu:VS:=(zdW 1)
noncomputable def zev:VS:=(zat (zfZ (gV 2) (zaa (vC (.int 2)) (zaa (vCB ziM (zaa (vC (.int 63)) (zaa (vCB zbP (zaa (zac 0) zai)) zai))) zai))
 (zqD 1 (zaK zao (zaa (vBin (vI fun i j=>.int (i+j)) (vBin fIx (zac 1) (vBin (vI2 (fun _ j=>0<j) fun i j=>.int (i % j)) (zac 2) (vC (.int 13)))) (vBin fIx (zac 0) (zac 2))) (zaa (zac 2) zai))) (vBin (vI2 (fun _ j=>0<j) fun i j=>.int (i % j)) (zac 2) (vC (.int 13))))) zeu)
noncomputable def zdP:VS:=(zat (zbd 1 (zds (zb7 (zki (zaa (vC (.int 13)) zai)) zb5 (zaq zao (zaa (zaq zak (zaa (zac 1) (zaa (vC (.int 0)) zai))) (zaa (vBin (vI fun i j=>.int (i+j)) (vC (.int 90)) (zac 0)) zai)))))) zev)
noncomputable abbrev zft:List Str:=["_law_script","_law_numbers_here","_law_k"]
theorem ziu:∀ ds Q,zaQ ds Q->zdP {nx:=fun _=>Q .sh .non,rt:=Q} (zaz zft ds):=by
 rintro _ Q ⟨ns,rfl,h⟩;simp! [zdP];refine ⟨⟨by decide,by decide⟩,by decide,?_⟩;rw [show (List.range (13:Int).toNat)=List.range 13 from rfl];refine za0 natD (fun k=>.int (mxP (cellP ns 0) (90+(k:Int)))) (List.range 13) _ (fun k hk Q h=>?_) ?_
 ·have hk:=List.mem_range.mp hk;simp! [];exact ⟨ns,0,rfl,by decide,_,_,rfl,by omega,by omega,h⟩
 obtain ⟨is,ei,hi⟩:∃ is:List Int,(List.range 13).map (fun k:Nat=>D.int (mxP (cellP ns 0) (90+(k:Int))))=is.map D.int/\is.length=13:=⟨(List.range 13).map fun k:Nat=>mxP (cellP ns 0) (90+(k:Int)),by rw [List.map_map];rfl,by simp⟩;rw [ei];refine ⟨zgW _,?_⟩;simp! [zev];refine ⟨⟨by decide,by decide,by split<;>omega,by split<;>omega⟩,?_⟩;have hK:((if (ns.length:Int)<63 then (ns.length:Int) else 63) - 2).toNat<=61/\((if (ns.length:Int)<63 then (ns.length:Int) else 63) - 2).toNat+2<=ns.length+2:=by split<;>omega
 have hK2:0<((if (ns.length:Int)<63 then (ns.length:Int) else 63) - 2).toNat->((if (ns.length:Int)<63 then (ns.length:Int) else 63) - 2).toNat+2<=ns.length:=by split<;>omega
 generalize ((if (ns.length:Int)<63 then (ns.length:Int) else 63) - 2).toNat=m at hK hK2 ⊢;refine zbw (fun k:Nat=>D.int (2+(k:Int))) (List.range m) (fun pre st=>∃ (is:List Int) (o2:Option (Md×D)),is.length=13/\st=[some (.sh,.lst (ns.map .int)),some (.ow,.lst (is.map .int)),o2]) ?_ ?_ ⟨is,_,hi,rfl⟩
 ·rintro pre k post st kk e ⟨is,o2,hi,rfl⟩ hkk;have hk:k<m:=List.mem_range.mp (by rw [e];simp);obtain ⟨a,ea,ha⟩:=zbE (2+(k:Int)) 13 (by decide);have ea:(2+(k:Int)) % 13=(a:Int):=ea;have ek:(2:Int)+(k:Int)=((2+k:Nat):Int):=by omega
  simp! [];rw [ea,zh8 (by omega)];rw [show atI (ns.map D.int) (2+(k:Int))=some (.int (ns.getD (2+k) 0)) from by rw [ek];exact zh8 (by omega)];refine ⟨by decide,_,_,rfl,by omega,by omega,?_⟩;simp! [appM,if_true];rw [ixN_nat (by omega)];simp! [];rw [<-List.map_set];exact ⟨.inr ⟨rfl,by simp [D.flat]⟩,by decide,hkk _ ⟨_,_,by rw [List.length_set];exact hi,rfl⟩⟩
 ·rintro st ⟨is,o2,hi,rfl⟩;simp! [zeu];exact h is hi
noncomputable def zbk:VF:=fun ds Q=>∃ (n:Nat) (is:List Int) (md:Int),ds=[natD n,.lst (is.map .int),.int md]/\n<=14/\is.length=13/\∀ rows:List zbx,rows.length<=14->okR n rows->Q .ow (.lst (rows.map zas))
theorem zhE:∀ ds Q,zbk ds Q->ds.length=3:=by rintro _ Q ⟨n,is,md,rfl,h⟩;rfl
noncomputable def zce:VS:=(zn7 3 (zan (vBin (vI fun i j=>.int (i+j)) (zac 0) (zac 5))))
noncomputable def zdB:VS:=(zat (zn7 4 (zoC (zbi (zaa (vBin (vI2 (fun _ j=>0<j) fun i j=>.int (i % j)) (vBin (vI2 zfg fun i j=>.int (i / j)) (zac 6) (vC (.int 8))) (vC (.int 2))) (zaa (zac 8) (zaa (zac 9) zai)))) (zbi (zaa (vBin (vI2 (fun _ j=>0<j) fun i j=>.int (i % j)) (vBin (vI2 zfg fun i j=>.int (i / j)) (zac 6) (vC (.int 8))) (vC (.int 2))) (zaa (zac 9) (zaa (zac 8) zai)))) (vBin (vI2 (fun _ j=>0<j) fun i j=>.int (i % j)) (vBin (vI2 zfg fun i j=>.int (i / j)) (zac 6) (vC (.int 16))) (vC (.int 2))))) zce)
noncomputable def zdC:VS:=(zat (zoA 3 9 (vBin fIx (zdT (zbi (zaa (vBin (vI2 (fun _ j=>0<j) fun i j=>.int (i % j)) (vBin (vI2 (fun _ j=>0<j) fun i j=>.int (i % j)) (vBin (vI2 IntMulOk fun i j=>.int (i * j)) (zac 6) (vC (.int 69621))) (vC (.int 1000003))) (vCB zbP (zaa (zac 3) zai))) (zaa (vBin (vI fun i j=>.int (i - j)) (vCB zbP (zaa (zac 3) zai)) (vC (.int 1))) zai)))) (zac 7))) zdB)
noncomputable def zcf:VS:=(zat (zoA 3 8 (vBin (vI2 (fun _ j=>0<j) fun i j=>.int (i % j)) (vBin (vI2 (fun _ j=>0<j) fun i j=>.int (i % j)) (vBin (vI2 IntMulOk fun i j=>.int (i * j)) (zac 6) (vC (.int 16807))) (vC (.int 2147483587))) (vBin (vI fun i j=>.int (i - j)) (vCB zbP (zaa (zac 3) zai)) (zac 7)))) zdC)
noncomputable def zdD:VS:=(zat (zbd 7 (zan (vCB zng (zaa (zgQ (vBin fEq (zac 2) (vC (.int 3))) (vBin fGt (zac 5) (vC (.int 0)))) zai)))) zcf)
noncomputable def zew:VS:=(zdW 4)
noncomputable def zex:VS:=(zat (zfz (gV 5) (zaa (vBin (vI fun i j=>.int (i - j)) (zac 0) (vC (.int 1))) zai)
 (zat (zbd 6 (zan (vBin fIx (zac 1) (zac 5)))) zdD)) zew)
noncomputable def zey:VS:=(zat (zbd 4 (zds (zbi zai))) zex)
noncomputable def zdQ:VS:=(zat (zbd 3 (zds (zmS (zaa (zac 0) zai)))) zey)
noncomputable abbrev zfu:List Str:=["_law_many_here","_law_numbers_here","_law_mode","_law_left","_law_rows","_law_k","_law_number","_law_newest","_law_x","_law_y"]
theorem zqe {n:Nat}{rows:List zbx}{r:zbx}(h:okR n rows)(hr:okS (simS n rows) r):okR n (rows++[r]):=by
 intro pre r' post e;rcases List.eq_nil_or_concat post with rfl|⟨p,l,rfl⟩
 ·obtain ⟨rfl,e2⟩:=List.append_inj' e rfl;obtain rfl:r=r':=by simpa using e2
  exact hr
 ·have e:rows++[r]=(pre++r'::p)++[l]:=by rw [e];simp
  obtain ⟨e1,_⟩:=List.append_inj' e rfl;exact h pre r' p e1
theorem ers {l:List Nat}(hn:l.Nodup){a:Nat}(ha:a<l.length):l.getD a 0∉l.eraseIdx a/\l.getD a 0∈l/\(l.eraseIdx a).Nodup/\(∀ i∈l.eraseIdx a,i∈l)/\(l.eraseIdx a).length=l.length - 1:=by
 have e:l.getD a 0=l[a]:=by simp [ha]
 have el:l=l.take a++l[a]::l.drop (a+1):=by rw [<-List.drop_eq_getElem_cons ha,List.take_append_drop]
 have ee:l.eraseIdx a=l.take a++l.drop (a+1):=List.eraseIdx_eq_take_drop_succ l a;refine ⟨?_,by rw [e];exact List.getElem_mem ha,hn.sublist (List.eraseIdx_sublist l a),fun i hi=>List.mem_of_mem_eraseIdx hi,by rw [List.length_eraseIdx,if_pos ha]⟩;rw [e,ee];rw [el,List.nodup_append,List.nodup_cons] at hn;intro hm;rcases List.mem_append.mp hm with hm|hm
 ·exact hn.2.2 _ hm _ List.mem_cons_self rfl
 ·exact hn.2.1.1 hm
theorem ziv:∀ ds Q,zbk ds Q->zdQ {nx:=fun _=>Q .sh .non,rt:=Q} (zaz zfu ds):=by
 rintro _ Q ⟨n,is,md,rfl,hn,hi,h⟩;have sz:∀ n,n<=1000->n<=sizeLine:=fun n h=>Nat.le_trans h (by decide);have gd:∀ (l:List Nat) (a:Nat),a<l.length->(l.map natD).getD a .non=natD (l.getD a 0):=fun l a ha=>by
  rw [List.getD_eq_getElem?_getD,List.getElem?_map,List.getD_eq_getElem?_getD,List.getElem?_eq_getElem ha];rfl
 simp! [zdQ];have e0:(List.range n).map (fun k=>D.int ((k:Nat):Int))=(List.range n).map natD:=rfl;rw [e0];refine ⟨⟨by omega,by omega⟩,sz _ (by omega),zbj _,?_⟩;simp! [zey,zex];have ez:((n:Int) - 1).toNat=n - 1:=by omega
 rw [ez];refine ⟨(by first|exact zkj (by omega)|exact ⟨by omega,by omega⟩),?_⟩;refine zb8 (n - 1) (fun k st=>∃ (rows:List zbx) (left:List Nat) (o5 o6 o7 o8 o9:Option (Md×D)),rows.length=k/\okR n rows/\left.length=n - k/\left.Nodup/\(∀ i∈left,i<n+k)/\zrX (simS n rows) left/\st=[some (.sh,natD n),some (.sh,.lst (is.map .int)),some (.sh,.int md),some (.ow,zaF left),some (.ow,.lst (rows.map zas)),o5,o6,o7,o8,o9]) ?_ ?_ ⟨[],List.range n,_,_,_,_,_,rfl,(fun pre r post e=>by cases pre<;>cases e),by simp,List.nodup_range,(fun i hi=>by have:=List.mem_range.mp hi;omega),?_,rfl⟩
 ·rintro k st kk hk ⟨rows,left,o5,o6,o7,o8,o9,hrl,hok,hll,hnd,hlt,hsep,rfl⟩ hkk;obtain ⟨_,hTl⟩:=zeQ hok rows.length rows [] rfl (by simp);simp! [];rw [zh8 (by omega)];generalize is.getD k 0=num;have nxt:∀ (nw:Nat) (B:LSt->Prop),nw<=1->zcf {nx:=kk,rt:=Q,ct:=kk,bk:=B} [some (.sh,natD n),some (.sh,.lst (is.map .int)),some (.sh,.int md),some (.ow,zaF left),some (.ow,.lst (rows.map zas)),some (.sh,natD k),some (.sh,.int num),some (.sh,natD nw),o8,o9]:=by
   intro nw B hnw;have ed:(left.length:Int) - (nw:Int)=((left.length - nw:Nat):Int):=by omega
   obtain ⟨a,ea,ha⟩:=zbE (num * 16807 % 2147483587) (left.length - nw) (by omega);have ha:a<left.length:=by omega
   obtain ⟨x1,x2,x3,x4,x5⟩:=ers hnd ha;simp! [zcf];rw [ed,ea,ixN_nat ha];simp! [];rw [gd left a ha,<-zf9];refine ⟨by decide,by decide,by omega,zcp (by decide),by decide,by omega,rfl,?_⟩;generalize left.getD a 0=x at x1 x2;generalize left.eraseIdx a=l1 at x1 x3 x4 x5 ⊢;obtain ⟨b0,eb0,hb0⟩:=zbE (num * 69621 % 1000003) l1.length (by omega);have e1:(l1.length:Int) - 1=((l1.length - 1:Nat):Int):=by omega
   obtain ⟨b,eb,hb⟩:∃ b:Nat,atI [D.int (b0:Int),D.int ((l1.length - 1:Nat):Int)] (nw:Int)=some (.int (b:Int))/\b<l1.length:=by
    match nw,hnw with
    |0,_=>exact ⟨b0,L2.zaW rfl,hb0⟩
    |1,_=>exact ⟨l1.length - 1,L2.zaW rfl,by omega⟩
   obtain ⟨y1,y2,y3,y4,y5⟩:=ers x3 hb;simp! [zdC];rw [eb0,e1,eb];simp! [];rw [ixN_nat hb];simp! [];rw [gd l1 b hb,<-zf9];refine ⟨by decide,by decide,by omega,zcp (by decide),by decide,by omega,rfl,?_⟩;generalize l1.getD b 0=y at y1 y2;generalize l1.eraseIdx b=l2 at y1 y3 y4 y5 ⊢;have hxy:x≠y:=fun e=>x1 (by rw [e];exact y2);obtain ⟨mk,emk,hmk⟩:=zbE (num / 8) 2 (by decide);have emk:num / 8 % 2=(mk:Int):=emk;obtain ⟨sl,esl,hsl⟩:=zbE (num / 16) 2 (by decide);have esl:num / 16 % 2=(sl:Int):=esl;have done:∀ (r:zbx) (B:LSt->Prop),r.1<=1->((r.2.1=x/\r.2.2=y)\/(r.2.1=y/\r.2.2=x))->zce {nx:=kk,rt:=Q,ct:=kk,bk:=B} [some (.sh,natD n),some (.sh,.lst (is.map .int)),some (.sh,.int md),some (.ow,zaF l2),some (.ow,.lst (rows.map zas++[zas r])),some (.sh,natD k),some (.sh,.int num),some (.sh,natD nw),some (.sh,natD x),some (.sh,natD y)]:=by
    intro r B hr1 hr;have hx2:r.2.1∈left/\r.2.2∈left/\r.2.1≠r.2.2:=by
     rcases hr with ⟨z1,z2⟩|⟨z1,z2⟩
     ·rw [z1,z2];exact ⟨x2,x4 _ y2,hxy⟩
     ·rw [z1,z2];exact ⟨x4 _ y2,x2,Ne.symm hxy⟩
    have hrest:∀ i∈l2,i∈left/\i≠r.2.1/\i≠r.2.2:=fun i hi=>by
     have h1:i≠x:=fun e=>x1 (by rw [<-e];exact y4 i hi);have h2:i≠y:=fun e=>y1 (by rw [<-e];exact hi);refine ⟨x4 i (y4 i hi),?_⟩;rcases hr with ⟨z1,z2⟩|⟨z1,z2⟩
     ·rw [z1,z2];exact ⟨h1,h2⟩
     ·rw [z1,z2];exact ⟨h2,h1⟩
    have hltT:∀ i∈left,i<(simS n rows).1.length:=fun i hi=>by rw [hTl,hrl];exact hlt i hi
    have okr:okS (simS n rows) r:=⟨hltT _ hx2.1,hltT _ hx2.2.1,hr1,fun p hp q hq=>hsep _ hx2.1 _ hx2.2.1 hx2.2.2 p hp q hq⟩;have es:=zm2 hsep hltT hx2.1 hx2.2.1 hx2.2.2 hrest;rw [hTl,hrl,<-za1] at es;have enk:(n:Int)+(k:Int)=((n+k:Nat):Int):=by omega
    simp! [zce,appM,if_true];rw [enk,zjB natD l2 (n+k),show rows.map zas++[zas r]=(rows++[r]).map zas from by simp];refine ⟨zby (by omega),hkk _ ⟨rows++[r],l2++[n+k],_,_,_,_,_,by simp [hrl],zqe hok okr,by simp;omega,?_,fun i hi=>?_,es,rfl⟩⟩
    ·rw [List.nodup_append];refine ⟨y3,by simp,fun i hi j hj e=>?_⟩;obtain rfl:j=n+k:=by simpa using hj
     have:=hlt i (x4 i (y4 i hi));omega
    ·rcases List.mem_append.mp hi with hi|hi
     ·have:=hlt i (x4 i (y4 i hi));omega
     ·obtain rfl:i=n+k:=by simpa using hi
      omega
   simp! [zdB];rw [emk,esl];refine ⟨zgV (by decide) (by decide),by decide,zgV (by decide) (by decide),by decide,zgV (by decide) (by decide),by decide,?_⟩;simp! [appM];have hsl2:sl=0\/sl=1:=by omega
   rcases hsl2 with rfl|rfl
   ·exact .inl ⟨rfl,zby (by omega),done (mk,x,y) _ (by simp only;omega) (.inl ⟨rfl,rfl⟩)⟩
   ·exact .inr ⟨rfl,zby (by omega),done (mk,y,x) _ (by simp only;omega) (.inr ⟨rfl,rfl⟩)⟩
  have eb1:∀ b:Bool,(if b=true then (1:Int) else 0)=(((if b=true then 1 else 0:Nat)):Int):=by decide
  simp! [zdD];refine if2 (fun _=>?_) (fun _=>?_)
  ·rw [eb1];exact nxt _ _ (by split<;>omega)
  ·exact nxt 0 _ (by omega)
 ·rintro st ⟨rows,left,o5,o6,o7,o8,o9,hrl,hok,hll,hnd,hlt,hsep,rfl⟩;simp! [zew];exact h rows (by omega) hok
 ·intro i hi j hj hij p hp q hq;have at0:∀ i∈List.range n,(simS n []).1.getD i []=[i]:=fun i hi=>by
   show ((List.range n).map fun p=>[p]).getD i []=_
   rw [List.getD_eq_getElem?_getD,List.getElem?_map,List.getElem?_range (List.mem_range.mp hi)];rfl
  rw [at0 i hi] at hp;rw [at0 j hj] at hq;obtain rfl:p=i:=by simpa using hp
  obtain rfl:q=j:=by simpa using hq
  exact ⟨hij,rfl⟩
noncomputable def zaS:VF:=fun ds Q=>∃ (n:Nat) (rows:List zbx),ds=[natD n,.lst (rows.map zas)]/\n<=14/\rows.length<=100/\okR n rows/\Q .ow (zcj n (simS n rows).2)
theorem zfI:∀ ds Q,zaS ds Q->ds.length=2:=by rintro _ Q ⟨n,rows,rfl,h⟩;rfl
theorem znt (M:Nat->Nat->Bool)(B:List Nat)(v:Bool):crossM M [] B v=M:=by funext a b;unfold crossM;simp
theorem znu (M:Nat->Nat->Bool)(A:List Nat)(v:Bool):crossM M A [] v=M:=by funext a b;unfold crossM;simp
theorem zmd (M:Nat->Nat->Bool)(A B:List Nat)(p:Nat)(v:Bool):crossM M (A++[p]) B v=crossM (crossM M A B v) [p] B v:=by
 funext a b;unfold crossM;simp only [List.mem_append,List.mem_singleton,Bool.decide_or];cases decide (a∈A)<;>cases decide (b∈B)<;>cases decide (a∈B)<;>cases decide (b∈A)<;>cases decide (a=p)<;>cases decide (b=p)<;>simp
theorem zme (M:Nat->Nat->Bool)(B:List Nat)(p q:Nat)(v:Bool):crossM M [p] (B++[q]) v=ziN (ziN (crossM M [p] B v) p q v) q p v:=by
 have eu:∀ (M:Nat->Nat->Bool) (x y:Nat) (v:Bool) (a b:Nat),ziN M x y v a b=if (decide (a=x)&&decide (b=y))=true then v else M a b:=fun M x y v a b=>by unfold ziN;simp
 funext a b;rw [eu,eu];unfold crossM;simp only [List.mem_append,List.mem_singleton,Bool.decide_or];generalize decide (a=p)=x1;generalize decide (b=p)=x2;generalize decide (a=q)=x3;generalize decide (b=q)=x4;generalize decide (a∈B)=x5;generalize decide (b∈B)=x6;cases x1<;>cases x2<;>cases x3<;>cases x4<;>cases x5<;>cases x6<;>rfl
noncomputable def zbN:VS:=(zaG 2 (vBin fEq (zac 4) (vC (.int 1))) (zac 8) (zac 7))
noncomputable def zcO:VS:=(zn7 3 (zds (zqB (vBin fIx (zac 3) (zac 5)) (vBin fIx (zac 3) (zac 6)))))
noncomputable def zdo:VS:=(zdW 2)
noncomputable def zdp:VS:=(zat (ztR 3 (vFz 1 (zlF (zti 4 5 6) (zkK 1)
 (zat (zlF (gV 7) (zsl 3 (zac 5))
 (zlF (gV 8) (zsl 3 (zac 6))
 (zat (zaG 2 (vBin fEq (zac 4) (vC (.int 1))) (zac 7) (zac 8)) zbN))) zcO)))) zdo)
noncomputable def zdq:VS:=(zat (zbd 3 (zf8 (zki (zaa (zac 0) zai)) zb5 (zds (zbi (zaa (zac 0) zai))))) zdp)
noncomputable def zcy:VS:=(zat (zbd 2 (zf8 (zki (zaa (zac 0) zai)) zb5 (zds (zlW (zbi (zaa (vC (.bl false)) zai)) (zac 1))))) zdq)
noncomputable abbrev zd2:List Str:=["_law_many_here","_law_rows","_law_held_here","_law_things","_law_mark","_law_x","_law_y","_law_p","_law_q"]
theorem zm7 {T:List (List Nat)}{i:Nat}(h:i<T.length):atI (T.map zaF) (i:Int)=some (zaF (T.getD i [])):=by
 refine L2.zaW ?_;rw [List.getElem?_map,List.getD_eq_getElem?_getD,List.getElem?_eq_getElem h];rfl
theorem zgs:∀ ds Q,zaS ds Q->zcy {nx:=fun _=>Q .sh .non,rt:=Q} (zaz zd2 ds):=by
 rintro _ Q ⟨n,rows,rfl,hn,hl,ok,h⟩;have sz:∀ n,n<=1000->n<=sizeLine:=fun n h=>Nat.le_trans h (by decide);simp! [zaG,zcy];refine ⟨(by first|exact zkj (by omega)|exact ⟨by omega,by omega⟩),sz _ (by omega),?_⟩;refine zeP natD (fun _=>zhQ n fun _=>false) (List.range n) [] _ (fun a ha Q h=>?_) ?_
 ·simp! [zaG];rw [zk4];exact ⟨⟨by omega,by omega⟩,sz _ (by omega),zf3 n fun _=>false,h⟩
 rw [List.nil_append];have eh:(List.range n).map (fun _=>zhQ n fun _=>false)=zhy n (fun _ _=>false):=rfl;rw [eh];simp! [zaG,zdq];refine ⟨(by first|exact zkj (by omega)|exact ⟨by omega,by omega⟩),sz _ (by omega),?_⟩;refine zeP natD (fun p=>zaF [p]) (List.range n) [] _ (fun p hp Q h=>?_) ?_
 ·simp! [zaG];exact h
 rw [List.nil_append];have e0:(List.range n).map (fun p=>zaF [p])=(simS n []).1.map zaF:=by
  show _=((List.range n).map fun p=>[p]).map zaF
  rw [List.map_map];rfl
 rw [e0];simp! [zdp];refine zbw zas rows (fun pre st=>∃ o4 o5 o6 o7 o8,st=[some (.sh,natD n),some (.sh,.lst (rows.map zas)),some (.ow,zcj n (simS n pre).2),some (.o1,.lst ((simS n pre).1.map zaF)),o4,o5,o6,o7,o8]) ?_ ?_ ⟨_,_,_,_,_,rfl⟩
 ·rintro pre r post st kk e ⟨o4,o5,o6,o7,o8,rfl⟩ hkk;have okr:=ok pre r post e;obtain ⟨⟨g,hm,hnd⟩,hlen⟩:=zeQ ok pre.length pre (r::post) rfl e;obtain ⟨hx,hy,hr1,hsep⟩:=okr;have hpl:pre.length<=100:=by have:=congrArg List.length e;simp at this;omega
  rw [za1] at hkk;generalize simS n pre=s at hkk g hm hnd hlen hx hy hsep ⊢;have hkk:∀ st,(∃ o4 o5 o6 o7 o8,st=[some (.sh,natD n),some (.sh,.lst (rows.map zas)),some (.ow,zcj n (crossM s.2 (s.1.getD r.2.1 []) (s.1.getD r.2.2 []) (decide (r.1=1)))),some (.o1,.lst ((s.1++[s.1.getD r.2.1 []++s.1.getD r.2.2 []]).map zaF)),o4,o5,o6,o7,o8])->kk st:=hkk;have ed:decide ((r.1:Int)=1)=decide (r.1=1):=decide_eq_decide.mpr (by omega);have tx:=zm7 hx;have ty:=zm7 hy;have hA:=hm r.2.1;have hB:=hm r.2.2;have lA:=zgb (hnd r.2.1) hA;have lB:=zgb (hnd r.2.2) hB;generalize s.1.getD r.2.1 []=A at hkk tx hA hsep lA;generalize s.1.getD r.2.2 []=B at hkk ty hB hsep lB;generalize decide (r.1=1)=v at hkk ed;simp! [];rw [tx];refine ⟨.inr trivial,?_⟩;refine zbw natD A (fun pA st=>∃ o7 o8,st=[some (.sh,natD n),some (.sh,.lst (rows.map zas)),some (.ow,zcj n (crossM s.2 pA B v)),some (.o1,.lst (s.1.map zaF)),some (.sh,natD r.1),some (.sh,natD r.2.1),some (.sh,natD r.2.2),o7,o8]) ?_ ?_ ⟨_,_,by rw [znt]⟩
  ·rintro pA p qA st kk1 e1 ⟨o7,o8,rfl⟩ hk1;have hp:p<n:=hA p (by rw [e1];simp);rw [zmd] at hk1;generalize crossM s.2 pA B v=M1 at hk1 ⊢;simp! [];rw [ty];refine ⟨.inr trivial,?_⟩;refine zbw natD B (fun pB st=>∃ o8,st=[some (.sh,natD n),some (.sh,.lst (rows.map zas)),some (.ow,zcj n (crossM M1 [p] pB v)),some (.o1,.lst (s.1.map zaF)),some (.sh,natD r.1),some (.sh,natD r.2.1),some (.sh,natD r.2.2),some (.sh,natD p),o8]) ?_ ?_ ⟨_,by rw [znu]⟩
   ·rintro pB q qB st kk2 e2 ⟨o8,rfl⟩ hk2;have hq:q<n:=hB q (by rw [e2];simp);rw [zme] at hk2;generalize crossM M1 [p] pB v=M2 at hk2 ⊢;simp! [];refine zed (M:=M2) (v:=v) (a:=p) (b:=q) rfl (fun Q h=>by simp! [zaG];rw [ed];exact h) (zbe rfl) (zbe rfl) hp hq ?_;simp! [zbN];refine zed (v:=v) (a:=q) (b:=p) rfl (fun Q h=>by simp! [zaG];rw [ed];exact h) (zbe rfl) (zbe rfl) hq hp ?_;exact hk2 _ ⟨_,rfl⟩
   ·rintro st ⟨o8,rfl⟩;exact hk1 _ ⟨_,_,rfl⟩
  ·rintro st ⟨o7,o8,rfl⟩;simp! [zaG,zcO,appM];rw [tx,ty];simp! [zaG];rw [<-List.map_append];refine ⟨sz _ (by omega),zbj _,zby (by omega),?_⟩;rw [show s.1.map zaF++[D.lst ((A++B).map natD)]=(s.1++[A++B]).map zaF from by simp];exact hkk _ ⟨_,_,_,_,_,rfl⟩
 ·rintro st ⟨o4,o5,o6,o7,o8,rfl⟩;simp! [zaG,zdo];exact h
noncomputable def zav:VP1:=fun d ds Q=>∃ (n:Nat) (M:Nat->Nat->Bool) (x:Int),d=zcj n M/\ds=[.int x]/\1<n/\n<=100/\Good M/\∀ M',Good M'->Q (zcj n M')
theorem zfi:∀ d ds Q,zav d ds Q->ds.length+1=2:=by rintro d ds Q ⟨n,M,x,rfl,rfl,h⟩;rfl
noncomputable def zcT:VS:=(zaG 0 (vBin fIx (vBin fIx (zac 0) (zac 2)) (zac 3)) (zac 3) (zac 2))
noncomputable def zcU:VS:=(zat (zaG 0 (vNotV (vBin fIx (vBin fIx (zac 0) (zac 2)) (zac 3))) (zac 2) (zac 3)) zcT)
noncomputable def zcV:VS:=(zat (zbd 3 (zan (vBin (vI2 (fun _ j=>0<j) fun i j=>.int (i % j)) (vBin (vI fun i j=>.int (i+j)) (vBin (vI fun i j=>.int (i+j)) (zac 2) (vC (.int 1))) (vBin (vI2 (fun _ j=>0<j) fun i j=>.int (i % j)) (vBin (vI2 (fun _ j=>0<j) fun i j=>.int (i % j)) (vBin (vI2 IntMulOk fun i j=>.int (i * j)) (zac 1) (vC (.int 69621))) (vC (.int 1000003))) (vBin (vI fun i j=>.int (i - j)) (vCB zbP (zaa (zac 0) zai)) (vC (.int 1))))) (vCB zbP (zaa (zac 0) zai))))) zcU)
noncomputable def zcg:VS:=(zat (zbd 2 (zan (vBin (vI2 (fun _ j=>0<j) fun i j=>.int (i % j)) (vBin (vI2 (fun _ j=>0<j) fun i j=>.int (i % j)) (vBin (vI2 IntMulOk fun i j=>.int (i * j)) (zac 1) (vC (.int 16807))) (vC (.int 2147483587))) (vCB zbP (zaa (zac 0) zai))))) zcV)
noncomputable abbrev zdE:List Str:=["_law_held_here","_law_number","_law_a","_law_b"]
theorem zfJ:∀ a d ds Q,zav d ds Q->zcg {nx:=fun st'=>∃ d',st'[0]? =some (some (.oa a,d'))/\Q d',rt:=fun _ _=>False} (zfl zdE a d ds):=by
 rintro a0 _ _ Q ⟨n,M,x,rfl,rfl,hn,hn2,g,h⟩;simp! [zaG,zcg];rw [ze9];obtain ⟨a,ea,ha⟩:=zbE (x * 16807 % 2147483587) n (by omega);rw [ea];refine ⟨zcp (by decide),by decide,by omega,?_⟩;simp! [zaG,zcV];rw [ze9];have ec:(n:Int) - 1=((n - 1:Nat):Int):=by omega
 obtain ⟨b,eb,hb1⟩:=zbE (x * 69621 % 1000003) (n - 1) (by omega);have ed:(a:Int)+1+(b:Int)=((a+1+b:Nat):Int):=by omega
 have ee:((a+1+b:Nat):Int) % (n:Int)=(((a+1+b) % n:Nat):Int):=by rw [Int.natCast_emod]
 rw [ec,eb,ed,ee];obtain ⟨hne,hd⟩:=zje hn ha hb1;generalize (a+1+b) % n=d at hd hne ⊢;refine ⟨zcp (by decide),by decide,by omega,by omega,?_⟩;simp! [zaG,zcU];rw [zjJ ha];simp! [zaG,zhQ];rw [zoq hd];simp! [zaG];rw [ze9,ixN_nat ha];simp! [zaG];rw [zh3 ha];simp! [zaG,zhQ,List.length_map,List.length_range];rw [ixN_nat hd];simp! [zaG];rw [zhR];simp! [zaG,zcT];rw [zjJ ha];simp! [zaG,zhQ];rw [zoq hd];have e5:ziN M a d (!M a d) a d= !M a d:=by unfold ziN;simp
 rw [e5];simp! [zaG];rw [ze9,ixN_nat hd];simp! [zaG];rw [zh3 hd];simp! [zaG,zhQ,List.length_map,List.length_range];rw [ixN_nat ha];simp! [zaG];rw [zhR];exact ⟨_,rfl,h _ (g.upd hne (!M a d))⟩
noncomputable def zqf (c:Int)(a b:Int):Bool:=if c / 4 % 2=1 then decide (mxP c (1+a * b+17 * (a+b)) % 5<1+c / 8 % 4) else decide ((a - b) % (2+c / 8 % 4)=0)
noncomputable def zqg (c:Int):Nat->Nat->Bool:=fun a b=>if b=a then false else zqf c a b
theorem zqh (c:Int):Good (zqg c) where
 sym:=fun a b=>by
  unfold zqg zqf;have e1:(1:Int)+a * b+17 * (a+b)=1+b * a+17 * (b+a):=by rw [Int.mul_comm (a:Int) b,Int.add_comm (a:Int) b]
  have e2:(((a:Int) - b) % (2+c / 8 % 4)=0)↔(((b:Int) - a) % (2+c / 8 % 4)=0):=by
   rw [<-Int.dvd_iff_emod_eq_zero,<-Int.dvd_iff_emod_eq_zero];constructor<;>(intro h;have:=Int.dvd_neg.mpr h;rwa [Int.neg_sub] at this)
  rw [e1,decide_eq_decide.mpr e2];by_cases z:a=b
  ·subst z;rfl
  ·rw [if_neg (fun e=>z e.symm),if_neg z]
 irr:=fun a=>by unfold zqg;simp
noncomputable def zbl:VF:=fun ds Q=>∃ (n:Nat) (ns:List Int),ds=[natD n,.lst (ns.map .int)]/\n<=14/\ns.length<=63/\∀ M,Good M->Q .ow (zcj n M)
theorem zhF:∀ ds Q,zbl ds Q->ds.length=2:=by rintro _ Q ⟨w,v,rfl,h⟩;rfl
noncomputable def zdF:VS:=(zmU 3 5)
noncomputable def zch:VS:=(zat (zqD 5 (zan (vC (.bl false))) (zac 4)) zdF)
noncomputable def zdG:VS:=(zat (ze7 (zb4 (vBin fEq (vBin (vI2 (fun _ j=>0<j) fun i j=>.int (i % j)) (vBin (vI2 zfg fun i j=>.int (i / j)) (zac 2) (vC (.int 4))) (vC (.int 2))) (vC (.int 1))))
 (zbd 5 (zds (zb7 (zki (zaa (zac 0) zai)) zb5 (vBin fLt (vBin (vI2 (fun _ j=>0<j) fun i j=>.int (i % j)) (zaq zao (zaa (zac 3) (zaa (vBin (vI fun i j=>.int (i+j)) (vBin (vI fun i j=>.int (i+j)) (vC (.int 1)) (vBin (vI2 IntMulOk fun i j=>.int (i * j)) (zac 5) (zac 0))) (vBin (vI2 IntMulOk fun i j=>.int (i * j)) (vC (.int 17)) (vBin (vI fun i j=>.int (i+j)) (zac 5) (zac 0)))) zai))) (vC (.int 5))) (vBin (vI fun i j=>.int (i+j)) (vC (.int 1)) (vBin (vI2 (fun _ j=>0<j) fun i j=>.int (i % j)) (vBin (vI2 zfg fun i j=>.int (i / j)) (zac 3) (vC (.int 8))) (vC (.int 4))))))))
 zbD) zch)
noncomputable def r__law_loosely_4:VS:=(zdW 3)
noncomputable def zcR:VS:=(zat (zfZ (gV 6) (zaa (vC (.int 2)) (zaa (vCB ziM (zaa (vC (.int 63)) (zaa (vCB zbP (zaa (zac 1) zai)) zai))) zai))
 (ze7 (zb4 (vBin fGt (zac 0) (vC (.int 1))))
 (zkW 3 zav (zaa (zaq zao (zaa (vBin fIx (zac 1) (zac 6)) (zaa (zac 6) zai))) zai))
 zbD)) r__law_loosely_4)
noncomputable def zez:VS:=(zat (zfz (gV 4) (zaa (zac 0) zai)
 (zat (zbd 5 (zds (zb7 (zki (zaa (zac 0) zai)) zb5 (vBin fEq (vBin (vI2 (fun _ j=>0<j) fun i j=>.int (i % j)) (vBin (vI fun i j=>.int (i - j)) (zac 5) (zac 0)) (vBin (vI fun i j=>.int (i+j)) (vC (.int 2)) (vBin (vI2 (fun _ j=>0<j) fun i j=>.int (i % j)) (vBin (vI2 zfg fun i j=>.int (i / j)) (zac 3) (vC (.int 8))) (vC (.int 4))))) (vC (.int 0)))))) zdG)) zcR)
noncomputable def zeA:VS:=(zat (zbd 3 (zds (zbi zai))) zez)
noncomputable def zdR:VS:=(zat (zbd 2 (zaK zak (zaa (zac 1) (zaa (vC (.int 1)) zai)))) zeA)
noncomputable abbrev zfv:List Str:=["_law_many_here","_law_script","_law_cell","_law_held_here","_law_a","_law_row","_law_k"]
theorem ziw:∀ ds Q,zbl ds Q->zdR {nx:=fun _=>Q .sh .non,rt:=Q} (zaz zfv ds):=by
 rintro _ Q ⟨n,ns,rfl,hn,hl,h⟩;simp! [zdR];refine ⟨ns,1,rfl,by decide,.inr ⟨rfl,by simp [D.flat]⟩,?_⟩;generalize cellP ns 1=c;have h84:0<=c / 8 % 4/\c / 8 % 4<4:=⟨Int.emod_nonneg _ (by decide),Int.emod_lt_of_pos _ (by decide)⟩;simp! [zeA,zez];refine ⟨(by first|exact zkj (by omega)|exact ⟨by omega,by omega⟩),?_⟩;refine zb8 n (fun k st=>∃ o4 o5,st=[some (.sh,natD n),some (.sh,.lst (ns.map .int)),some (.sh,.int c),some (.ow,.lst ((List.range k).map fun a=>zhQ n (zqg c a))),o4,o5,none]) ?_ ?_ ⟨_,_,rfl⟩
 ·rintro k st kk hk ⟨o4,o5,rfl⟩ hkk;have fin:zch {nx:=kk,rt:=Q,bk:=zcR {nx:=fun _=>Q .sh .non,rt:=Q},ct:=kk} [some (.sh,natD n),some (.sh,.lst (ns.map .int)),some (.sh,.int c),some (.ow,.lst ((List.range k).map fun a=>zhQ n (zqg c a))),some (.sh,natD k),some (.ow,zhQ n fun b=>zqf c k b),none]:=by
   simp! [zch,appM,if_true,zhQ];rw [ixN_nat (by exact hk)];simp! [];rw [zh2];simp! [zdF];refine ⟨by decide,zby (by omega),?_⟩;have e2:(List.range k).map (fun a=>D.lst ((List.range n).map fun b=>D.bl (zqg c a b)))++[D.lst ((List.range n).map fun i=>if i=k then D.bl false else D.bl (zqf c k i))]=(List.range (k+1)).map fun a=>zhQ n (zqg c a):=by
    rw [List.range_succ,List.map_append];congr 1;show [_]=[zhQ n (zqg c k)]
    congr 2;refine zaM fun i hi=>?_;unfold zqg;split<;>rfl
   rw [e2];exact hkk _ ⟨_,_,rfl⟩
  simp! [];refine ⟨(by first|exact zkj (by omega)|exact ⟨by omega,by omega⟩),Nat.le_trans (by omega:n<=1000) (by decide),?_⟩;refine za0 natD (fun b=>.bl (decide (((k:Int) - b) % (2+c / 8 % 4)=0))) (List.range n) _ (fun b hb' Q h=>?_) ?_
  ·simp! [];exact ⟨zgV (by decide) (by decide),by decide,by omega,h⟩
  refine ⟨zf3 n fun b=>decide (((k:Int) - b) % (2+c / 8 % 4)=0),?_⟩;simp! [zdG];refine ⟨zgV (by decide) (by decide),by decide,if2 (fun z=>?_) (fun z=>?_)⟩
  ·have z:c / 4 % 2=1:=of_decide_eq_true z;refine ⟨(by first|exact zkj (by omega)|exact ⟨by omega,by omega⟩),Nat.le_trans (by omega:n<=1000) (by decide),?_⟩;refine za0 natD (fun b=>.bl (zqf c k b)) (List.range n) _ (fun b hb' Q h=>?_) ?_
   ·have hb':=List.mem_range.mp hb';simp! [];unfold zqf at h;rw [if_pos z] at h;have m:∀ x y:Int,-1000000<x->x<1000000->IntMulOk x y:=fun x y h0 h1=>zjD (zb9 h0 h1);have hpp0:0<=(k:Int) * (b:Int):=Int.mul_nonneg (by omega) (by omega);have hpp1:(k:Int) * (b:Int)<=100 * 100:=Int.mul_le_mul (by omega) (by omega) (by omega) (by decide);refine ⟨m _ _ (by omega) (by omega),m _ _ (by omega) (by omega),_,_,rfl,by omega,by omega,?_⟩;simp! [];exact ⟨by decide,zgV (by decide) (by decide),by decide,h⟩
   ·exact ⟨zf3 n fun b=>zqf c k b,fin⟩
  ·have z:¬ c / 4 % 2=1:=fun e=>z (decide_eq_true e);have e:(List.range n).map (fun b:Nat=>D.bl (decide (((k:Int) - (b:Int)) % (2+c / 8 % 4)=0)))=(List.range n).map fun b:Nat=>D.bl (zqf c k b):=zaM fun b _=>by unfold zqf;rw [if_neg z]
   rw [e];exact fin
 ·rintro st ⟨o4,o5,rfl⟩;simp! [zcR];have fin:∀ (M:Nat->Nat->Bool) (o6:Option (Md×D)),Good M->r__law_loosely_4 {nx:=fun _=>Q .sh .non,rt:=Q} [some (.sh,natD n),some (.sh,.lst (ns.map .int)),some (.sh,.int c),some (.ow,zcj n M),o4,o5,o6]:=by
   intro M o6 g;simp! [r__law_loosely_4];exact h M g
  refine ⟨⟨by decide,by decide,by split<;>omega,by split<;>omega⟩,?_⟩;have hK:((if (ns.length:Int)<63 then (ns.length:Int) else 63) - 2).toNat+2<=ns.length\/((if (ns.length:Int)<63 then (ns.length:Int) else 63) - 2).toNat=0:=by split<;>omega
  generalize ((if (ns.length:Int)<63 then (ns.length:Int) else 63) - 2).toNat=m at hK ⊢;refine zbw (fun k:Nat=>D.int (2+(k:Int))) (List.range m) (fun pre st=>∃ M o6,Good M/\st=[some (.sh,natD n),some (.sh,.lst (ns.map .int)),some (.sh,.int c),some (.ow,zcj n M),o4,o5,o6]) ?_ ?_ ⟨_,_,zqh c,rfl⟩
  ·rintro pre k post st kk e ⟨M,o6,g,rfl⟩ hkk;have hk:k<m:=List.mem_range.mp (by rw [e];simp);simp! [];refine if2 (fun z=>?_) (fun z=>?_)
   ·have z:1<n:=by have:=of_decide_eq_true z;omega
    have e4:atI (ns.map D.int) (2+(k:Int))=some (.int (ns.getD (2+k) 0)):=by
     have:(2:Int)+(k:Int)=((2+k:Nat):Int):=by omega
     rw [this];refine L2.zaW ?_;rw [List.getElem?_map,List.getD_eq_getElem?_getD,List.getElem?_eq_getElem (by omega)];rfl
    rw [e4];refine ⟨_,_,rfl,by omega,by omega,rfl,n,M,_,rfl,rfl,z,by omega,g,fun M' g'=>hkk _ ⟨M',_,g',rfl⟩⟩
   ·exact hkk _ ⟨M,_,g,rfl⟩
  ·rintro st ⟨M,o6,g,rfl⟩;exact fin M o6 g
noncomputable def zbm:VF:=fun ds Q=>∃ (n:Nat) (ns:List Int),ds=[natD n,.lst (ns.map .int)]/\n<=14/\ns.length<=63/\∀ M,Good M->Q .ow (zcj n M)
theorem zhG:∀ ds Q,zbm ds Q->ds.length=2:=by rintro _ Q ⟨w,v,rfl,h⟩;rfl
noncomputable def zdH:VS:=(zaG 5 (vBin fGt (zac 6) (vC (.int 0))) (vBin fIx (zac 4) (vBin (vI fun i j=>.int (i - j)) (zac 6) (vC (.int 1)))) (vBin fIx (zac 4) (zac 6)))
noncomputable def zcW:VS:=(zaG 5 (vBin fIx (vBin fIx (zac 5) (zac 9)) (zac 10)) (zac 10) (zac 9))
noncomputable def zcX:VS:=(zat (zaG 5 (vNotV (vBin fIx (vBin fIx (zac 5) (zac 9)) (zac 10))) (zac 9) (zac 10)) zcW)
noncomputable def zcY:VS:=(zat (zbd 10 (zan (vBin fIx (zac 4) (zac 8)))) zcX)
noncomputable def zcZ:VS:=(zat (zbd 9 (zan (vBin fIx (zac 4) (zac 7)))) zcY)
noncomputable def zc0:VS:=(zat (zbd 8 (zan (vBin (vI2 (fun _ j=>0<j) fun i j=>.int (i % j)) (vBin (vI fun i j=>.int (i+j)) (vBin (vI fun i j=>.int (i+j)) (zac 7) (vC (.int 1))) (vBin (vI2 (fun _ j=>0<j) fun i j=>.int (i % j)) (zaq zao (zaa (vBin fIx (zac 1) (zac 6)) (zaa (vBin (vI fun i j=>.int (i+j)) (zac 6) (vC (.int 64))) zai))) (vBin (vI fun i j=>.int (i - j)) (zac 3) (vC (.int 1))))) (zac 3)))) zcZ)
noncomputable def zc1:VS:=(zaG 5 (vBin fIx (vBin fIx (zac 5) (zac 10)) (zac 11)) (zac 11) (zac 9))
noncomputable def zdI:VS:=(zaG 5 (vBin fIx (vBin fIx (zac 5) (zac 9)) (zac 10)) (zac 10) (zac 9))
noncomputable def zdJ:VS:=(zat (zaG 5 (vBin fEq (vBin (vI2 (fun _ j=>0<j) fun i j=>.int (i % j)) (vBin (vI2 zfg fun i j=>.int (i / j)) (vBin fIx (zac 2) (vBin (vI fun i j=>.int (i - j)) (zac 6) (vC (.int 1)))) (vC (.int 8))) (vC (.int 2))) (vC (.int 1))) (zac 9) (zac 10)) zdI)
noncomputable def zdK:VS:=(zat (zlF (gV 11) (zds (vSl (zac 4) zrm (vP (zac 6))))
 (zat (zaG 5 (vBin fIx (vBin fIx (zac 5) (zac 10)) (zac 11)) (zac 9) (zac 11)) zc1)) zdJ)
noncomputable def zdL:VS:=(zat (zbd 10 (zan (vBin fIx (zac 4) (vBin (vI2 (fun _ j=>0<j) fun i j=>.int (i % j)) (vBin (vI2 (fun _ j=>0<j) fun i j=>.int (i % j)) (vBin (vI2 IntMulOk fun i j=>.int (i * j)) (vBin fIx (zac 2) (vBin (vI fun i j=>.int (i - j)) (zac 6) (vC (.int 1)))) (vC (.int 16807))) (vC (.int 2147483587))) (zac 6))))) zdK)
noncomputable def zeB:VS:=(zdW 5)
noncomputable def r__law_twinned_6:VS:=(zat (zfZ (gV 6) (zaa (zac 3) (zaa (zac 0) zai))
 (zat (zbd 9 (zan (vBin fIx (zac 4) (zac 6)))) zdL)) zeB)
noncomputable def r__law_twinned_5:VS:=(zat (zfZ (gV 6) (zaa (vC (.int 2)) (zaa (vCB ziM (zaa (vC (.int 63)) (zaa (vCB zbP (zaa (zac 1) zai)) zai))) zai))
 (ze7 (zb4 (vBin fGt (zac 3) (vC (.int 1))))
 (zat (zbd 7 (zan (vBin (vI2 (fun _ j=>0<j) fun i j=>.int (i % j)) (zaq zao (zaa (vBin fIx (zac 1) (zac 6)) (zaa (zac 6) zai))) (zac 3)))) zc0)
 zbD)) r__law_twinned_6)
noncomputable def zeC:VS:=(zat (zfz (gV 6) (zaa (zac 3) zai)
 (zat (zaG 5 (vBin fGt (zac 6) (vC (.int 0))) (vBin fIx (zac 4) (zac 6)) (vBin fIx (zac 4) (vBin (vI fun i j=>.int (i - j)) (zac 6) (vC (.int 1))))) zdH)) r__law_twinned_5)
noncomputable def zeD:VS:=(zat (zbd 5 (zf8 (zki (zaa (zac 0) zai)) zb5 (zds (zlW (zbi (zaa (vC (.bl false)) zai)) (zac 1))))) zeC)
noncomputable def zeE:VS:=(zat (zbd 4 (zaK zbV (zaa (zaq zak (zaa (zac 1) (zaa (vC (.int 1)) zai))) (zaa (zac 0) zai)))) zeD)
noncomputable def zeF:VS:=(zat (zbd 3 (zan (vCB ziM (zaa (zac 0) (zaa (vBin (vI fun i j=>.int (i+j)) (vC (.int 4)) (vBin (vI2 (fun _ j=>0<j) fun i j=>.int (i % j)) (vBin (vI2 zfg fun i j=>.int (i / j)) (zaq zak (zaa (zac 1) (zaa (vC (.int 1)) zai))) (vC (.int 4))) (vC (.int 3)))) zai))))) zeE)
noncomputable def zdS:VS:=(zat (zbd 2 (zaK zaQ (zaa (zac 1) zai))) zeF)
noncomputable abbrev zfw:List Str:=["_law_many_here","_law_script","_law_numbers_here","_law_base","_law_names_here","_law_held_here","_law_k","_law_a","_law_b","_law_p","_law_q","_law_r"]
theorem ztC {M:Nat->Nat->Bool}(g:Good M)(x:Nat):ziN M x x false=M:=by
 funext a b;unfold ziN;by_cases z:a=x/\b=x
 ·rw [if_pos z,z.1,z.2,g.irr]
 ·rw [if_neg z]
theorem zix:∀ ds Q,zbm ds Q->zdS {nx:=fun _=>Q .sh .non,rt:=Q} (zaz zfw ds):=by
 rintro _ Q ⟨n,ns,rfl,hn,hl,h⟩;have sz:∀ n,n<=1000->n<=sizeLine:=fun n h=>Nat.le_trans h (by decide);have e5:∀ (M:Nat->Nat->Bool) (a d:Nat) (v:Bool),ziN M a d v a d=v:=fun M a d v=>by unfold ziN;simp
 simp! [zaG,zdS];refine ⟨ns,rfl,fun is hi=>⟨.inl rfl,?_⟩⟩;simp! [zaG,zeF];refine ⟨ns,1,rfl,by decide,?_⟩;simp! [zaG];obtain ⟨bs,ebs,hbs,hb4⟩:∃ bs:Nat,(if (4:Int)+cellP ns 1 / 4 % 3<(n:Int) then (4:Int)+cellP ns 1 / 4 % 3 else (n:Int))=(bs:Int)/\bs<=n/\(n<=bs\/4<=bs):=by
  have h3:0<=cellP ns 1 / 4 % 3/\cellP ns 1 / 4 % 3<3:=⟨Int.emod_nonneg _ (by decide),Int.emod_lt_of_pos _ (by decide)⟩;generalize cellP ns 1 / 4 % 3=y at h3 ⊢;by_cases z:(4:Int)+y<(n:Int)
  ·rw [if_pos z];exact ⟨(4+y).toNat,by omega,by omega,by omega⟩
  ·rw [if_neg z];exact ⟨n,rfl,by omega,by omega⟩
 rw [ebs];refine ⟨zgV (by decide) (by decide),by decide,?_⟩;simp! [zaG,zeE];refine ⟨ns,1,rfl,by decide,_,n,rfl,by omega,fun ps hps=>⟨.inl rfl,?_⟩⟩;have hpl:ps.length=n:=by rw [hps.length_eq];simp
 have hpn:ps.Nodup:=hps.nodup_iff.mpr List.nodup_range;have hpm:∀ p∈ps,p<n:=fun p hp=>List.mem_range.mp (hps.mem_iff.mp hp);simp! [zaG,zeD];refine ⟨(by first|exact zkj (by omega)|exact ⟨by omega,by omega⟩),sz _ (by omega),?_⟩;refine zeP natD (fun _=>zhQ n fun _=>false) (List.range n) [] _ (fun a ha Q h=>?_) ?_
 ·simp! [zaG];rw [zk4];exact ⟨⟨by omega,by omega⟩,sz _ (by omega),zf3 n fun _=>false,h⟩
 rw [List.nil_append];have eh:(List.range n).map (fun _=>zhQ n fun _=>false)=zhy n (fun _ _=>false):=rfl;rw [eh];have g0:Good (fun _ _=>false):=⟨fun _ _=>rfl,fun _=>rfl⟩;generalize (fun _ _=>false:Nat->Nat->Bool)=M0 at g0 ⊢;have at_:∀ i,i<n->ps.getD i 0<n:=fun i hi=>zl1 hpm (by omega);have ne_:∀ i j,i<n->j<n->i≠j->ps.getD i 0≠ps.getD j 0:=fun i j hi hj h=>zjg hpn (by omega) (by omega) h;have p6:∀ (M:Nat->Nat->Bool) (o6 o7 o8 o9 o10:Option (Md×D)),Good M->r__law_twinned_6 {nx:=fun _=>Q .sh .non,rt:=Q} [some (.sh,natD n),some (.sh,.lst (ns.map .int)),some (.ow,.lst (is.map .int)),some (.sh,natD bs),some (.ow,zaF ps),some (.ow,zcj n M),o6,o7,o8,o9,o10,none]:=by
  intro M o6 o7 o8 o9 o10 g;simp! [r__law_twinned_6];refine ⟨⟨by omega,by omega,by omega,by omega⟩,?_⟩;have ez:((n:Int) - (bs:Int)).toNat=n - bs:=by omega
  rw [ez];refine zbw (fun k:Nat=>D.int ((bs:Int)+(k:Int))) (List.range (n - bs)) (fun pre st=>∃ (M:Nat->Nat->Bool) (o6 o7 o8 o9 o10 o11:Option (Md×D)),Good M/\st=[some (.sh,natD n),some (.sh,.lst (ns.map .int)),some (.ow,.lst (is.map .int)),some (.sh,natD bs),some (.ow,zaF ps),some (.ow,zcj n M),o6,o7,o8,o9,o10,o11]) ?_ ?_ ⟨M,_,_,_,_,_,_,g,rfl⟩
  ·rintro pre k0 post st kk e ⟨M,o6,o7,o8,o9,o10,o11,g,rfl⟩ hkk;have hk0:k0<n - bs:=List.mem_range.mp (by rw [e];simp);obtain ⟨k,ek,hk1,hk2⟩:∃ k:Nat,(bs:Int)+(k0:Int)=(k:Int)/\k<n/\0<k:=⟨bs+k0,by omega,by omega,by omega⟩;have ek1:(k:Int) - 1=((k - 1:Nat):Int):=by omega
   simp! [];rw [ek,web_at (by omega)];refine ⟨rfl,?_⟩;simp! [zdL];rw [ek1,zh8 (by omega)];simp! [];obtain ⟨j,ej,hj⟩:=zbE (is.getD (k - 1) 0 * 16807 % 2147483587) k hk2;rw [ej,web_at (by omega)];refine ⟨zcp (by decide),by decide,by omega,rfl,?_⟩;have hp:=at_ k hk1;have hq:=at_ j (by omega);have hpq:=ne_ k j hk1 (by omega) (by omega);have hin:∀ r∈ps.take k,r<n/\r≠ps.getD k 0:=fun r hr=>by
    obtain ⟨i,hi,rfl⟩:=List.mem_iff_getElem.mp hr;rw [List.length_take] at hi;have hik:i<k:=by omega
    have e1:(ps.take k)[i]=ps.getD i 0:=by rw [List.getElem_take,List.getD_eq_getElem?_getD,List.getElem?_eq_getElem (by omega)];rfl
    rw [e1];exact ⟨at_ i (by omega),ne_ i k (by omega) hk1 (by omega)⟩
   generalize ps.getD k 0=p at hp hpq hin ⊢;generalize ps.getD j 0=q at hq hpq ⊢;simp! [zdK];rw [zs7,<-List.map_take];refine ⟨zbj _,?_⟩;refine zbw natD (ps.take k) (fun pre st=>∃ (M:Nat->Nat->Bool) (o11:Option (Md×D)),Good M/\st=[some (.sh,natD n),some (.sh,.lst (ns.map .int)),some (.ow,.lst (is.map .int)),some (.sh,natD bs),some (.ow,zaF ps),some (.ow,zcj n M),some (.sh,natD k),o7,o8,some (.sh,natD p),some (.sh,natD q),o11]) ?_ ?_ ⟨M,_,g,rfl⟩
   ·rintro pre r post st kk e ⟨M,o11,g,rfl⟩ hkk;obtain ⟨hr,hrp⟩:=hin r (by rw [e];simp);simp! [];refine zed (M:=M) rfl (zh9 rfl (zbe rfl) (zbe rfl) hq hr) (zbe rfl) (zbe rfl) hp hr ?_;simp! [zc1];refine zed rfl (zh9 rfl (zbe rfl) (zbe rfl) hq hr) (zbe rfl) (zbe rfl) hr hp ?_;have e6:ziN M p r (M q r) q r=M q r:=by unfold ziN;rw [if_neg (fun z=>hpq z.1.symm)]
    rw [e6];exact hkk _ ⟨_,_,g.upd (Ne.symm hrp) (M q r),rfl⟩
   ·rintro st ⟨M,o11,g,rfl⟩;simp! [zdJ];refine ztq (M:=M) (a:=p) (b:=q) rfl (fun Q h=>by simp! [zaG];rw [ek1,zh8 (by omega)];exact ⟨zgV (by decide) (by decide),by decide,h _⟩) (zbe rfl) (zbe rfl) hp hq fun v=>?_;simp! [zdI];refine zed rfl (zh9 rfl (zbe rfl) (zbe rfl) hp hq) (zbe rfl) (zbe rfl) hq hp ?_;rw [e5];exact hkk _ ⟨_,_,_,_,_,_,_,g.upd hpq v,rfl⟩
  ·rintro st ⟨M,o6,o7,o8,o9,o10,o11,g,rfl⟩;simp! [zaG,zeB];exact h M g
 have p5:∀ (M:Nat->Nat->Bool) (o6:Option (Md×D)),Good M->r__law_twinned_5 {nx:=fun _=>Q .sh .non,rt:=Q} [some (.sh,natD n),some (.sh,.lst (ns.map .int)),some (.ow,.lst (is.map .int)),some (.sh,natD bs),some (.ow,zaF ps),some (.ow,zcj n M),o6,none,none,none,none,none]:=by
  intro M o6 g;simp! [r__law_twinned_5];have hK:((if (ns.length:Int)<63 then (ns.length:Int) else 63) - 2).toNat<=ns.length - 2:=by split<;>omega
  refine ⟨⟨by decide,by decide,by split<;>omega,by split<;>omega⟩,?_⟩;generalize ((if (ns.length:Int)<63 then (ns.length:Int) else 63) - 2).toNat=m at hK ⊢;refine zbw (fun k:Nat=>D.int (2+(k:Int))) (List.range m) (fun pre st=>∃ (M:Nat->Nat->Bool) (o6 o7 o8 o9 o10:Option (Md×D)),Good M/\st=[some (.sh,natD n),some (.sh,.lst (ns.map .int)),some (.ow,.lst (is.map .int)),some (.sh,natD bs),some (.ow,zaF ps),some (.ow,zcj n M),o6,o7,o8,o9,o10,none]) ?_ ?_ ⟨M,_,_,_,_,_,g,rfl⟩
  ·rintro pre k0 post st kk e ⟨M,o6,o7,o8,o9,o10,g,rfl⟩ hkk;have hk0:k0<m:=List.mem_range.mp (by rw [e];simp);obtain ⟨k,ek,hk⟩:∃ k:Nat,(2:Int)+(k0:Int)=(k:Int)/\k<ns.length:=⟨2+k0,by omega,by omega⟩;simp! [];refine if2 (fun z=>?_) (fun z=>hkk _ ⟨M,_,_,_,_,_,g,rfl⟩);have z:1<bs:=by have:=of_decide_eq_true z;omega
   rw [ek,zh8 hk];simp! [];refine ⟨_,_,rfl,by omega,by omega,?_⟩;obtain ⟨a,ea,ha⟩:=zbE (mxP (ns.getD k 0) k) bs (by omega);simp! [];rw [ea];refine ⟨by omega,?_⟩;simp! [zc0];rw [zh8 hk];simp! [];refine ⟨_,_,rfl,by omega,by omega,?_⟩;have ec:(bs:Int) - 1=((bs - 1:Nat):Int):=by omega
   obtain ⟨b0,eb,hb1⟩:=zbE (mxP (ns.getD k 0) ((k:Int)+64)) (bs - 1) (by omega);have ed:(a:Int)+1+(b0:Int)=((a+1+b0:Nat):Int):=by omega
   have ee:((a+1+b0:Nat):Int) % (bs:Int)=(((a+1+b0) % bs:Nat):Int):=by rw [Int.natCast_emod]
   simp! [];rw [ec,eb,ed,ee];obtain ⟨hne,hd⟩:=zje z ha hb1;generalize (a+1+b0) % bs=b at hd hne ⊢;refine ⟨by omega,by omega,?_⟩;simp! [zcZ];rw [web_at (by omega)];refine ⟨rfl,?_⟩;simp! [zcY];rw [web_at (by omega)];refine ⟨rfl,?_⟩;have hp:=at_ a (by omega);have hq:=at_ b (by omega);have hpq:=ne_ a b (by omega) (by omega) hne;generalize ps.getD a 0=p at hp hpq ⊢;generalize ps.getD b 0=q at hq hpq ⊢;simp! [zcX];refine zed (M:=M) rfl (ztr (zh9 rfl (zbe rfl) (zbe rfl) hp hq)) (zbe rfl) (zbe rfl) hp hq ?_;simp! [zcW];refine zed rfl (zh9 rfl (zbe rfl) (zbe rfl) hp hq) (zbe rfl) (zbe rfl) hq hp ?_;rw [e5];exact hkk _ ⟨_,_,_,_,_,_,g.upd hpq (!M p q),rfl⟩
  ·rintro st ⟨M,o6,o7,o8,o9,o10,g,rfl⟩;exact p6 M _ _ _ _ _ g
 simp! [zeC];refine ⟨(by first|exact zkj (by omega)|exact ⟨by omega,by omega⟩),?_⟩;refine zb8 bs (fun k st=>∃ (M:Nat->Nat->Bool) (o6:Option (Md×D)),Good M/\st=[some (.sh,natD n),some (.sh,.lst (ns.map .int)),some (.ow,.lst (is.map .int)),some (.sh,natD bs),some (.ow,zaF ps),some (.ow,zcj n M),o6,none,none,none,none,none]) ?_ ?_ ⟨M0,_,g0,rfl⟩
 ·rintro k st kk hk ⟨M,o6,g,rfl⟩ hkk;obtain ⟨j,hj,ej⟩:∃ j:Nat,j<n/\atI (ps.map natD) ((k:Int) - 1)=some (natD (ps.getD j 0))/\(k>0->j≠k):=by
   by_cases z:k=0
   ·refine ⟨n - 1,by omega,?_,by omega⟩;subst z;have:((0:Nat):Int) - 1= -((1:Nat):Int):=rfl;rw [this];refine zrA (by decide) (by rw [List.length_map];omega) ?_;rw [List.length_map,List.getElem?_map,List.getD_eq_getElem?_getD,hpl,List.getElem?_eq_getElem (by omega)];rfl
   ·refine ⟨k - 1,by omega,?_,by omega⟩;rw [show (k:Int) - 1=((k - 1:Nat):Int) by omega];exact web_at (by omega)
  have hp:=at_ k (by omega);have hq:=at_ j hj;have hv:decide ((0:Int)<(k:Int))=true->ps.getD k 0≠ps.getD j 0:=fun z=>ne_ k j (by omega) hj (by have:=of_decide_eq_true z;exact Ne.symm (ej.2 (by omega)));have rdk:∀ (M:Nat->Nat->Bool) (Q:D->Prop),Q (natD (ps.getD k 0))->vBin fIx (zac 4) (zac 6) [some (.sh,natD n),some (.sh,.lst (ns.map .int)),some (.ow,.lst (is.map .int)),some (.sh,natD bs),some (.ow,zaF ps),some (.ow,zcj n M),some (.sh,natD k),none,none,none,none,none] Q:=fun M Q h=>ztp rfl (zbe rfl) (by omega) rfl Q h;have rdj:∀ (M:Nat->Nat->Bool) (Q:D->Prop),Q (natD (ps.getD j 0))->vBin fIx (zac 4) (vBin (vI fun i j=>.int (i - j)) (zac 6) (vC (.int 1))) [some (.sh,natD n),some (.sh,.lst (ns.map .int)),some (.ow,.lst (is.map .int)),some (.sh,natD bs),some (.ow,zaF ps),some (.ow,zcj n M),some (.sh,natD k),none,none,none,none,none] Q:=fun M Q h=>by
   simp! [zaG];rw [ej.1];exact h
  generalize ps.getD k 0=p at hp hv rdk;generalize ps.getD j 0=q at hq hv rdj;simp! [];refine zed (M:=M) (v:=decide ((0:Int)<(k:Int))) rfl (fun Q h=>by simpa only [zdW,zan,zds,vNotV,vBin,zac,vC,vI,vI2,zaz,zb4,zai,zaa,zbi,vCB,zaq,zaK,zbd,zat,zbD,ze7,vSl,vP,zrm,zki,zb5,fEq,zbP,fIx,ziM,zlF,zfz,zfZ,gV,zaG,zeH,List.map_cons,List.map_nil,List.length_cons,List.length_nil,List.length_map,List.length_range,List.cons_append,List.nil_append,List.getElem?_cons_zero,List.getElem?_cons_succ,List.replicate,List.set_cons_zero,List.set_cons_succ,Nat.reduceAdd,Nat.reduceSub,Nat.reduceLeDiff,D.flat,flats,zqG,isI,zkN,zoe,zof,zea,zkQ,D.dep,Int.zero_add,Int.toNat_natCast,Bool.true_and,Bool.and_true,true_and,znW,zfl,zkV,zlW,zf8,ngt,dAt,fdD,dFD,zk2,zlZ,ztn,zk1,Option.map_some,zoF,zoG,zoH,zto,zrS] using h) (rdk M) (rdj M) hp hq ?_;simp! [zdH];refine zed (v:=decide ((0:Int)<(k:Int))) rfl (fun Q h=>by simpa only [zdW,zan,zds,vNotV,vBin,zac,vC,vI,vI2,zaz,zb4,zai,zaa,zbi,vCB,zaq,zaK,zbd,zat,zbD,ze7,vSl,vP,zrm,zki,zb5,fEq,zbP,fIx,ziM,zlF,zfz,zfZ,gV,zaG,zeH,List.map_cons,List.map_nil,List.length_cons,List.length_nil,List.length_map,List.length_range,List.cons_append,List.nil_append,List.getElem?_cons_zero,List.getElem?_cons_succ,List.replicate,List.set_cons_zero,List.set_cons_succ,Nat.reduceAdd,Nat.reduceSub,Nat.reduceLeDiff,D.flat,flats,zqG,isI,zkN,zoe,zof,zea,zkQ,D.dep,Int.zero_add,Int.toNat_natCast,Bool.true_and,Bool.and_true,true_and,znW,zfl,zkV,zlW,zf8,ngt,dAt,fdD,dFD,zk2,zlZ,ztn,zk1,Option.map_some,zoF,zoG,zoH,zto,zrS] using h) (rdj _) (rdk _) hq hp ?_;generalize decide ((0:Int)<(k:Int))=v at hv ⊢;by_cases epq:p=q
  ·cases v
   ·subst epq;rw [ztC g,ztC g];exact hkk _ ⟨M,_,g,rfl⟩
   ·exact absurd epq (hv rfl)
  ·exact hkk _ ⟨_,_,g.upd epq v,rfl⟩
 ·rintro st ⟨M,o6,g,rfl⟩;exact p5 M _ g
noncomputable def zcz:VF:=fun ds Q=>∃ (n:Nat) (ns:List Int),ds=[natD n,.lst (ns.map .int)]/\n<=14/\ns.length<=63/\∀ M,Good M->Q .ow (zcj n M)
theorem zj0:∀ ds Q,zcz ds Q->ds.length=2:=by rintro _ Q ⟨w,v,rfl,h⟩;rfl
noncomputable def r__law_held_5:VS:=(zdW 3)
noncomputable def zgt:VS:=(zat (ze7 (zsY (zb4 (vBin fEq (zac 2) (vC (.int 1)))) (zb4 (vBin fGt (zac 0) (vC (.int 1)))))
 (zkW 3 zav (zaa (zaq zao (zaa (zaq zak (zaa (zac 1) (zaa (vC (.int 1)) zai))) (zaa (vC (.int 80)) zai))) zai))
 zbD) r__law_held_5)
noncomputable def zgu:VS:=(zat (zbd 3 (zaK zaS (zaa (zac 0) (zaa (zaq zbk (zaa (zac 0) (zaa (zaq zaQ (zaa (zac 1) zai)) (zaa (vBin (vI2 (fun _ j=>0<j) fun i j=>.int (i % j)) (vBin (vI2 zfg fun i j=>.int (i / j)) (zaq zak (zaa (zac 1) (zaa (vC (.int 1)) zai))) (vC (.int 4))) (vC (.int 4))) zai)))) zai)))) zgt)
noncomputable def zgv:VS:=(zat (ze7 (zb4 (vBin fEq (zac 2) (vC (.int 3))))
 (zci (zaK zbm (zaa (zac 0) (zaa (zac 1) zai))))
 zbD) zgu)
noncomputable def zgw:VS:=(zat (ze7 (zb4 (vBin fEq (zac 2) (vC (.int 2))))
 (zci (zaK zbl (zaa (zac 0) (zaa (zac 1) zai))))
 zbD) zgv)
noncomputable def zfK:VS:=(zat (zbd 2 (zan (vBin (vI2 (fun _ j=>0<j) fun i j=>.int (i % j)) (zaq zak (zaa (zac 1) (zaa (vC (.int 1)) zai))) (vC (.int 4))))) zgw)
noncomputable abbrev ziy:List Str:=["_law_many_here","_law_script","_law_mode","_law_held_here"]
theorem zlp:∀ ds Q,zcz ds Q->zfK {nx:=fun _=>Q .sh .non,rt:=Q} (zaz ziy ds):=by
 rintro _ Q ⟨n,ns,rfl,hn,hl,h⟩;simp! [zfK];refine ⟨ns,1,rfl,by decide,?_⟩;simp! [];refine ⟨by decide,?_⟩;generalize cellP ns 1 % 4=mode;simp! [zgw];refine if2 (fun _=>?_) (fun _=>?_)
 ·exact ⟨n,ns,rfl,hn,hl,fun M g=>⟨.inl rfl,h M g⟩⟩
 simp! [zgv];refine if2 (fun _=>?_) (fun _=>?_)
 ·exact ⟨n,ns,rfl,hn,hl,fun M g=>⟨.inl rfl,h M g⟩⟩
 simp! [zgu];refine ⟨ns,rfl,fun is hi=>⟨ns,1,rfl,by decide,?_⟩⟩;simp! [];refine ⟨zgV (by decide) (by decide),by decide,n,is,_,rfl,hn,hi,fun rs hrl ok=>⟨n,rs,rfl,hn,by omega,ok,.inl rfl,?_⟩⟩;obtain ⟨⟨g,_,_⟩,_⟩:=zeQ ok rs.length rs [] rfl (by simp);generalize (simS n rs).2=M0 at g ⊢;have fin:∀ M,Good M->r__law_held_5 {nx:=fun _=>Q .sh .non,rt:=Q} [some (.sh,natD n),some (.sh,.lst (ns.map .int)),some (.sh,.int mode),some (.ow,zcj n M)]:=by
  intro M g;simp! [r__law_held_5];exact h M g
 simp! [zgt];refine if2 (fun _=>?_) (fun _=>ifF (by decide) (fin M0 g));refine if2 (fun z=>?_) (fun z=>fin M0 g);have z:=of_decide_eq_true z;exact ⟨ns,1,rfl,by decide,_,_,rfl,by decide,by decide,rfl,n,M0,_,rfl,rfl,by omega,by omega,g,fun M' g'=>fin M' g'⟩
noncomputable def zda:VF:=fun ds Q=>∃ rs:List (List Bool),ds=[.lst (rs.map zsk)]/\rs.length<=1000/\(∀ r∈rs,r.length<=1000)/\Q .ow (zaF (rs.map bmL))
theorem zlq:∀ ds Q,zda ds Q->ds.length=1:=by rintro _ Q ⟨w,rfl,h⟩;rfl
noncomputable def za6:VS:=(zbd 4 (zan (vBin (vI fun i j=>.int (i+j)) (zac 4) (zac 4))))
noncomputable def zbn:VS:=(zn7 1 (zan (zac 3)))
noncomputable def zbo:VS:=(zat (vFz 2 (zlF (gV 5) (zkK 2)
 (zat (zbd 3 (zan (vBin (vI fun i j=>.int (i+j)) (zac 3) (vBin (vI2 IntMulOk fun i j=>.int (i * j)) (zac 4) (vCB zng (zaa (zac 5) zai)))))) za6))) zbn)
noncomputable def zbp:VS:=(zat (zbd 4 (zan (vC (.int 1)))) zbo)
noncomputable def zbW:VS:=(zdW 1)
noncomputable def zbX:VS:=(zat (vFz 0 (zlF (gV 2) (zkK 0)
 (zat (zbd 3 (zan (vC (.int 0)))) zbp))) zbW)
noncomputable def zg9:VS:=(zat (zbd 1 (zds (zbi zai))) zbX)
noncomputable abbrev zjp:List Str:=["_law_held_here","_law_web_here","_law_row","_law_total","_law_worth","_law_one"]
theorem zmf:∀ ds Q,zda ds Q->zg9 {nx:=fun _=>Q .sh .non,rt:=Q} (zaz zjp ds):=by
 rintro _ Q ⟨rs,rfl,hl,hr,h⟩;simp! [zg9,za6,zbn,zbo,zbp,zbW,zbX];refine zbw zsk rs (fun pre st=>∃ o2 o3 o4 o5,st=[some (.sh,.lst (rs.map zsk)),some (.ow,zaF (pre.map bmL)),o2,o3,o4,o5]) ?_ ?_ ⟨_,_,_,_,rfl⟩
 ·rintro pre r post st kk e ⟨o2,o3,o4,o5,rfl⟩ hk;simp! [za6,zbn,zbo,zbp,zbW,zbX];have hr1:r.length<=1000:=hr r (by rw [e];simp);refine zbw D.bl r (fun p st=>∃ o5,st=[some (.sh,.lst (rs.map zsk)),some (.ow,zaF (pre.map bmL)),some (.sh,zsk r),some (.sh,natD (bmL p)),some (.sh,natD (2 ^ p.length)),o5]) ?_ ?_ ⟨_,rfl⟩
  ·rintro p b q st kk e2 ⟨o5,rfl⟩ hk2;have hp:p.length<=1000:=by rw [e2] at hr1;simp at hr1;omega
   simp! [za6,zbn,zbo,zbp,zbW,zbX];have e3:(((2 ^ p.length:Nat):Int))+((2 ^ p.length:Nat):Int)=((2 ^ (p.length+1):Nat):Int):=by rw [Nat.pow_succ];omega
   have e4:((bmL p+2 ^ p.length * (if b=true then 1 else 0):Nat):Int)=(bmL p:Int)+((2 ^ p.length:Nat):Int) * (if b=true then 1 else 0):=by cases b<;>simp
   rw [zpQ,List.length_append,List.length_singleton] at hk2;rw [e3,<-e4];exact ⟨zcp (by cases b<;>decide),hk2 _ ⟨_,rfl⟩⟩
  ·rintro st ⟨o5,rfl⟩;simp! [za6,zbn,zbo,zbp,zbW,zbX,appM,if_true];have hpl:pre.length<=1000:=by rw [e] at hl;simp at hl;omega
   rw [zjB natD,zjB bmL];exact ⟨zby hpl,hk _ ⟨_,_,_,_,rfl⟩⟩
 ·rintro st ⟨o2,o3,o4,o5,rfl⟩;simp! [za6,zbn,zbo,zbp,zbW,zbX];exact h
noncomputable def zbb:VF:=fun ds Q=>∃ is:List Int,ds=[zhA is]/\is.length<=1000/\Q .sh (.bl true)
theorem ziz:∀ ds Q,zbb ds Q->ds.length=1:=by rintro _ Q ⟨is,rfl,h⟩;rfl
noncomputable def zeZ:VS:=(zci (zan (vCB zrC (zaa (zdT (zb7 (zdk (zac 0)) zb5 (zgQ (zsj isI (zac 0)) (vNotV (zsj zqG (zac 0)))))) zai))))
noncomputable def zej:VS:=(zat (ze7 (zpA (zb4 (zsj zkN (zac 0))))
 (zci (zan (vC (.bl false))))
 zbD) zeZ)
noncomputable abbrev zgx:List Str:=["_law_found"]
theorem ziW:∀ ds Q,zbb ds Q->zej {nx:=fun _=>Q .sh .non,rt:=Q} (zaz zgx ds):=by
 rintro _ Q ⟨is,rfl,hl,h⟩;simp! [zej];refine ifF (by decide) ?_;simp! [zeZ];refine ⟨Nat.le_trans hl (by decide),?_⟩;refine za0 D.int (fun _=>.bl true) is _ (fun x hx Q h=>?_) ?_
 ·simp! [];simpa [isI,zqG] using h
 ·refine ⟨is.map fun _=>true,by rw [List.map_map];rfl,?_⟩;have:(is.map fun _=>true).all id=true:=by simp
  rw [this];exact ⟨rfl,h⟩
noncomputable def zcA:VF:=fun ds Q=>∃ rows:List (List Int),ds=[.lst (rows.map zhA)]/\rows.length<=1000/\(∀ r∈rows,r.length<=1000)/\Q .sh (.bl true)
theorem zj1:∀ ds Q,zcA ds Q->ds.length=1:=by rintro _ Q ⟨is,rfl,h⟩;rfl
noncomputable def zgy:VS:=(zci (zan (vCB zrC (zaa (zdT (zb7 (zdk (zac 0)) zb5 (zaq zbb (zaa (zac 0) zai)))) zai))))
noncomputable def zfL:VS:=(zat (ze7 (zpA (zb4 (zsj zkN (zac 0))))
 (zci (zan (vC (.bl false))))
 zbD) zgy)
noncomputable abbrev ziA:List Str:=["_law_rows"]
theorem zlr:∀ ds Q,zcA ds Q->zfL {nx:=fun _=>Q .sh .non,rt:=Q} (zaz ziA ds):=by
 rintro _ Q ⟨rows,rfl,hl,hr,h⟩;simp! [zfL];refine ifF (by decide) ?_;simp! [zgy];refine ⟨Nat.le_trans hl (by decide),?_⟩;refine za0 zhA (fun _=>.bl true) rows _ (fun r hr' Q h=>?_) ?_
 ·simp! [];exact ⟨r,rfl,hr r hr',h⟩
 ·refine ⟨rows.map fun _=>true,by rw [List.map_map];rfl,?_⟩;have:(rows.map fun _=>true).all id=true:=by simp
  rw [this];exact ⟨rfl,h⟩
theorem zcB (pre:List zbx)(r:zbx):namedN (pre++[r])=namedN pre++[r.2.1,r.2.2]:=by unfold namedN;rw [List.flatMap_append];rfl
theorem zgz {n:Nat}{pre post:List zbx}(h:zbz n (pre++post)):zbz n pre:=fun a r b e=>h a r (b++post) (by rw [e];simp)
theorem zgA {n:Nat}{pre:List zbx}{r:zbx}(h:zbz n (pre++[r])):r.1<=1/\r.2.1<n+pre.length/\r.2.2<n+pre.length/\r.2.1≠r.2.2/\r.2.1∉namedN pre/\r.2.2∉namedN pre:=h pre r [] (by simp)
theorem zgB {P:List zbx->Prop}(h0:P [])(h1:∀ pre r,P pre->P (pre++[r])):∀ l,P l:=by
 intro l
 induction k:l.length generalizing l with
 |zero=>rw [List.length_eq_zero_iff.mp k];exact h0
 |succ k ih=>
  rcases List.eq_nil_or_concat l with rfl|⟨p,r,rfl⟩
  ·exact h0
  ·rw [List.concat_eq_append] at k ⊢;exact h1 p r (ih p (by simpa using k))
theorem zqi {n:Nat}:∀ rs:List zbx,zbz n rs->(namedN rs).Nodup/\(namedN rs).length=2 * rs.length:=by
 refine zgB (fun _=>⟨List.nodup_nil,rfl⟩) fun pre r ih h=>?_;obtain ⟨i1,i2⟩:=ih (zgz h);obtain ⟨_,_,_,n4,n5,n6⟩:=zgA h;rw [zcB];refine ⟨List.nodup_append.mpr ⟨i1,by simp [n4],fun a ha b hb=>?_⟩,by rw [List.length_append,i2,List.length_append];simp only [List.length_cons,List.length_nil];omega⟩;rcases List.mem_cons.mp hb with rfl|hb
 ·intro e;subst e;exact n5 ha
 ·rw [List.mem_singleton.mp hb];intro e;subst e;exact n6 ha
theorem zfM {n:Nat}{rs:List zbx}(h:zbz n rs):ztt n (simS n rs)/\(simS n rs).1.length=n+rs.length:=by
 obtain ⟨hok,_⟩:=zg1 h rs.length rs [] rfl (by simp);exact zeQ hok rs.length rs [] rfl (by simp)
theorem zqj {n:Nat}{rs:List zbx}(h:zbz n rs){i j:Nat}(hi:i<n+rs.length)(hj:j<n+rs.length)(ni:i∉namedN rs)(nj:j∉namedN rs)(hne:i≠j){p q:Nat}(hp:p∈(simS n rs).1.getD i [])(hq:q∈(simS n rs).1.getD j []):p≠q:=by
 obtain ⟨_,hs⟩:=zg1 h rs.length rs [] rfl (by simp);exact (hs i (List.mem_filter.mpr ⟨List.mem_range.mpr hi,decide_eq_true ni⟩) j (List.mem_filter.mpr ⟨List.mem_range.mpr hj,decide_eq_true nj⟩) hne p hp q hq).1
theorem zgC {n i:Nat}(h:i<n):(simS n []).1.getD i []=[i]:=by
 show ((List.range n).map fun p=>[p]).getD i []=_
 rw [List.getD_eq_getElem?_getD,List.getElem?_map,List.getElem?_range h];rfl
theorem zuz {n:Nat}:∀ rs:List zbx,zbz n rs->∀ x,x<n->∃ i,i<n+rs.length/\i∉namedN rs/\x∈(simS n rs).1.getD i []:=by
 refine zgB (fun _ x hx=>⟨x,hx,by simp [namedN],by rw [zgC hx];simp⟩) fun pre r ih h x hx=>?_;have hp:=zgz h;obtain ⟨_,n2,n3,_,_,_⟩:=zgA h;obtain ⟨i,hi,ni,hxi⟩:=ih hp x hx;obtain ⟨_,hl⟩:=zfM hp;rw [za1,zcB,List.length_append,List.length_singleton];have e1:(zee (simS n pre) r).1=(simS n pre).1++[(simS n pre).1.getD r.2.1 []++(simS n pre).1.getD r.2.2 []]:=rfl;rw [e1];by_cases z:i=r.2.1\/i=r.2.2
 ·refine ⟨n+pre.length,by omega,fun hm=>?_,?_⟩
  ·rcases List.mem_append.mp hm with hm|hm
   ·have:=zdA hp _ hm;omega
   ·simp only [List.mem_cons,List.not_mem_nil,or_false] at hm;omega
  ·rw [zaZ,if_neg (by omega),if_pos hl.symm];rcases z with rfl|rfl
   ·exact List.mem_append.mpr (.inl hxi)
   ·exact List.mem_append.mpr (.inr hxi)
 ·refine ⟨i,by omega,fun hm=>?_,?_⟩
  ·rcases List.mem_append.mp hm with hm|hm
   ·exact ni hm
   ·simp only [List.mem_cons,List.not_mem_nil,or_false] at hm;exact z hm
  ·rw [zaZ,if_pos (by omega)];exact hxi
theorem zj2 {n:Nat}{rs:List zbx}(h:zbz n rs)(h0:0<n):n+rs.length - 1<n+rs.length/\n+rs.length - 1∉namedN rs:=by
 refine ⟨by omega,fun hm=>?_⟩;unfold namedN at hm;obtain ⟨r,hr,hi⟩:=List.mem_flatMap.mp hm;obtain ⟨pre,post,e⟩:=List.append_of_mem hr;obtain ⟨_,h2,h3,_⟩:=h pre r post e;have:pre.length+1<=rs.length:=by rw [e];simp
 simp only [List.mem_cons,List.not_mem_nil,or_false] at hi;omega
theorem ztS {n:Nat}{rs:List zbx}(h:zbz n rs)(hl:rs.length=n - 1){x:Nat}(hx:x<n):x∈(simS n rs).1.getD (n+rs.length - 1) []:=by
 obtain ⟨i,hi,ni,hxi⟩:=zuz rs h x hx;obtain ⟨l1,l2⟩:=zj2 h (by omega);by_cases z:i=n+rs.length - 1
 ·rw [<-z];exact hxi
 ·obtain ⟨d1,d2⟩:=zqi rs h;have nd:(i::(n+rs.length - 1)::namedN rs).Nodup:=List.nodup_cons.mpr ⟨fun hm=>by rcases List.mem_cons.mp hm with e|e;exact z e;exact ni e,List.nodup_cons.mpr ⟨l2,d1⟩⟩;have:=zgb (n:=n+rs.length) nd fun p hp=>by
   rcases List.mem_cons.mp hp with rfl|hp
   ·exact hi
   ·rcases List.mem_cons.mp hp with rfl|hp
    ·exact l1
    ·exact zdA h p hp
  rw [List.length_cons,List.length_cons,d2] at this;omega
theorem ziB (rs:List zbx):(rs.map zdn).map toR=rs:=by
 rw [List.map_map];exact (List.map_congr_left fun r _=>by obtain ⟨a,b,c⟩:=r;simp [toR,zdn]).trans (List.map_id _)
theorem zgD {M:Nat->Nat->Bool}{A B:List Nat}{v:Bool}{x y:Nat}(h1:x∉A\/y∉B)(h2:x∉B\/y∉A):crossM M A B v x y=M x y:=by
 unfold crossM;refine if_neg fun z=>?_;simp only [Bool.or_eq_true,Bool.and_eq_true,decide_eq_true_iff] at z;rcases z with ⟨a,b⟩|⟨a,b⟩
 ·rcases h1 with w|w
  ·exact w a
  ·exact w b
 ·rcases h2 with w|w
  ·exact w a
  ·exact w b
theorem zo3 {M:Nat->Nat->Bool}{A B:List Nat}{v:Bool}{x y:Nat}(hx:x∈A)(hy:y∈B):crossM M A B v x y=v:=by
 unfold crossM;exact if_pos (by simp [hx,hy])
theorem zo4 {M:Nat->Nat->Bool}{A B:List Nat}{v:Bool}{x y:Nat}(hx:x∈B)(hy:y∈A):crossM M A B v x y=v:=by
 unfold crossM;exact if_pos (by simp [hx,hy])
noncomputable def flp (r:zbx):zbx:=(1 - r.1,r.2)
theorem zls (rs:List zbx):namedN (rs.map flp)=namedN rs:=by unfold namedN;rw [List.flatMap_map];rfl
theorem zm8 {n:Nat}:∀ rs:List zbx,zbz n rs->zbz n (rs.map flp):=by
 refine zgB (fun h=>h) fun pre r ih h=>?_;obtain ⟨n1,n2,n3,n4,n5,n6⟩:=zgA h;rw [List.map_append];refine zgi (ih (zgz h)) ⟨by show 1 - r.1<=1;omega,by rw [List.length_map];exact n2,by rw [List.length_map];exact n3,n4,by rw [zls];exact n5,by rw [zls];exact n6⟩
theorem zr7 {n:Nat}:∀ rs:List zbx,zbz n rs->(simS n (rs.map flp)).1=(simS n rs).1/\∀ i,i<n+rs.length->i∉namedN rs->∀ x∈(simS n rs).1.getD i [],∀ y∈(simS n rs).1.getD i [],x≠y->(simS n (rs.map flp)).2 x y= !(simS n rs).2 x y:=by
 refine zgB (fun _=>⟨rfl,fun i hi _ x hx y hy hne=>?_⟩) fun pre r ih h=>?_
 ·rw [zgC (n:=n) hi] at hx hy;rw [List.mem_singleton.mp hx,List.mem_singleton.mp hy] at hne;exact absurd rfl hne
 ·have hp:=zgz h;obtain ⟨n1,n2,n3,n4,n5,n6⟩:=zgA h;obtain ⟨i1,i2⟩:=ih hp;obtain ⟨_,hl⟩:=zfM hp;have sep:=fun {i j} hi hj ni nj hne {p q} hp' hq'=>zqj hp (i:=i) (j:=j) hi hj ni nj hne (p:=p) (q:=q) hp' hq';rw [List.map_append,List.map_cons,List.map_nil,za1,za1,zcB,List.length_append,List.length_singleton];have e1:(zee (simS n pre) r).1=(simS n pre).1++[(simS n pre).1.getD r.2.1 []++(simS n pre).1.getD r.2.2 []]:=rfl;have e2:(zee (simS n (pre.map flp)) (flp r)).1=(simS n pre).1++[(simS n pre).1.getD r.2.1 []++(simS n pre).1.getD r.2.2 []]:=by rw [<-i1];rfl
  have m1:(zee (simS n pre) r).2=crossM (simS n pre).2 ((simS n pre).1.getD r.2.1 []) ((simS n pre).1.getD r.2.2 []) (decide (r.1=1)):=rfl;have m2:(zee (simS n (pre.map flp)) (flp r)).2=crossM (simS n (pre.map flp)).2 ((simS n pre).1.getD r.2.1 []) ((simS n pre).1.getD r.2.2 []) (!decide (r.1=1)):=by
   show crossM _ ((simS n (pre.map flp)).1.getD r.2.1 []) ((simS n (pre.map flp)).1.getD r.2.2 []) (decide (1 - r.1=1))=_
   rw [i1];rcases (by omega:r.1=0\/r.1=1) with z|z<;>rw [z]<;>rfl
  refine ⟨by rw [e1,e2],fun i hi ni x hx y hy hne=>?_⟩;rw [m1,m2];rw [e1] at hx hy;have nia:i∉namedN pre:=fun z=>ni (List.mem_append.mpr (.inl z));have nir:i≠r.2.1/\i≠r.2.2:=⟨fun z=>ni (List.mem_append.mpr (.inr (by simp [z]))),fun z=>ni (List.mem_append.mpr (.inr (by simp [z])))⟩;by_cases z:i<n+pre.length
  ·rw [zaZ,if_pos (by omega)] at hx hy;have na:∀ w∈(simS n pre).1.getD i [],w∉(simS n pre).1.getD r.2.1 []:=fun w hw hw'=>sep z n2 nia n5 nir.1 hw hw' rfl;have nb:∀ w∈(simS n pre).1.getD i [],w∉(simS n pre).1.getD r.2.2 []:=fun w hw hw'=>sep z n3 nia n6 nir.2 hw hw' rfl;rw [zgD (.inl (na x hx)) (.inl (nb x hx)),zgD (.inl (na x hx)) (.inl (nb x hx))];exact i2 i z nia x hx y hy hne
  ·obtain rfl:i=n+pre.length:=by omega
   rw [zaZ,if_neg (by omega),if_pos hl.symm] at hx hy;have dis:∀ w,w∈(simS n pre).1.getD r.2.1 []->w∉(simS n pre).1.getD r.2.2 []:=fun w hw hw'=>sep n2 n3 n5 n6 n4 hw hw' rfl;rcases List.mem_append.mp hx with hx|hx<;>rcases List.mem_append.mp hy with hy|hy
   ·rw [zgD (.inr (dis y hy)) (.inl (dis x hx)),zgD (.inr (dis y hy)) (.inl (dis x hx))];exact i2 _ n2 n5 x hx y hy hne
   ·rw [zo3 hx hy,zo3 hx hy]
   ·rw [zo4 hx hy,zo4 hx hy]
   ·have dx:x∉(simS n pre).1.getD r.2.1 []:=fun z=>dis x z hx;have dy:y∉(simS n pre).1.getD r.2.1 []:=fun z=>dis y z hy;rw [zgD (.inl dx) (.inr dy),zgD (.inl dx) (.inr dy)];exact i2 _ n3 n6 x hx y hy hne
theorem ztD {n:Nat}{M:Nat->Nat->Bool}{rs:List zbx}(g:Good M)(h:zbz n rs)(hl:rs.length=n - 1)(hE:∀ x,x<n->∀ y,y<n->(simS n rs).2 x y=M x y):isJ n (oth M) ((rs.map flp).map zdn)=true:=by
 unfold isJ;rw [zmb (zm8 rs h) (by rw [List.length_map];exact hl),Bool.true_and,ziB];refine decide_eq_true (zl0 fun x y hx hy=>?_);obtain ⟨_,h2⟩:=zr7 rs h;obtain ⟨⟨gs,_,_⟩,_⟩:=zfM (zm8 rs h);by_cases e:x=y
 ·subst e;rw [gs.irr];unfold oth;simp
 ·obtain ⟨l1,l2⟩:=zj2 h (by omega);rw [h2 _ l1 l2 x (ztS h hl hx) y (ztS h hl hy) e,hE x hx y hy];unfold oth;simp [e]
noncomputable def mvR (f:Nat->Nat)(r:zbx):zbx:=(r.1,f r.2.1,f r.2.2)
structure Em0 (n N:Nat)(P rs:List zbx)(φ f:Nat->Nat):Prop where
 nP:zbz N P
 inj:∀ x y,x<n->y<n->φ x=φ y->x=y
 fnj:∀ i j,i<n+rs.length->j<n+rs.length->f i=f j->i=j
 new:∀ j,j<rs.length->f (n+j)=N+P.length+j
 low:∀ i,i<n->f i<N+P.length/\f i∉namedN P/\(simS N P).1.getD (f i) []=[φ i]
 zero:∀ x y,x<n->y<n->(simS N P).2 (φ x) (φ y)=false
structure Em (n N:Nat)(P pre:List zbx)(φ f:Nat->Nat):Prop where
 nice:zbz N (P++pre.map (mvR f))
 named:∀ x,x∈namedN (P++pre.map (mvR f))->x∈namedN P\/∃ i∈namedN pre,x=f i
 thg:∀ i,i<n+pre.length->(simS N (P++pre.map (mvR f))).1.getD (f i) []=((simS n pre).1.getD i []).map φ
 tie:∀ x y,x<n->y<n->(simS N (P++pre.map (mvR f))).2 (φ x) (φ y)=(simS n pre).2 x y
 out:∀ u v,(∀ x,x<n->u≠φ x)\/(∀ y,y<n->v≠φ y)->(simS N (P++pre.map (mvR f))).2 u v=(simS N P).2 u v
 old:∀ i,i<N+P.length->(simS N (P++pre.map (mvR f))).1.getD i []=(simS N P).1.getD i []
theorem zqQ {n N:Nat}{P rs:List zbx}{φ f:Nat->Nat}(E:Em0 n N P rs φ f)(h:zbz n rs):∀ pre:List zbx,(∃ post,rs=pre++post)->Em n N P pre φ f:=by
 refine zgB (fun _=>?_) fun pre r ih hpost=>?_
 ·refine ⟨by simpa using E.nP,fun x hx=>.inl (by simpa using hx),fun i hi=>?_,fun x y hx hy=>?_,fun u v _=>by simp,fun i hi=>by simp⟩
  ·rw [List.map_nil,List.append_nil,(E.low i hi).2.2,zgC (n:=n) hi];rfl
  ·rw [List.map_nil,List.append_nil,E.zero x y hx hy];rfl
 ·obtain ⟨post,e⟩:=hpost;have e':rs=pre++(r::post):=by rw [e];simp
  have I:=ih ⟨_,e'⟩;have hlen:pre.length<rs.length:=by rw [e'];simp
  have hp:zbz n pre:=zgz (e'▸h);obtain ⟨n1,n2,n3,n4,n5,n6⟩:=h pre r post e';obtain ⟨⟨_,inv2,_⟩,sl⟩:=zfM hp;obtain ⟨_,tl⟩:=zfM I.nice;rw [List.length_append,List.length_map] at tl;have flt:∀ i,i<n+pre.length->f i<N+P.length+pre.length:=fun i hi=>by
   by_cases z:i<n
   ·have:=(E.low i z).1;omega
   ·have:=E.new (i - n) (by omega);rw [show n+(i - n)=i from by omega] at this;omega
  have fun_:∀ i,i<n+pre.length->i∉namedN pre->f i∉namedN (P++pre.map (mvR f)):=fun i hi ni hm=>by
   rcases I.named _ hm with hm|⟨j,hj,ej⟩
   ·by_cases z:i<n
    ·exact (E.low i z).2.1 hm
    ·have:=E.new (i - n) (by omega);rw [show n+(i - n)=i from by omega] at this;have:=zdA E.nP _ hm;omega
   ·have:=E.fnj i j (by omega) (by have:=zdA hp j hj;omega) ej;exact ni (this▸hj)
  have eQ:P++(pre++[r]).map (mvR f)=(P++pre.map (mvR f))++[mvR f r]:=by rw [List.map_append,List.append_assoc];rfl
  have eA:(simS N (P++pre.map (mvR f))).1.getD (f r.2.1) []=((simS n pre).1.getD r.2.1 []).map φ:=I.thg _ n2;have eB:(simS N (P++pre.map (mvR f))).1.getD (f r.2.2) []=((simS n pre).1.getD r.2.2 []).map φ:=I.thg _ n3;have lA:∀ x∈(simS n pre).1.getD r.2.1 [],x<n:=inv2 _;have lB:∀ x∈(simS n pre).1.getD r.2.2 [],x<n:=inv2 _;have s1:(zee (simS n pre) r).1=(simS n pre).1++[(simS n pre).1.getD r.2.1 []++(simS n pre).1.getD r.2.2 []]:=rfl;have t1:(zee (simS N (P++pre.map (mvR f))) (mvR f r)).1=(simS N (P++pre.map (mvR f))).1++[((simS n pre).1.getD r.2.1 []).map φ++((simS n pre).1.getD r.2.2 []).map φ]:=by rw [<-eA,<-eB];rfl
  have s2:(zee (simS n pre) r).2=crossM (simS n pre).2 ((simS n pre).1.getD r.2.1 []) ((simS n pre).1.getD r.2.2 []) (decide (r.1=1)):=rfl;have t2:(zee (simS N (P++pre.map (mvR f))) (mvR f r)).2=crossM (simS N (P++pre.map (mvR f))).2 (((simS n pre).1.getD r.2.1 []).map φ) (((simS n pre).1.getD r.2.2 []).map φ) (decide (r.1=1)):=by rw [<-eA,<-eB];rfl
  generalize (simS n pre).1.getD r.2.1 []=A at s1 t1 s2 t2 lA eA;generalize (simS n pre).1.getD r.2.2 []=B at s1 t1 s2 t2 lB eB;have im:∀ (C:List Nat),(∀ x∈C,x<n)->∀ x,x<n->(φ x∈C.map φ↔x∈C):=fun C hC x hx=>by
   rw [List.mem_map];exact ⟨fun ⟨y,hy,ey⟩=>E.inj y x (hC y hy) hx ey▸hy,fun hm=>⟨x,hm,rfl⟩⟩
  refine ⟨?_,fun x hx=>?_,fun i hi=>?_,fun x y hx hy=>?_,fun u v huv=>?_,fun i hi=>?_⟩
  ·rw [eQ];refine zgi I.nice ⟨n1,?_,?_,fun z=>n4 (E.fnj _ _ (by omega) (by omega) z),fun_ _ n2 n5,fun_ _ n3 n6⟩
   ·rw [List.length_append,List.length_map];have:=flt _ n2;show f r.2.1<_
    omega
   ·rw [List.length_append,List.length_map];have:=flt _ n3;show f r.2.2<_
    omega
  ·rw [eQ,zcB] at hx;rcases List.mem_append.mp hx with hx|hx
   ·rcases I.named x hx with z|⟨i,hi,z⟩
    ·exact .inl z
    ·exact .inr ⟨i,by rw [zcB];exact List.mem_append.mpr (.inl hi),z⟩
   ·simp only [List.mem_cons,List.not_mem_nil,or_false] at hx;rcases hx with hx|hx
    ·exact .inr ⟨r.2.1,by rw [zcB];simp,hx⟩
    ·exact .inr ⟨r.2.2,by rw [zcB];simp,hx⟩
  ·rw [eQ,za1,za1,s1,t1];rw [List.length_append,List.length_singleton] at hi;by_cases z:i<n+pre.length
   ·rw [zaZ,if_pos (by have:=flt i z;omega),zaZ,if_pos (by omega)];exact I.thg i z
   ·obtain rfl:i=n+pre.length:=by omega
    have:=E.new pre.length hlen;rw [zaZ,if_neg (by omega),if_pos (by omega),zaZ,if_neg (by omega),if_pos (by omega),List.map_append]
  ·rw [eQ,za1,za1,s2,t2];unfold crossM;rw [decide_eq_decide.mpr (im A lA x hx),decide_eq_decide.mpr (im B lB y hy),decide_eq_decide.mpr (im B lB x hx),decide_eq_decide.mpr (im A lA y hy),I.tie x y hx hy]
  ·rw [eQ,za1,t2];have ni:∀ (C:List Nat),(∀ x∈C,x<n)->∀ w,(∀ x,x<n->w≠φ x)->w∉C.map φ:=fun C hC w hw hm=>by
    obtain ⟨y,hy,ey⟩:=List.mem_map.mp hm;exact hw y (hC y hy) ey.symm
   rw [zgD ?_ ?_]
   ·exact I.out u v huv
   ·rcases huv with z|z
    ·exact .inl (ni A lA u z)
    ·exact .inr (ni B lB v z)
   ·rcases huv with z|z
    ·exact .inl (ni B lB u z)
    ·exact .inr (ni A lA v z)
  ·rw [eQ,za1,t1,zaZ,if_pos (by omega)];exact I.old i hi
noncomputable def mv0 (n0 N:Nat)(i:Nat):Nat:=if i<n0 then i else i - n0+N
noncomputable def mv1 (n0 n1 N:Nat)(i:Nat):Nat:=if i<n1 then i+n0 else i - n1+(N+(n0 - 1))
noncomputable def zmg (n0 n1:Nat)(r0 r1:List zbx)(v:Nat):List zbx:=r0.map (mvR (mv0 n0 (n0+n1)))++r1.map (mvR (mv1 n0 n1 (n0+n1)))++[(v,mv0 n0 (n0+n1) (2 * n0 - 2),mv1 n0 n1 (n0+n1) (2 * n1 - 2))]
theorem ztE {n0 n1:Nat}{r0 r1:List zbx}{v:Nat}(h0:zbz n0 r0)(h1:zbz n1 r1)(l0:r0.length=n0 - 1)(l1:r1.length=n1 - 1)(p0:0<n0)(p1:0<n1)(hv:v<=1):
  zbz (n0+n1) (zmg n0 n1 r0 r1 v)/\(∀ x y,x<n0->y<n0->(simS (n0+n1) (zmg n0 n1 r0 r1 v)).2 x y=(simS n0 r0).2 x y)/\(∀ x y,x<n1->y<n1->(simS (n0+n1) (zmg n0 n1 r0 r1 v)).2 (n0+x) (n0+y)=(simS n1 r1).2 x y)/\
   ∀ x y,x<n0->y<n1->(simS (n0+n1) (zmg n0 n1 r0 r1 v)).2 x (n0+y)=decide (v=1)/\(simS (n0+n1) (zmg n0 n1 r0 r1 v)).2 (n0+y) x=decide (v=1):=by
 have nil_nice:zbz (n0+n1) []:=fun pre r post e=>by cases pre<;>cases e
 have E0:Em0 n0 (n0+n1) [] r0 (fun x=>x) (mv0 n0 (n0+n1)):=by
  refine ⟨nil_nice,fun x y _ _ e=>e,fun i j hi hj e=>?_,fun j hj=>?_,fun i hi=>⟨?_,by simp [namedN],?_⟩,fun x y _ _=>rfl⟩
  ·unfold mv0 at e;split at e<;>split at e<;>omega
  ·unfold mv0;rw [if_neg (by omega),List.length_nil];omega
  ·unfold mv0;rw [if_pos hi,List.length_nil];omega
  ·unfold mv0;rw [if_pos hi,zgC (by omega)]
 have I0:=zqQ E0 h0 r0 ⟨[],by simp⟩;have q0:zbz (n0+n1) (r0.map (mvR (mv0 n0 (n0+n1)))):=I0.nice;have d0:∀ x,x∈namedN (r0.map (mvR (mv0 n0 (n0+n1))))->∃ i∈namedN r0,x=mv0 n0 (n0+n1) i:=fun x hx=>(I0.named x hx).resolve_left (by simp [namedN]);have P1l:(r0.map (mvR (mv0 n0 (n0+n1)))).length=n0 - 1:=by rw [List.length_map];exact l0
 have E1:Em0 n1 (n0+n1) (r0.map (mvR (mv0 n0 (n0+n1)))) r1 (fun x=>n0+x) (mv1 n0 n1 (n0+n1)):=by
  refine ⟨q0,fun x y _ _ e=>by omega,fun i j hi hj e=>?_,fun j hj=>?_,fun i hi=>⟨?_,fun hm=>?_,?_⟩,fun x y hx hy=>?_⟩
  ·unfold mv1 at e;split at e<;>split at e<;>omega
  ·unfold mv1;rw [if_neg (by omega),P1l];omega
  ·unfold mv1;rw [if_pos hi];omega
  ·obtain ⟨j,_,e⟩:=d0 _ hm;unfold mv1 mv0 at e;rw [if_pos hi] at e;split at e<;>omega
  ·unfold mv1;rw [if_pos hi];have:=I0.old (i+n0) (by show _<n0+n1+0;omega);rw [zgC (by omega)] at this;rw [Nat.add_comm n0 i];exact this
  ·exact I0.out (n0+x) (n0+y) (.inl fun z hz=>by omega)
 have I1:=zqQ E1 h1 r1 ⟨[],by simp⟩;obtain ⟨_,u0⟩:=zj2 h0 p0;obtain ⟨_,u1⟩:=zj2 h1 p1;rw [l0,show n0+(n0 - 1) - 1=2 * n0 - 2 from by omega] at u0;rw [l1,show n1+(n1 - 1) - 1=2 * n1 - 2 from by omega] at u1;have a1:mv0 n0 (n0+n1) (2 * n0 - 2)<n0+n1+(n0 - 1)/\(mv0 n0 (n0+n1) (2 * n0 - 2)<n0\/n0+n1<=mv0 n0 (n0+n1) (2 * n0 - 2)):=by unfold mv0;split<;>omega
 have b1:mv1 n0 n1 (n0+n1) (2 * n1 - 2)<n0+n1+(n0 - 1)+(n1 - 1)/\n0<=mv1 n0 n1 (n0+n1) (2 * n1 - 2)/\(mv1 n0 n1 (n0+n1) (2 * n1 - 2)<n0+n1\/n0+n1+(n0 - 1)<=mv1 n0 n1 (n0+n1) (2 * n1 - 2)):=by unfold mv1;split<;>omega
 have m0:∀ i,i<n0+r0.length->mv0 n0 (n0+n1) i<n0+n1+(n0 - 1)/\(mv0 n0 (n0+n1) i<n0\/n0+n1<=mv0 n0 (n0+n1) i):=fun i hi=>by unfold mv0;split<;>omega
 have m1:∀ i,n0<=mv1 n0 n1 (n0+n1) i/\(mv1 n0 n1 (n0+n1) i<n0+n1\/n0+n1+(n0 - 1)<=mv1 n0 n1 (n0+n1) i):=fun i=>by unfold mv1;split<;>omega
 have ql:(r0.map (mvR (mv0 n0 (n0+n1)))++r1.map (mvR (mv1 n0 n1 (n0+n1)))).length=(n0 - 1)+(n1 - 1):=by rw [List.length_append,P1l,List.length_map,l1]
 have na:mv0 n0 (n0+n1) (2 * n0 - 2)∉namedN (r0.map (mvR (mv0 n0 (n0+n1)))++r1.map (mvR (mv1 n0 n1 (n0+n1)))):=fun hm=>by
  rcases I1.named _ hm with hm|⟨i,hi,e⟩
  ·obtain ⟨j,hj,e⟩:=d0 _ hm;have hjl:=zdA h0 j hj;have:=E0.fnj _ _ (by omega) hjl e;exact u0 (this▸hj)
  ·have:=m1 i;omega
 have nb:mv1 n0 n1 (n0+n1) (2 * n1 - 2)∉namedN (r0.map (mvR (mv0 n0 (n0+n1)))++r1.map (mvR (mv1 n0 n1 (n0+n1)))):=fun hm=>by
  rcases I1.named _ hm with hm|⟨i,hi,e⟩
  ·obtain ⟨j,hj,e⟩:=d0 _ hm;have:=m0 j (zdA h0 j hj);omega
  ·have:=E1.fnj _ _ (by omega) (zdA h1 i hi) e;exact u1 (this▸hi)
 have tA:(simS (n0+n1) (r0.map (mvR (mv0 n0 (n0+n1)))++r1.map (mvR (mv1 n0 n1 (n0+n1))))).1.getD (mv0 n0 (n0+n1) (2 * n0 - 2)) []=(simS n0 r0).1.getD (2 * n0 - 2) []:=by
  rw [I1.old _ (by rw [P1l];exact a1.1)];have:=I0.thg (2 * n0 - 2) (by omega);rw [show (fun x:Nat=>x)=id from rfl,List.map_id] at this;exact this
 have tB:=I1.thg (2 * n1 - 2) (by omega);obtain ⟨⟨_,i0,_⟩,_⟩:=zfM h0;obtain ⟨⟨_,i1,_⟩,_⟩:=zfM h1;have fA:∀ x,x<n0->x∈(simS n0 r0).1.getD (2 * n0 - 2) []:=fun x hx=>by have:=ztS h0 l0 hx;rwa [l0,show n0+(n0 - 1) - 1=2 * n0 - 2 from by omega] at this
 have fB:∀ y,y<n1->n0+y∈((simS n1 r1).1.getD (2 * n1 - 2) []).map fun x=>n0+x:=fun y hy=>by
  have:=ztS h1 l1 hy;rw [l1,show n1+(n1 - 1) - 1=2 * n1 - 2 from by omega] at this;exact List.mem_map.mpr ⟨y,this,rfl⟩
 have gA:∀ x,x∈(simS n0 r0).1.getD (2 * n0 - 2) []->x<n0:=i0 _;have gB:∀ x,x∈((simS n1 r1).1.getD (2 * n1 - 2) []).map (fun x=>n0+x)->n0<=x:=fun x hx=>by
  obtain ⟨y,_,rfl⟩:=List.mem_map.mp hx;omega
 have e2:(simS (n0+n1) (zmg n0 n1 r0 r1 v)).2=crossM (simS (n0+n1) (r0.map (mvR (mv0 n0 (n0+n1)))++r1.map (mvR (mv1 n0 n1 (n0+n1))))).2 ((simS n0 r0).1.getD (2 * n0 - 2) []) (((simS n1 r1).1.getD (2 * n1 - 2) []).map fun x=>n0+x) (decide (v=1)):=by
  unfold zmg;rw [za1,<-tA,<-tB];rfl
 rw [e2];refine ⟨?_,fun x y hx hy=>?_,fun x y hx hy=>?_,fun x y hx hy=>⟨zo3 (fA x hx) (fB y hy),zo4 (fB y hy) (fA x hx)⟩⟩
 ·unfold zmg;refine zgi I1.nice ⟨hv,by rw [ql];exact Nat.lt_of_lt_of_le a1.1 (by omega),by rw [ql];exact Nat.lt_of_lt_of_le b1.1 (by omega),?_,na,nb⟩;show mv0 n0 (n0+n1) (2 * n0 - 2)≠mv1 n0 n1 (n0+n1) (2 * n1 - 2)
  omega
 ·rw [zgD (.inr fun z=>by have:=gB y z;omega) (.inl fun z=>by have:=gB x z;omega),I1.out x y (.inl fun z _=>by omega)];exact I0.tie x y hx hy
 ·rw [zgD (.inl fun z=>by have:=gA _ z;omega) (.inr fun z=>by have:=gA _ z;omega)];exact I1.tie x y hx hy
noncomputable def zbG:VF:=fun ds Q=>∃ rs:List zbx,ds=[.lst (rs.map zas)]/\rs.length<=1000/\Q .sh (.bl true)
theorem ziC:∀ ds Q,zbG ds Q->ds.length=1:=by rintro _ Q ⟨rs,rfl,h⟩;rfl
noncomputable def zek:VS:=(zci (zan (zgQ (zaq zcA (zaa (zac 0) zai)) (vCB zrC (zaa (zdT (zb7 (zdk (zac 0)) zb5 (vBin fEq (vCB zbP (zaa (zac 0) zai)) (vC (.int 3))))) zai)))))
noncomputable abbrev zgE:List Str:=["_law_rows"]
theorem ziX:∀ ds Q,zbG ds Q->zek {nx:=fun _=>Q .sh .non,rt:=Q} (zaz zgE ds):=by
 rintro _ Q ⟨rs,rfl,hl,h⟩;simp! [zek];refine ⟨rs.map zdn,by rw [zeS],by rw [List.length_map];exact hl,fun r hr=>by obtain ⟨x,_,rfl⟩:=List.mem_map.mp hr;simp [zdn],ifT rfl ?_⟩;refine ⟨Nat.le_trans (by omega:_<=1000) (by decide),?_⟩;refine za0 zas (fun _=>.bl true) rs _ (fun r hr Q h=>?_) ?_
 ·simp! [];exact h
 refine ⟨rs.map fun _=>true,by rw [List.map_map];rfl,rfl,?_⟩;rw [show (rs.map fun _=>true).all id=true from by rw [List.all_map];exact List.all_eq_true.mpr fun _ _=>rfl];exact h
theorem zr8 {M:Nat->Nat->Bool}(g:Good M){l:List Nat}(h:NoL M l):NoL (oth M) l:=by
 intro a ha b hb c hc d hd h1 h2 h3 h4 h5 h6;have t:∀ x y,oth M x y=true->x≠y/\M x y=false:=fun x y z=>by
  unfold oth at z;rw [Bool.and_eq_true,decide_eq_true_iff] at z;exact ⟨z.1,by simpa using z.2⟩
 have o1:=t _ _ h1;have o2:=t _ _ h2;have o3:=t _ _ h3;have f:∀ x y,x≠y->oth M x y=false->M x y=true:=fun x y hne z=>by
  unfold oth at z;simpa [hne] using z
 have nac:a≠c:=fun e=>by rw [e,h3] at h5;cases h5
 have nbd:b≠d:=fun e=>by rw [<-e,h1] at h5;cases h5
 have nad:a≠d:=fun e=>by rw [<-e] at h3;rw [(zga g).sym,h4] at h3;cases h3
 exact h b hb d hd a ha c hc (f b d nbd h6) (by rw [g.sym];exact f a d nad h5) (f a c nac h4) (by rw [g.sym];exact o1.2) o2.2 (by rw [g.sym];exact o3.2)
structure Ln (n:Nat)(M:Nat->Nat->Bool)(a b c d:Nat):Prop where
 lt:a<n/\b<n/\c<n/\d<n
 ne:a≠b/\a≠c/\a≠d/\b≠c/\b≠d/\c≠d
 t:M a b=true/\M b c=true/\M c d=true
 f:M a c=false/\M a d=false/\M b d=false
theorem zo5 {n:Nat}{M:Nat->Nat->Bool}(g:Good M){a b c d:Nat}:(decide ([(a:Int),(b:Int),(c:Int),(d:Int)].length=4)&&zk7 n M [(a:Int),(b:Int),(c:Int),(d:Int)])=true↔Ln n M a b c d:=by
 rw [zm3 g rfl];have s:=g.sym;constructor
 ·rintro ⟨i1,i2⟩;have q1:=i2 1 0 (by decide) (by decide);have q2:=i2 2 0 (by decide) (by decide);have q3:=i2 2 1 (by decide) (by decide);have q4:=i2 3 0 (by decide) (by decide);have q5:=i2 3 1 (by decide) (by decide);have q6:=i2 3 2 (by decide) (by decide);have l0:=i1 0 (by decide);have l1:=i1 1 (by decide);have l2:=i1 2 (by decide);have l3:=i1 3 (by decide);unfold inB at l0 l1 l2 l3;simp at q1 q2 q3 q4 q5 q6 l0 l1 l2 l3;exact ⟨by omega,by omega,⟨by rw [s];exact q1.2,by rw [s];exact q3.2,by rw [s];exact q6.2⟩,by rw [s];exact q2.2,by rw [s];exact q4.2,by rw [s];exact q5.2⟩
 ·rintro ⟨⟨l0,l1,l2,l3⟩,⟨n1,n2,n3,n4,n5,n6⟩,⟨t1,t2,t3⟩,f1,f2,f3⟩;refine ⟨fun i hi=>?_,fun i j hj hi=>?_⟩
  ·rcases (by omega:i=0\/i=1\/i=2\/i=3) with rfl|rfl|rfl|rfl<;>unfold inB<;>simp<;>omega
  ·rcases (by omega:(j=0/\i=1)\/(j=0/\i=2)\/(j=0/\i=3)\/(j=1/\i=2)\/(j=1/\i=3)\/(j=2/\i=3)) with ⟨rfl,rfl⟩|⟨rfl,rfl⟩|⟨rfl,rfl⟩|⟨rfl,rfl⟩|⟨rfl,rfl⟩|⟨rfl,rfl⟩
   ·exact ⟨by simp;omega,by rw [s];simpa using t1⟩
   ·exact ⟨by simp;omega,by rw [s];simpa using f1⟩
   ·exact ⟨by simp;omega,by rw [s];simpa using f2⟩
   ·exact ⟨by simp;omega,by rw [s];simpa using t2⟩
   ·exact ⟨by simp;omega,by rw [s];simpa using f3⟩
   ·exact ⟨by simp;omega,by rw [s];simpa using t3⟩
theorem Ln.no {n:Nat}{M:Nat->Nat->Bool}{a b c d:Nat}(h:Ln n M a b c d):¬ NoL M (List.range n):=fun z=>
 z a (List.mem_range.mpr h.lt.1) b (List.mem_range.mpr h.lt.2.1) c (List.mem_range.mpr h.lt.2.2.1) d (List.mem_range.mpr h.lt.2.2.2) h.t.1 h.t.2.1 h.t.2.2 h.f.1 h.f.2.1 h.f.2.2
theorem Ln.oth {n:Nat}{M:Nat->Nat->Bool}(g:Good M){a b c d:Nat}(h:Ln n M a b c d):Ln n (oth M) b d a c:=by
 obtain ⟨⟨l0,l1,l2,l3⟩,⟨n1,n2,n3,n4,n5,n6⟩,⟨t1,t2,t3⟩,f1,f2,f3⟩:=h;have s:=g.sym;have t:∀ x y,x≠y->M x y=false->Z.oth M x y=true:=fun x y e z=>by unfold Z.oth;simp [e,z]
 have f:∀ x y,M x y=true->Z.oth M x y=false:=fun x y z=>by unfold Z.oth;simp [z]
 exact ⟨by omega,by omega,⟨t _ _ n5 f3,t _ _ (Ne.symm n3) (by rw [s];exact f2),t _ _ n2 f1⟩,f _ _ (by rw [s];exact t1),f _ _ t2,f _ _ (by rw [s];exact t3)⟩
noncomputable def zr9 (n:Nat)(M:Nat->Nat->Bool)(dr dl:D):Prop:=(∃ rs:List zbx,zbz n rs/\rs.length=n - 1/\NoL M (List.range n)/\(∀ x,x<n->∀ y,y<n->(simS n rs).2 x y=M x y)/\dr= .lst (rs.map zas))\/∃ a b c d:Nat,Ln n M a b c d/\dr= .non/\dl=zaF [a,b,c,d]
noncomputable def zbH:VF:=fun ds Q=>∃ (n:Nat) (M:Nat->Nat->Bool) (dr dl:D),ds=[zaF (webOf n M),dr,dl]/\n<=7/\Good M/\zr9 n M dr dl/\Q .sh (.bl true)
theorem ziD:∀ ds Q,zbH ds Q->ds.length=3:=by rintro _ Q ⟨n,M,dr,dl,rfl,h⟩;rfl
noncomputable def zd3:VS:=(zci (zan (zgQ (zqJ true false (zaq zaP (zaa (zdT (zbQ (zaa (zac 3) zai))) (zaa (zac 4) zai)))) (zmD false (zaq zaE (zaa (zdT (zbQ (zaa (zac 3) zai))) zai))))))
noncomputable def ze0:VS:=(zci (zan (zgQ (zqJ true false (zaq zax (zaa (zdT (zbQ (zaa (zac 3) zai))) (zaa (zac 4) zai)))) (zmD false (zaq zbB (zaa (zdT (zbQ (zaa (zac 3) zai))) zai))))))
noncomputable def ze1:VS:=(zat (zbd 4 (zds (zbi (zaa (vBin fIx (zac 2) (vC (.int 1))) (zaa (vBin fIx (zac 2) (vC (.int 3))) (zaa (vBin fIx (zac 2) (vC (.int 0))) (zaa (vBin fIx (zac 2) (vC (.int 2))) zai))))))) ze0)
noncomputable def zdr:VS:=(zat (ze7 (zb4 (zmD true (zac 1)))
 (zat (zbd 4 (zf8 (zdk (zac 1)) zb5 (zds (zbi (zaa (vBin (vI fun i j=>.int (i - j)) (vC (.int 1)) (vBin fIx (zac 0) (vC (.int 0)))) (zaa (vBin fIx (zac 0) (vC (.int 1))) (zaa (vBin fIx (zac 0) (vC (.int 2))) zai))))))) zd3)
 zbD) ze1)
noncomputable def zel:VS:=(zat (zbd 3 (zaK zbc (zaa (zdT (zbQ (zaa (zac 0) zai))) zai))) zdr)
noncomputable abbrev zgF:List Str:=["_law_web_here","_law_rows","_law_line","_law_turned_here","_law_back"]
theorem ziY:∀ ds Q,zbH ds Q->zel {nx:=fun _=>Q .sh .non,rt:=Q} (zaz zgF ds):=by
 rintro _ Q ⟨n,M,dr,dl,rfl,hn,g,R,h⟩;have go:=zga g;simp! [zel];refine ⟨_,rfl,by rw [zau];omega,.inl rfl,?_⟩;rw [zec];rcases R with ⟨rs,hnice,hlen,hN,hE,rfl⟩|⟨a,b,c,d,L,rfl,rfl⟩
 ·simp! [zdr];refine ifT trivial ?_;refine ⟨Nat.le_trans (by omega:_<=1000) (by decide),?_⟩;refine zeP zas (fun r=>zas (flp r)) rs [] _ (fun r hr Q h=>?_) ?_
  ·obtain ⟨pre,post,e⟩:=List.append_of_mem hr;have hm:=(hnice pre r post e).1;have a0:atI [natD r.1,natD r.2.1,natD r.2.2] 0=some (natD r.1):=rfl;have a1:atI [natD r.1,natD r.2.1,natD r.2.2] 1=some (natD r.2.1):=rfl;have a2:atI [natD r.1,natD r.2.1,natD r.2.2] 2=some (natD r.2.2):=rfl;simp! [];rw [a0,a1,a2];refine ⟨rfl,?_⟩;rw [show (1:Int) - (r.1:Int)=((1 - r.1:Nat):Int) from by omega];exact h
  ·rw [List.nil_append];have hrl:((rs.map flp).map zdn).length<=100:=by rw [List.length_map,List.length_map];omega
   simp! [zd3];refine ⟨n,oth M,(rs.map flp).map zdn,by rw [<-zeS,List.map_map];rfl,by omega,hrl,fun r hr=>by obtain ⟨x,_,rfl⟩:=List.mem_map.mp hr;simp [zdn],?_⟩;rw [ztD g hnice hlen hE];refine ifT rfl ?_;refine ⟨n,oth M,rfl,by omega,go,fun z=>absurd (zr8 g hN) z,fun _=>?_⟩;exact h
 ·simp! [zdr];refine ifF Bool.false_ne_true ?_;simp! [ze1];have h4:=at4 (natD a) (natD b) (natD c) (natD d);rw [h4.1,h4.2.1,h4.2.2.1,h4.2.2.2];refine ⟨rfl,?_⟩;simp! [ze0];refine ⟨n,oth M,[(b:Int),(d:Int),(a:Int),(c:Int)],rfl,by omega,by simp,?_⟩;rw [(zo5 go).mpr (L.oth g)];refine ifT rfl ?_;refine ⟨n,oth M,rfl,by omega,go,fun rs _ _ _ hN _=>absurd hN (L.oth g).no,fun _=>?_⟩;exact h
noncomputable def zbC:VF:=fun ds Q=>∃ x m s k:Nat,ds=[natD x,natD m,natD s,natD k]/\Q .sh (natD (if x<m then x+s else x - m+k))
theorem ziZ:∀ ds Q,zbC ds Q->ds.length=4:=by rintro _ Q ⟨x,m,s,k,rfl,h⟩;rfl
noncomputable def zfx:VS:=(zci (zan (vBin (vI fun i j=>.int (i+j)) (vBin (vI fun i j=>.int (i - j)) (zac 0) (zac 1)) (zac 3))))
noncomputable def ze2:VS:=(zat (ze7 (zb4 (vBin fLt (zac 0) (zac 1)))
 (zci (zan (vBin (vI fun i j=>.int (i+j)) (zac 0) (zac 2))))
 zbD) zfx)
noncomputable abbrev zhr:List Str:=["_law_x","_law_many_here","_law_start","_law_more"]
theorem zj3:∀ ds Q,zbC ds Q->ze2 {nx:=fun _=>Q .sh .non,rt:=Q} (zaz zhr ds):=by
 rintro _ Q ⟨x,m,s,k,rfl,h⟩;simp! [ze2];refine if2 (fun z=>?_) (fun z=>?_)
 ·have z:x<m:=by have:=of_decide_eq_true z;omega
  rw [if_pos z] at h;rw [show (x:Int)+(s:Int)=((x+s:Nat):Int) from by omega];exact h
 ·have z:¬ x<m:=fun w=>z (decide_eq_true (by omega));rw [if_neg z] at h;simp! [zfx];rw [show (x:Int) - (m:Int)+(k:Int)=((x - m+k:Nat):Int) from by omega];exact h
noncomputable def zdb:VF:=fun ds Q=>∃ (n0 n1 v:Nat) (w0 w1:List D) (r0 r1:List zbx),ds=[.lst w0,.lst w1,.lst [.lst (r0.map zas),.lst (r1.map zas)],natD v]/\w0.length=n0/\w1.length=n1/\n0<=7/\n1<=7/\0<n0/\0<n1/\r0.length=n0 - 1/\r1.length=n1 - 1/\Q .sh (.lst ((zmg n0 n1 r0 r1 v).map zas))
theorem zlt:∀ ds Q,zdb ds Q->ds.length=4:=by rintro _ Q ⟨n0,n1,v,w0,w1,r0,r1,rfl,h⟩;rfl
noncomputable def zeG:VS:=(zn7 5 (zds (zbi (zaa (vBin fIx (zac 9) (vC (.int 0))) (zaa (zac 10) (zaa (zaq zbC (zaa (vBin fIx (zac 9) (vC (.int 2))) (zaa (zac 7) (zaa (vBin (vI2 IntMulOk fun i j=>.int (i * j)) (zac 6) (vCB zbP (zaa (zac 0) zai))) (zaa (zac 8) zai))))) zai))))))
noncomputable def zfy:VS:=(zlF (gV 9) (zsl 2 (zac 6))
 (zat (zbd 10 (zaK zbC (zaa (vBin fIx (zac 9) (vC (.int 1))) (zaa (zac 7) (zaa (vBin (vI2 IntMulOk fun i j=>.int (i * j)) (zac 6) (vCB zbP (zaa (zac 0) zai))) (zaa (zac 8) zai)))))) zeG))
noncomputable def r__law_put_2b1:VS:=(zat (zbd 8 (zan (vBin (vI fun i j=>.int (i+j)) (zac 4) (vCB zbP (zaa (zac 5) zai))))) zfy)
noncomputable def ze3:VS:=(zrF (zdT (zqB (zac 5) (zdT (zbi (zaa (zdT (zqB (zdT (zbi (zaa (zac 3) zai))) (zac 11))) zai))))))
noncomputable def ze4:VS:=(zat (ze7 (zb4 (vBin fEq (vCB zbP (zaa (zac 1) zai)) (vC (.int 1))))
 (zqD 11 (zan (vCB zbP (zaa (zac 0) zai))) (vC (.int 1)))
 zbD) ze3)
noncomputable def ze5:VS:=(zat (ze7 (zb4 (vBin fEq (vCB zbP (zaa (zac 0) zai)) (vC (.int 1))))
 (zqD 11 (zan (vC (.int 0))) (vC (.int 0)))
 zbD) ze4)
noncomputable def zhs:VS:=(zat (zbd 11 (zds (zbi (zaa (vBin (vI fun i j=>.int (i - j)) (vBin (vI fun i j=>.int (i+j)) (zac 4) (vCB zbP (zaa (zac 0) zai))) (vC (.int 2))) (zaa (vBin (vI fun i j=>.int (i - j)) (vBin (vI fun i j=>.int (i+j)) (zac 4) (vCB zbP (zaa (zac 5) zai))) (vC (.int 1))) zai))))) ze5)
noncomputable def zht:VS:=(zat (zfz (gV 6) (zaa (vC (.int 2)) zai)
 (zat (zbd 7 (zan (vBin fIx (zdT (zbi (zaa (vCB zbP (zaa (zac 0) zai)) (zaa (vCB zbP (zaa (zac 1) zai)) zai)))) (zac 6)))) r__law_put_2b1)) zhs)
noncomputable def zhu:VS:=(zat (zbd 5 (zds (zbi zai))) zht)
noncomputable def zha:VS:=(zat (zbd 4 (zan (vBin (vI fun i j=>.int (i+j)) (vCB zbP (zaa (zac 0) zai)) (vCB zbP (zaa (zac 1) zai))))) zhu)
noncomputable abbrev zjq:List Str:=["_law_one","_law_other","_law_rows","_law_mark","_law_many_here","_law_found","_law_k","_law_size","_law_more","_law_row","_law_x","_law_ends"]
theorem zqk {E:VEnds}{st:LSt}{i a b:Nat}{ma mb:Md}{x y:List D}{r:VS}{N:Nat}(ha:st[a]? =some (some (ma,.lst x)))(hb:st[b]? =some (some (mb,.lst y)))(hda:zkD ma=false)(hdb:zkD mb=false)(hN:x.length+y.length=N)(h:r E (st.set i (some (.sh,natD N)))):
  zat (zbd i (zan (vBin (vI fun i j=>.int (i+j)) (vCB zbP (zaa (zac a) zai)) (vCB zbP (zaa (zac b) zai))))) r E st:=by
 have e:(x.length:Int)+(y.length:Int)=(N:Int):=by omega
 have k1:∀ Q:D->Prop,Q (.lst x)->zac a st Q:=fun Q q=>by unfold zac;rw [ha];cases ma<;>first|exact q|cases hda
 have k2:∀ Q:D->Prop,Q (.lst y)->zac b st Q:=fun Q q=>by unfold zac;rw [hb];cases mb<;>first|exact q|cases hdb
 unfold zat zbd zan vBin vCB zaa zai;refine k1 _ (k2 _ ?_);show (D.int ((x.length:Int)+(y.length:Int))).flat=true/\r E (st.set i (some (.sh,.int ((x.length:Int)+(y.length:Int)))));rw [e];exact ⟨rfl,h⟩
theorem set_addlen {E:VEnds}{st:LSt}{i a b A:Nat}{mb:Md}{y:List D}{r:VS}{N:Nat}(ha:st[a]? =some (some (.sh,natD A)))(hb:st[b]? =some (some (mb,.lst y)))(hdb:zkD mb=false)(hN:A+y.length=N)(h:r E (st.set i (some (.sh,natD N)))):
  zat (zbd i (zan (vBin (vI fun i j=>.int (i+j)) (zac a) (vCB zbP (zaa (zac b) zai))))) r E st:=by
 have e:(A:Int)+(y.length:Int)=(N:Int):=by omega
 have k1:∀ Q:D->Prop,Q (natD A)->zac a st Q:=fun Q q=>by unfold zac;rw [ha];exact q
 have k2:∀ Q:D->Prop,Q (.lst y)->zac b st Q:=fun Q q=>by unfold zac;rw [hb];cases mb<;>first|exact q|cases hdb
 unfold zat zbd zan vBin vCB zaa zai;refine k1 _ (k2 _ ?_);show (D.int ((A:Int)+(y.length:Int))).flat=true/\r E (st.set i (some (.sh,.int ((A:Int)+(y.length:Int)))));rw [e];exact ⟨rfl,h⟩
theorem zql {E:VEnds}{st:LSt}{i a b c k:Nat}{ma mb:Md}{x y:List D}{r:VS}{N:Nat}(ha:st[a]? =some (some (ma,.lst x)))(hb:st[b]? =some (some (mb,.lst y)))(hc:st[c]? =some (some (.sh,natD k)))(hda:zkD ma=false)(hdb:zkD mb=false)(hN:(k=0/\x.length=N)\/(k=1/\y.length=N))(h:r E (st.set i (some (.sh,natD N)))):
  zat (zbd i (zan (vBin fIx (zdT (zbi (zaa (vCB zbP (zaa (zac a) zai)) (zaa (vCB zbP (zaa (zac b) zai)) zai)))) (zac c)))) r E st:=by
 have k1:∀ Q:D->Prop,Q (.lst x)->zac a st Q:=fun Q q=>by unfold zac;rw [ha];cases ma<;>first|exact q|cases hda
 have k2:∀ Q:D->Prop,Q (.lst y)->zac b st Q:=fun Q q=>by unfold zac;rw [hb];cases mb<;>first|exact q|cases hdb
 have k3:∀ Q:D->Prop,Q (natD k)->zac c st Q:=fun Q q=>by unfold zac;rw [hc];exact q
 unfold zat zbd zan vBin zdT zbi vCB zaa zai;refine k1 _ (k2 _ ⟨(show 2<=1000 by decide),k3 _ ?_⟩);rcases hN with ⟨rfl,e⟩|⟨rfl,e⟩
 ·have e:(x.length:Int)=(N:Int):=by omega
  show (D.int (x.length:Int)).flat=true/\r E (st.set i (some (.sh,.int (x.length:Int))));rw [e];exact ⟨rfl,h⟩
 ·have e:(y.length:Int)=(N:Int):=by omega
  show (D.int (y.length:Int)).flat=true/\r E (st.set i (some (.sh,.int (y.length:Int))));rw [e];exact ⟨rfl,h⟩
theorem zqm {E:VEnds}{st:LSt}{i a b c A:Nat}{ma mb:Md}{x y:List D}{r:VS}{X Y:Nat}(hc:st[c]? =some (some (.sh,natD A)))(ha:st[a]? =some (some (ma,.lst x)))(hb:st[b]? =some (some (mb,.lst y)))(hda:zkD ma=false)(hdb:zkD mb=false)(hX:A+x.length=X+2)(hY:A+y.length=Y+1)(h:r E (st.set i (some (.ow,.lst [natD X,natD Y])))):
  zat (zbd i (zds (zbi (zaa (vBin (vI fun i j=>.int (i - j)) (vBin (vI fun i j=>.int (i+j)) (zac c) (vCB zbP (zaa (zac a) zai))) (vC (.int 2))) (zaa (vBin (vI fun i j=>.int (i - j)) (vBin (vI fun i j=>.int (i+j)) (zac c) (vCB zbP (zaa (zac b) zai))) (vC (.int 1))) zai))))) r E st:=by
 have k0:∀ Q:D->Prop,Q (natD A)->zac c st Q:=fun Q q=>by unfold zac;rw [hc];exact q
 have k1:∀ Q:D->Prop,Q (.lst x)->zac a st Q:=fun Q q=>by unfold zac;rw [ha];cases ma<;>first|exact q|cases hda
 have k2:∀ Q:D->Prop,Q (.lst y)->zac b st Q:=fun Q q=>by unfold zac;rw [hb];cases mb<;>first|exact q|cases hdb
 have e1:(A:Int)+(x.length:Int) - 2=(X:Int):=by omega
 have e2:(A:Int)+(y.length:Int) - 1=(Y:Int):=by omega
 unfold zat zbd zds zbi vBin vCB zaa zai vC;refine k0 _ (k1 _ (k0 _ (k2 _ ⟨(show 2<=1000 by decide),?_⟩)));show flats [D.int ((A:Int)+(x.length:Int) - 2),D.int ((A:Int)+(y.length:Int) - 1)]=true/\r E (st.set i (some (.ow,.lst [.int ((A:Int)+(x.length:Int) - 2),.int ((A:Int)+(y.length:Int) - 1)])));rw [e1,e2];exact ⟨rfl,h⟩
theorem zmh:∀ ds Q,zdb ds Q->zha {nx:=fun _=>Q .sh .non,rt:=Q} (zaz zjq ds):=by
 rintro _ Q ⟨n0,n1,v,w0,w1,r0,r1,rfl,e0,e1,h0,h1,p0,p1,l0,l1,h⟩;have at2:∀ x y:D,atI [x,y] 0=some x/\atI [x,y] 1=some y:=fun x y=>⟨rfl,rfl⟩;unfold zha;refine zqk (N:=n0+n1) rfl rfl rfl rfl (by rw [e0,e1]) ?_;simp! [zhu,zaz];simp! [zht];refine ⟨by decide,?_⟩;rw [show List.range (Int.toNat 2)=List.range 2 from rfl];refine zb8 2 (fun k st=>∃ (o6 o7 o8 o9 o10:Option (Md×D)),st=[some (.sh,.lst w0),some (.sh,.lst w1),some (.sh,.lst [.lst (r0.map zas),.lst (r1.map zas)]),some (.sh,natD v),some (.sh,natD (n0+n1)),some (.ow,.lst ((if k=0 then [] else if k=1 then r0.map (mvR (mv0 n0 (n0+n1))) else r0.map (mvR (mv0 n0 (n0+n1)))++r1.map (mvR (mv1 n0 n1 (n0+n1)))).map zas)),o6,o7,o8,o9,o10,none]) ?_ ?_ ⟨_,_,_,_,_,rfl⟩
 ·rintro k st kk hk ⟨o6,o7,o8,o9,o10,rfl⟩ hkk
  have run:∀ (E:VEnds) (_:E.nx=kk) (sz:Nat) (acc rs:List zbx) (f:Nat->Nat) (o8 o9 o10:Option (Md×D)),acc.length<=7->rs.length<=7->(∀ i,f i=if i<sz then i+k * n0 else i - sz+(n0+n1+acc.length))->atI [D.lst (r0.map zas),D.lst (r1.map zas)] (k:Int)=some (.lst (rs.map zas))->(∀ st,(∃ (o6 o7 o8 o9 o10:Option (Md×D)),st=[some (.sh,.lst w0),some (.sh,.lst w1),some (.sh,.lst [.lst (r0.map zas),.lst (r1.map zas)]),some (.sh,natD v),some (.sh,natD (n0+n1)),some (.ow,.lst ((acc++rs.map (mvR f)).map zas)),o6,o7,o8,o9,o10,none])->kk st)->
    r__law_put_2b1 E [some (.sh,.lst w0),some (.sh,.lst w1),some (.sh,.lst [.lst (r0.map zas),.lst (r1.map zas)]),some (.sh,natD v),some (.sh,natD (n0+n1)),some (.ow,.lst (acc.map zas)),some (.sh,natD k),some (.sh,natD sz),o8,o9,o10,none]:=by
   intro E hE sz acc rs f o8 o9 o10 ha hr hf hat hk2;unfold r__law_put_2b1;refine set_addlen (A:=n0+n1) (N:=n0+n1+acc.length) rfl rfl rfl (by rw [List.length_map]) ?_;simp! [zfy];refine ⟨.inl trivial,?_⟩;rw [hat];have hm:IntMulOk (k:Int) (w0.length:Int):=zcp (zb9 (by omega) (by omega));have em:(k:Int) * (w0.length:Int)=((k * n0:Nat):Int):=by rw [e0];simp
   refine zbw zas rs (fun pre st=>∃ (o9 o10:Option (Md×D)),st=[some (.sh,.lst w0),some (.sh,.lst w1),some (.sh,.lst [.lst (r0.map zas),.lst (r1.map zas)]),some (.sh,natD v),some (.sh,natD (n0+n1)),some (.ow,.lst ((acc++pre.map (mvR f)).map zas)),some (.sh,natD k),some (.sh,natD sz),some (.sh,natD (n0+n1+acc.length)),o9,o10,none]) ?_ ?_ ⟨_,_,by rw [List.map_nil,List.append_nil]⟩
   ·rintro pre r post st k3 e ⟨o9,o10,rfl⟩ hk3;have hpl:pre.length<=7:=by have:=congrArg List.length e;simp at this;omega
    have a0:atI [natD r.1,natD r.2.1,natD r.2.2] 0=some (natD r.1):=rfl;have a1:atI [natD r.1,natD r.2.1,natD r.2.2] 1=some (natD r.2.1):=rfl;have a2:atI [natD r.1,natD r.2.1,natD r.2.2] 2=some (natD r.2.2):=rfl;simp! [];rw [a1,em];refine ⟨hm,r.2.1,sz,k * n0,n0+n1+acc.length,rfl,.inr ⟨rfl,by simp [D.flat]⟩,?_⟩;simp! [zeG];rw [a0,a2,em];refine ⟨hm,r.2.2,sz,k * n0,n0+n1+acc.length,rfl,rfl,?_⟩;simp! [appM];rw [<-hf,<-hf];refine ⟨zby (by rw [List.length_append,List.length_map];omega),?_⟩;rw [show (acc++pre.map (mvR f)).map zas++[D.lst [natD r.1,natD (f r.2.1),natD (f r.2.2)]]=(acc++(pre++[r]).map (mvR f)).map zas from by rw [List.map_append (l₁:=pre),<-List.append_assoc,List.map_append (l₂:=List.map (mvR f) [r])];rfl];exact hk3 _ ⟨_,_,rfl⟩
   ·rintro st ⟨o9,o10,rfl⟩;rw [hE];exact hk2 _ ⟨_,_,_,_,_,rfl⟩
  show zat (zbd 7 (zan (vBin fIx (zdT (zbi (zaa (vCB zbP (zaa (zac 0) zai)) (zaa (vCB zbP (zaa (zac 1) zai)) zai)))) (zac 6)))) r__law_put_2b1 _ [some (.sh,.lst w0),some (.sh,.lst w1),some (.sh,.lst [.lst (r0.map zas),.lst (r1.map zas)]),some (.sh,natD v),some (.sh,natD (n0+n1)),some (.ow,.lst ((if k=0 then [] else if k=1 then r0.map (mvR (mv0 n0 (n0+n1))) else r0.map (mvR (mv0 n0 (n0+n1)))++r1.map (mvR (mv1 n0 n1 (n0+n1)))).map zas)),some (.sh,natD k),o7,o8,o9,o10,none]
  refine zql (N:=if k=0 then n0 else n1) rfl rfl rfl rfl rfl (by rcases (by omega:k=0\/k=1) with z|z<;>simp [z,e0,e1]) ?_;rcases (by omega:k=0\/k=1) with rfl|rfl
  ·refine run _ rfl n0 [] r0 (mv0 n0 (n0+n1)) _ _ _ (by simp) (by omega) (fun i=>by unfold mv0;simp) rfl fun st z=>?_;obtain ⟨o6,o7,o8,o9,o10,rfl⟩:=z;exact hkk _ ⟨_,_,_,_,_,rfl⟩
  ·refine run _ rfl n1 (r0.map (mvR (mv0 n0 (n0+n1)))) r1 (mv1 n0 n1 (n0+n1)) _ _ _ (by rw [List.length_map];omega) (by omega) (fun i=>by unfold mv1;rw [List.length_map,l0,Nat.one_mul]) rfl fun st z=>?_;obtain ⟨o6,o7,o8,o9,o10,rfl⟩:=z;exact hkk _ ⟨_,_,_,_,_,rfl⟩
 ·rintro st ⟨o6,o7,o8,o9,o10,rfl⟩;have el:((if 2=0 then [] else if 2=1 then r0.map (mvR (mv0 n0 (n0+n1))) else r0.map (mvR (mv0 n0 (n0+n1)))++r1.map (mvR (mv1 n0 n1 (n0+n1)))).map zas).length=(n0 - 1)+(n1 - 1):=by
   rw [if_neg (by omega),if_neg (by omega),List.length_map,List.length_append,List.length_map,List.length_map,l0,l1]
  rw [if_neg (by omega),if_neg (by omega)] at el;rw [if_neg (by omega:¬ 2=0),if_neg (by omega:¬ 2=1)];unfold zmg at h;generalize r0.map (mvR (mv0 n0 (n0+n1)))++r1.map (mvR (mv1 n0 n1 (n0+n1)))=G at el h ⊢;rw [List.map_append] at h;dsimp only [zhs];refine zqm (X:=n0+n1+n0 - 2) (Y:=n0+n1+((n0 - 1)+(n1 - 1)) - 1) rfl rfl rfl rfl rfl (by rw [e0];omega) (by rw [el];omega) ?_;have six:∀ a b:Nat,a=mv0 n0 (n0+n1) (2 * n0 - 2)->b=mv1 n0 n1 (n0+n1) (2 * n1 - 2)->ze3 {nx:=fun _=>Q .sh .non,rt:=Q} [some (.sh,.lst w0),some (.sh,.lst w1),some (.sh,.lst [.lst (r0.map zas),.lst (r1.map zas)]),some (.sh,natD v),some (.sh,natD (n0+n1)),some (.ow,.lst (G.map zas)),o6,o7,o8,o9,o10,some (.ow,.lst [natD a,natD b])]:=fun a b ea eb=>by
   simp! [ze3];rw [ea,eb];exact ⟨Nat.le_trans (by decide:3<=1000) (by decide),Nat.le_trans (by rw [List.length_map] at el;omega:_<=1000) (by decide),h⟩
  have fiv:∀ a:Nat,a=mv0 n0 (n0+n1) (2 * n0 - 2)->ze4 {nx:=fun _=>Q .sh .non,rt:=Q} [some (.sh,.lst w0),some (.sh,.lst w1),some (.sh,.lst [.lst (r0.map zas),.lst (r1.map zas)]),some (.sh,natD v),some (.sh,natD (n0+n1)),some (.ow,.lst (G.map zas)),o6,o7,o8,o9,o10,some (.ow,.lst [natD a,natD (n0+n1+((n0 - 1)+(n1 - 1)) - 1)])]:=fun a ea=>by
   simp! [ze4];rw [e0,e1];by_cases z:n1=1
   ·refine ifT (by simp [z]) ?_;exact six a n0 ea (by unfold mv1;rw [if_pos (by omega)];omega)
   ·refine ifF (by simp;omega) ?_;exact six a _ ea (by unfold mv1;rw [if_neg (by omega)];omega)
  show ze5 _ [some (.sh,.lst w0),some (.sh,.lst w1),some (.sh,.lst [.lst (r0.map zas),.lst (r1.map zas)]),some (.sh,natD v),some (.sh,natD (n0+n1)),some (.ow,.lst (G.map zas)),o6,o7,o8,o9,o10,some (.ow,.lst [natD (n0+n1+n0 - 2),natD (n0+n1+((n0 - 1)+(n1 - 1)) - 1)])]
  simp! [ze5];rw [e0];by_cases z:n0=1
  ·refine ifT (by simp [z]) ?_;exact fiv 0 (by unfold mv0;rw [if_pos (by omega)];omega)
  ·refine ifF (by simp;omega) ?_;exact fiv _ (by unfold mv0;rw [if_neg (by omega)];omega)
noncomputable def bth (n:Nat)(M0 M1:Nat->Nat->Bool)(v:Nat):Nat->Nat->Bool:=if v=0 then bes n M0 M1 else oth (bes n (oth M0) (oth M1))
structure Bth (n0 n1 v:Nat)(M0 M1 C:Nat->Nat->Bool):Prop where
 g:Good C
 lo:∀ x y,x<n0->y<n0->C x y=M0 x y
 hi:∀ x y,x<n1->y<n1->C (n0+x) (n0+y)=M1 x y
 cr:∀ x y,x<n0->y<n1->C x (n0+y)=decide (v=1)/\C (n0+y) x=decide (v=1)
theorem zqR {n0 n1 v:Nat}{M0 M1:Nat->Nat->Bool}(g0:Good M0)(g1:Good M1)(hv:v<=1):Bth n0 n1 v M0 M1 (bth n0 M0 M1 v):=by
 have b1:∀ (A B:Nat->Nat->Bool) x y,x<n0->y<n0->bes n0 A B x y=A x y:=fun A B x y hx hy=>by unfold bes;simp [hx,hy]
 have b3:∀ (A B:Nat->Nat->Bool) x y,x<n0->bes n0 A B x (n0+y)=false/\bes n0 A B (n0+y) x=false:=fun A B x y hx=>by
  unfold bes;constructor
  ·rw [if_pos hx,decide_eq_false (by omega),Bool.false_and]
  ·rw [if_neg (by omega),decide_eq_false (by omega),Bool.false_and]
 have oo:∀ (A:Nat->Nat->Bool),Good A->∀ x y,oth (oth A) x y=A x y:=fun A g x y=>by rw [zrT g]
 rcases (by omega:v=0\/v=1) with rfl|rfl
 ·unfold bth;rw [if_pos rfl];exact ⟨zm1 g0 g1,b1 _ _,fun x y _ _=>zqL _ _ _ _ _,fun x y hx _=>b3 _ _ x y hx⟩
 ·unfold bth;rw [if_neg (by omega)];refine ⟨zga (zm1 (zga g0) (zga g1)),fun x y hx hy=>?_,fun x y hx hy=>?_,fun x y hx hy=>?_⟩
  ·have:=oo M0 g0 x y;unfold oth at this ⊢;rw [b1 _ _ x y hx hy];exact this
  ·have:=oo M1 g1 x y;unfold oth at this ⊢;rw [zqL,decide_eq_decide.mpr (by omega:n0+x≠n0+y↔x≠y)];exact this
  ·obtain ⟨h1,h2⟩:=b3 (oth M0) (oth M1) x y hx;unfold oth at h1 h2 ⊢;rw [h1,h2];constructor<;>simp<;>omega
noncomputable def zcC:VF:=fun ds Q=>∃ (n0 n1 v:Nat) (M0 M1:Nat->Nat->Bool) (d0 d1 f0 f1:D),ds=[zaF (webOf n0 M0),zaF (webOf n1 M1),.lst [d0,d1],.lst [f0,f1],natD v]/\n0<=7/\n1<=7/\v<=1/\Good M0/\Good M1/\zr9 n0 M0 d0 f0/\zr9 n1 M1 d1 f1/\Q .sh (.bl true)
theorem zj4:∀ ds Q,zcC ds Q->ds.length=5:=by rintro _ Q ⟨n0,n1,v,M0,M1,d0,d1,f0,f1,rfl,h⟩;rfl
noncomputable def r__law_both_1b0b1:VS:=(zci (zan (zgQ (zmD false (zaq zbB (zaa (zdT (zbQ (zaa (zac 5) zai))) zai))) (zqJ true false (zaq zax (zaa (zdT (zbQ (zaa (zac 5) zai))) (zaa (zac 7) zai)))))))
noncomputable def zgG:VS:=(zci (zan (zqJ true false (zaq zaP (zaa (zdT (zbQ (zaa (zac 5) zai))) (zaa (zaq zdb (zaa (zac 0) (zaa (zac 1) (zaa (zac 2) (zaa (zac 4) zai))))) zai))))))
noncomputable def zgH:VS:=(zat (ze7 (vOr (zb4 (vBin fEq (zac 0) (zdT (zbi zai)))) (zb4 (vBin fEq (zac 1) (zdT (zbi zai)))))
 (zci (zan (zqJ true false (zaq zaP (zaa (zdT (zbQ (zaa (zac 5) zai))) (zaa (zdT (zqB (vBin fIx (zac 2) (vC (.int 0))) (vBin fIx (zac 2) (vC (.int 1))))) zai))))))
 zbD) zgG)
noncomputable def zem:VS:=(zat (zfz (gV 6) (zaa (vC (.int 2)) zai)
 (ze7 (zb4 (zmD false (vBin fIx (zac 2) (zac 6))))
 (zat (zbd 7 (zds (zb7 (zdk (vBin fIx (zac 3) (zac 6))) zb5 (vBin (vI fun i j=>.int (i+j)) (zac 0) (vBin (vI2 IntMulOk fun i j=>.int (i * j)) (zac 7) (vCB zbP (zaa (zac 1) zai))))))) r__law_both_1b0b1)
 zbD)) zgH)
noncomputable def zfN:VS:=(zat (zbd 5 (zoI zdw zfc (zac 4) (zaa (zdT (zbQ (zaa (zac 0) zai))) (zaa (zdT (zbQ (zaa (zac 1) zai))) zai)))) zem)
noncomputable abbrev ziE:List Str:=["_law_one","_law_other","_law_rows","_law_lines","_law_mark","_law_web_here","_law_k","_law_line"]
noncomputable abbrev RwJ (n:Nat)(M:Nat->Nat->Bool)(d:D):Prop:=∃ rs:List zbx,zbz n rs/\rs.length=n - 1/\NoL M (List.range n)/\(∀ x,x<n->∀ y,y<n->(simS n rs).2 x y=M x y)/\d= .lst (rs.map zas)
theorem Bth.lnLo {n0 n1 v:Nat}{M0 M1 C:Nat->Nat->Bool}(B:Bth n0 n1 v M0 M1 C){a b c d:Nat}(h:Ln n0 M0 a b c d):Ln (n0+n1) C a b c d:=by
 obtain ⟨⟨l0,l1,l2,l3⟩,ne,⟨t1,t2,t3⟩,f1,f2,f3⟩:=h;exact ⟨by omega,ne,⟨by rw [B.lo _ _ l0 l1];exact t1,by rw [B.lo _ _ l1 l2];exact t2,by rw [B.lo _ _ l2 l3];exact t3⟩,by rw [B.lo _ _ l0 l2];exact f1,by rw [B.lo _ _ l0 l3];exact f2,by rw [B.lo _ _ l1 l3];exact f3⟩
theorem Bth.lnHi {n0 n1 v:Nat}{M0 M1 C:Nat->Nat->Bool}(B:Bth n0 n1 v M0 M1 C){a b c d:Nat}(h:Ln n1 M1 a b c d):Ln (n0+n1) C (n0+a) (n0+b) (n0+c) (n0+d):=by
 obtain ⟨⟨l0,l1,l2,l3⟩,ne,⟨t1,t2,t3⟩,f1,f2,f3⟩:=h;exact ⟨by omega,by omega,⟨by rw [B.hi _ _ l0 l1];exact t1,by rw [B.hi _ _ l1 l2];exact t2,by rw [B.hi _ _ l2 l3];exact t3⟩,by rw [B.hi _ _ l0 l2];exact f1,by rw [B.hi _ _ l0 l3];exact f2,by rw [B.hi _ _ l1 l3];exact f3⟩
theorem zsa {n0 n1 v:Nat}{M0 M1 C:Nat->Nat->Bool}(B:Bth n0 n1 v M0 M1 C){r0 r1:List zbx}(h0:zbz n0 r0)(h1:zbz n1 r1)(l0:r0.length=n0 - 1)(l1:r1.length=n1 - 1)(p0:0<n0)(p1:0<n1)(hv:v<=1)
  (e0:∀ x,x<n0->∀ y,y<n0->(simS n0 r0).2 x y=M0 x y)(e1:∀ x,x<n1->∀ y,y<n1->(simS n1 r1).2 x y=M1 x y):isJ (n0+n1) C ((zmg n0 n1 r0 r1 v).map zdn)=true:=by
 obtain ⟨k1,k2,k3,k4⟩:=ztE (v:=v) h0 h1 l0 l1 p0 p1 hv;unfold isJ;rw [zmb k1 (by unfold zmg;simp only [List.length_append,List.length_map,List.length_singleton];omega),Bool.true_and,ziB];refine decide_eq_true (zl0 fun x y hx hy=>?_);by_cases zx:x<n0<;>by_cases zy:y<n0
 ·rw [k2 x y zx zy,e0 x zx y zy,B.lo x y zx zy]
 ·obtain ⟨y,rfl⟩:∃ z,y=n0+z:=⟨y - n0,by omega⟩;rw [(k4 x y zx (by omega)).1,(B.cr x y zx (by omega)).1]
 ·obtain ⟨x,rfl⟩:∃ z,x=n0+z:=⟨x - n0,by omega⟩;rw [(k4 y x zy (by omega)).2,(B.cr y x zy (by omega)).2]
 ·obtain ⟨x,rfl⟩:∃ z,x=n0+z:=⟨x - n0,by omega⟩;obtain ⟨y,rfl⟩:∃ z,y=n0+z:=⟨y - n0,by omega⟩;rw [k3 x y (by omega) (by omega),e1 x (by omega) y (by omega),B.hi x y (by omega) (by omega)]
theorem zo6 {n:Nat}{C:Nat->Nat->Bool}{rs:List zbx}(h:zbz n rs)(l:rs.length=n - 1)(e:∀ x,x<n->∀ y,y<n->(simS n rs).2 x y=C x y):isJ n C (rs.map zdn)=true:=by
 unfold isJ;rw [zmb h l,Bool.true_and,ziB];exact decide_eq_true (zl0 fun x y hx hy=>e x hx y hy)
theorem zlu:∀ ds Q,zcC ds Q->zfN {nx:=fun _=>Q .sh .non,rt:=Q} (zaz ziE ds):=by
 rintro _ Q ⟨n0,n1,v,M0,M1,d0,d1,f0,f1,rfl,h0,h1,hv,g0,g1,R0,R1,h⟩;have main:∀ C,Bth n0 n1 v M0 M1 C->zem {nx:=fun _=>Q .sh .non,rt:=Q} [some (.sh,zaF (webOf n0 M0)),some (.sh,zaF (webOf n1 M1)),some (.sh,.lst [d0,d1]),some (.sh,.lst [f0,f1]),some (.sh,natD v),some (.ow,zaF (webOf (n0+n1) C)),none,none]:=by
  intro C B;have ln:∀ (E:VEnds) (_:E.rt=Q) (a b c d k:Nat),Ln (n0+n1) C a b c d->r__law_both_1b0b1 E [some (.sh,zaF (webOf n0 M0)),some (.sh,zaF (webOf n1 M1)),some (.sh,.lst [d0,d1]),some (.sh,.lst [f0,f1]),some (.sh,natD v),some (.ow,zaF (webOf (n0+n1) C)),some (.sh,natD k),some (.ow,zaF [a,b,c,d])]:=by
   intro E hE a b c d k L;simp! [r__law_both_1b0b1];rw [hE];refine ⟨n0+n1,C,rfl,by omega,B.g,fun rs _ _ _ hN _=>absurd hN L.no,fun _=>?_⟩;refine ifT rfl ?_;refine ⟨n0+n1,C,[(a:Int),(b:Int),(c:Int),(d:Int)],rfl,by omega,by simp,?_⟩;rw [(zo5 B.g).mpr L];exact h
  have a2:∀ x y:D,atI [x,y] 0=some x/\atI [x,y] 1=some y:=fun x y=>⟨rfl,rfl⟩;simp! [zem];refine ⟨by decide,?_⟩;rw [show List.range (Int.toNat 2)=List.range 2 from rfl];refine zb8 2 (fun k st=>∃ (o6 o7:Option (Md×D)),(0<k->RwJ n0 M0 d0)/\(1<k->RwJ n1 M1 d1)/\st=[some (.sh,zaF (webOf n0 M0)),some (.sh,zaF (webOf n1 M1)),some (.sh,.lst [d0,d1]),some (.sh,.lst [f0,f1]),some (.sh,natD v),some (.ow,zaF (webOf (n0+n1) C)),o6,o7]) ?_ ?_ ⟨_,_,fun z=>by omega,fun z=>by omega,rfl⟩
  ·rintro k st kk hk ⟨o6,o7,k0,k1,rfl⟩ hkk;rcases (by omega:k=0\/k=1) with rfl|rfl
   ·rcases R0 with R0|⟨a,b,c,d,L,rfl,rfl⟩
    ·obtain ⟨rs,r1,r2,r3,r4,rfl⟩:=id R0;simp! [];rw [show atI [D.lst (rs.map zas),d1] ((0:Nat):Int)=some (D.lst (rs.map zas)) from rfl];exact hkk _ ⟨_,_,fun _=>R0,fun z=>by omega,rfl⟩
    ·simp! [];rw [show atI [D.non,d1] ((0:Nat):Int)=some D.non from rfl,show atI [zaF [a,b,c,d],f1] ((0:Nat):Int)=some (zaF [a,b,c,d]) from rfl];refine ifT rfl ⟨Nat.le_trans (by simp:_<=1000) (by decide),?_⟩;refine za0 natD (fun p=>natD (p)) [a,b,c,d] _ (fun p hp Q h=>?_) ?_
     ·simp! [];rw [zau];refine ⟨zcp (zb9 (by omega) (by omega)),?_⟩;rw [show (p:Int)+((0:Nat):Int) * (n0:Int)=((p:Nat):Int) from by omega];exact h
     ·exact ⟨rfl,ln _ rfl _ _ _ _ 0 (B.lnLo L)⟩
   ·rcases R1 with R1|⟨a,b,c,d,L,rfl,rfl⟩
    ·obtain ⟨rs,r1,r2,r3,r4,rfl⟩:=id R1;simp! [];rw [show atI [d0,D.lst (rs.map zas)] ((1:Nat):Int)=some (D.lst (rs.map zas)) from rfl];exact hkk _ ⟨_,_,fun _=>k0 (by omega),fun _=>R1,rfl⟩
    ·simp! [];rw [show atI [d0,D.non] ((1:Nat):Int)=some D.non from rfl,show atI [f0,zaF [a,b,c,d]] ((1:Nat):Int)=some (zaF [a,b,c,d]) from rfl];refine ifT rfl ⟨Nat.le_trans (by simp:_<=1000) (by decide),?_⟩;refine za0 natD (fun p=>natD (n0+p)) [a,b,c,d] _ (fun p hp Q h=>?_) ?_
     ·simp! [];rw [zau];refine ⟨zcp (zb9 (by omega) (by omega)),?_⟩;rw [show (p:Int)+((1:Nat):Int) * (n0:Int)=((n0+p:Nat):Int) from by omega];exact h
     ·exact ⟨rfl,ln _ rfl _ _ _ _ 1 (B.lnHi L)⟩
  ·rintro st ⟨o6,o7,k0,k1,rfl⟩;obtain ⟨r0,a1,a2,a3,a4,rfl⟩:=k0 (by omega);obtain ⟨r1,b1,b2,b3,b4,rfl⟩:=k1 (by omega);clear k0 k1 R0 R1;have dq:∀ (n:Nat) (M:Nat->Nat->Bool),deq (zaF (webOf n M)) (D.lst [])=decide (n=0):=fun n M=>by
    show deq (zaF (webOf n M)) (zaF [])=_
    rw [zoi];refine decide_eq_decide.mpr ⟨fun e=>?_,fun e=>?_⟩
    ·have:=congrArg List.length e;rw [zau] at this;exact this
    ·rw [e];rfl
   have fin:isJ (n0+n1) C ((r0++r1).map zdn)=true->zaP [D.lst (List.map natD (webOf (n0+n1) C)),D.lst (List.map zas r0++List.map zas r1)] fun x d=>
            match d with
            |D.bl b=>Q Md.sh (D.bl (if false=true then !decide (b=true) else decide (b=true)))
            |x=>False:=fun e=>by
    refine ⟨n0+n1,C,(r0++r1).map zdn,by rw [<-zeS,List.map_append],by omega,by rw [List.length_map,List.length_append];omega,fun r hr=>by obtain ⟨x,_,rfl⟩:=List.mem_map.mp hr;simp [zdn],?_⟩;rw [e];exact h
   have sz:(r0.map zas).length+(r1.map zas).length<=sizeLine:=Nat.le_trans (by rw [List.length_map,List.length_map];omega:_<=1000) (by decide);simp! [zgH];rw [dq,dq];refine ⟨Nat.le_trans (zh4 _) (by decide),if2 (fun z=>?_) (fun z=>⟨Nat.le_trans (zh4 _) (by decide),if2 (fun y=>?_) (fun y=>?_)⟩)⟩
   ·have z:n0=0:=of_decide_eq_true z;refine ifT trivial ?_;refine ⟨sz,fin ?_⟩;subst z;obtain rfl:r0=[]:=List.length_eq_zero_iff.mp (by omega);rw [List.nil_append];rw [Nat.zero_add];refine zo6 b1 b2 fun x hx y hy=>?_;rw [b4 x hx y hy,<-B.hi x y hx hy,Nat.zero_add,Nat.zero_add]
   ·have y:n1=0:=of_decide_eq_true y;refine ⟨sz,fin ?_⟩;subst y;obtain rfl:r1=[]:=List.length_eq_zero_iff.mp (by omega);rw [List.append_nil];refine zo6 (n:=n0) a1 a2 fun x hx y hy=>?_;rw [a4 x hx y hy,<-B.lo x y hx hy]
   ·have z:0<n0:=Nat.pos_of_ne_zero fun e=>z (decide_eq_true e);have y:0<n1:=Nat.pos_of_ne_zero fun e=>y (decide_eq_true e);simp! [zgG];refine ⟨n0,n1,v,_,_,r0,r1,rfl,by rw [List.length_map,zau],by rw [List.length_map,zau],h0,h1,z,y,a2,b2,?_⟩;have pl:(zmg n0 n1 r0 r1 v).length<=14:=by unfold zmg;simp only [List.length_append,List.length_map,List.length_singleton];omega
    refine ⟨n0+n1,C,(zmg n0 n1 r0 r1 v).map zdn,by rw [<-zeS],by omega,by rw [List.length_map];omega,fun r hr=>by obtain ⟨x,_,rfl⟩:=List.mem_map.mp hr;simp [zdn],?_⟩;rw [zsa B a1 b1 a2 b2 z y hv a4 b4];exact h
 simp! [zfN];have m2:∀ s∈webOf n1 M1,s<2 ^ 14:=fun s hs=>by
  unfold webOf at hs;obtain ⟨a,_,rfl⟩:=List.mem_map.mp hs;exact Nat.lt_of_lt_of_le (zkT _ _) (Nat.pow_le_pow_right (by decide) (by omega))
 rcases (by omega:v=0\/v=1) with rfl|rfl
 ·refine ifT rfl ?_;refine ⟨_,_,rfl,by rw [zau,zau];omega,m2,.inl rfl,?_⟩;rw [zk3];exact main _ (zqR (v:=0) g0 g1 (by omega))
 ·refine ifF (by decide) ⟨rfl,?_⟩;refine ⟨_,_,rfl,by rw [zau,zau];omega,.inl rfl,?_⟩;unfold zuL;rw [zec,zec,zk3,zec];exact main _ (zqR (v:=1) g0 g1 (by omega))
noncomputable def r_law_1b1:VS:=(zn7 1 (zaK zda (zaa (zaq zcz (zaa (zaq zcx (zaa (zac 3) (zaa (vC (.int 7)) zai))) (zaa (zac 3) zai))) zai)))
noncomputable def ziF:VS:=(ze7 (zsY (zb4 (zmD true (vBin fIx (zac 4) (zac 2)))) (zpA (zb4 (zaq zbG (zaa (vBin fIx (zac 4) (zac 2)) zai)))))
 (zci (zan (vC (.bl false))))
 zbD)
noncomputable def zo7:VS:=(zci (zaK zcC (zaa (vBin fIx (zac 1) (vC (.int 0))) (zaa (vBin fIx (zac 1) (vC (.int 1))) (zaa (zac 4) (zaa (zac 5) (zaa (zac 6) zai)))))))
noncomputable def zo8:VS:=(zat (zbd 6 (zan (vBin (vI2 (fun _ j=>0<j) fun i j=>.int (i % j)) (vBin (vI2 zfg fun i j=>.int (i / j)) (zaq zak (zaa (zac 0) (zaa (vC (.int 1)) zai))) (vC (.int 225))) (vC (.int 2))))) zo7)
noncomputable def zmi:VS:=(zat (ze7 (zpA (zb4 (zaq zbH (zaa (vBin fIx (zac 1) (vC (.int 0))) (zaa (vBin fIx (zac 4) (vC (.int 0))) (zaa (vBin fIx (zac 5) (vC (.int 0))) zai))))))
 (zci (zan (vC (.bl false))))
 zbD) zo8)
noncomputable def zmj:VS:=(zat (zfz (gV 2) (zaa (vC (.int 2)) zai)
 (zat (ze7 (zsY (zb4 (zmD false (vBin fIx (zac 4) (zac 2)))) (vOr (zpA (zb4 (zaq zbb (zaa (vBin fIx (zac 5) (zac 2)) zai)))) (zb4 (vBin fNe (vCB zbP (zaa (vBin fIx (zac 5) (zac 2)) zai)) (vC (.int 4))))))
 (zci (zan (vC (.bl false))))
 zbD) ziF)) zmi)
noncomputable def r_law_3:VS:=(zat (zpJ 5 (zdT (zb7 (zdk (zac 1)) zb5 (zaq zaE (zaa (zdT (zbQ (zaa (zac 0) zai))) zai))))) zmj)
noncomputable def zo9:VS:=(zat (zpJ 4 (zdT (zb7 (zdk (zac 1)) zb5 (zaq zbB (zaa (zdT (zbQ (zaa (zac 0) zai))) zai))))) r_law_3)
noncomputable def zpa:VS:=(zat (zfz (gV 2) (zaa (vC (.int 2)) zai)
 (zat (zbd 3 (zds (zqB (zdT (zbi (zaa (vBin (vI2 zfg fun i j=>.int (i / j)) (zaq zak (zaa (zac 0) (zaa (vC (.int 0)) zai))) (vBin (vI fun i j=>.int (i+j)) (vC (.int 1)) (vBin (vI2 IntMulOk fun i j=>.int (i * j)) (vC (.int 2)) (zac 2)))) (zaa (vBin (vI2 zfg fun i j=>.int (i / j)) (zaq zak (zaa (zac 0) (zaa (vC (.int 1)) zai))) (vBin (vI fun i j=>.int (i+j)) (vC (.int 1)) (vBin (vI2 IntMulOk fun i j=>.int (i * j)) (vC (.int 15)) (zac 2)))) zai)))) (zdT (zur (zac 0) (vP (vBin (vI fun i j=>.int (i+j)) (vC (.int 2)) (zac 2))) (vP (vC (.int 63))) (vP (vC (.int 2)))))))) r_law_1b1)) zo9)
noncomputable def zsb:VS:=(zat (zbd 1 (zds (zbi zai))) zpa)
noncomputable abbrev ztF:List Str:=["_law_script","_law_webs","_law_k","_law_cells","_law_rows","_law_lines","_law_mark"]
theorem zqn {α β:Type}(f:α->β)(xs:List α)(lo hi st:Option Int):VL.cutG (xs.map f) lo hi st=(VL.cutG xs lo hi st).map f:=by
 unfold VL.cutG;rw [List.length_map,List.map_filterMap];congr 1;funext i;rw [List.getElem?_map]
theorem zsc {ns:List Int}(hl:ns.length<=63){k:Nat}(hk:k<2):(VL.cutG ns (some (2+(k:Int))) (some 63) (some 2)).length<=61:=by
 have key:∀ m,m<64->∀ k,k<2->(VL.zuq m (some (2+((k:Nat):Int))) (some 63) (some 2)).length<=61:=by decide+kernel
 unfold VL.cutG;exact Nat.le_trans (List.length_filterMap_le _ _) (key _ (by omega) k hk)
noncomputable def JJn (n:Nat)(M:Nat->Nat->Bool)(d:D):Prop:=RwJ n M d\/(¬ NoL M (List.range n)/\d= .non)
theorem ztG {n:Nat}{M:Nat->Nat->Bool}(hn:n<=7)(g:Good M){P:D->Prop}(h:∀ d,JJn n M d->P d):zbB [.lst ((webOf n M).map natD)] fun _ d=>P d:=
 ⟨n,M,rfl,by omega,g,fun rs a b _ d e=>h _ (.inl ⟨rs,a,b,d,e,rfl⟩),fun z=>h _ (.inr ⟨z,rfl⟩)⟩
theorem ztH {n:Nat}{M:Nat->Nat->Bool}(hn:n<=7)(g:Good M){d:D}(J:JJn n M d){P:D->Prop}(h:∀ f,zr9 n M d f->P f):zaE [.lst ((webOf n M).map natD)] fun _ f=>P f:=by
 refine ⟨n,M,rfl,by omega,g,fun z a b c d' hl=>?_,fun z=>?_⟩
 ·rcases J with J|⟨_,rfl⟩
  ·exact h _ (.inl J)
  ·exact h _ (.inr ⟨a,b,c,d',(zo5 g).mp hl,rfl,rfl⟩)
 ·rcases J with J|⟨y,rfl⟩
  ·exact h _ (.inl J)
  ·exact absurd z y
theorem zsd:∀ ds Q,zs6 ds Q->ds.length=1:=by rintro _ Q ⟨ns,rfl,h⟩;rfl
theorem ztI:∀ ds Q,zs6 ds Q->zsb {nx:=fun _=>Q .sh .non,rt:=Q} (zaz ztF ds):=by
 rintro _ Q ⟨ns,rfl,hl,hb,h⟩;simp! [zsb];simp! [zpa];refine ⟨by decide,?_⟩;rw [show List.range (Int.toNat 2)=List.range 2 from rfl];refine zb8 2 (fun k st=>∃ (n:Nat->Nat) (M:Nat->Nat->Nat->Bool) (o2 o3:Option (Md×D)),(∀ j,j<k->n j<=7/\Good (M j))/\st=[some (.sh,.lst (ns.map .int)),some (.ow,.lst ((List.range k).map fun j=>zaF (webOf (n j) (M j)))),o2,o3,none,none,none]) ?_ ?_ ⟨fun _=>0,fun _ _ _=>false,_,_,fun j hj=>by omega,rfl⟩
 ·rintro k st kk hk ⟨n,M,o2,o3,hM,rfl⟩ hkk;have c0:(0:Int)<=(2:Int)+(k:Int):=by omega
  have cl:=zsc hl hk;have fin:∀ (E:VEnds) (_:E.nx=kk) (is:List Int),is.length<=63->r_law_1b1 E [some (.sh,.lst (ns.map .int)),some (.ow,.lst ((List.range k).map fun j=>zaF (webOf (n j) (M j)))),some (.sh,natD k),some (.ow,.lst (is.map .int)),none,none,none]:=by
   intro E hE is hi;simp! [r_law_1b1];refine ⟨is,7,rfl,fun m hm=>⟨m,is,rfl,by omega,hi,fun M' g'=>?_⟩⟩;have hr:∀ r∈(List.range m).map fun a=>(List.range m).map (M' a),r.length<=1000:=by
    intro r hr;obtain ⟨a,_,rfl⟩:=List.mem_map.mp hr;simp;omega
   refine ⟨_,by unfold zcj;rw [zos],by simp;omega,hr,.inl rfl,?_⟩;rw [zpR];simp! [appM];rw [hE];refine ⟨zby (by first|omega| (simp;omega)),?_⟩;refine hkk _ ⟨fun j=>if j=k then m else n j,fun j=>if j=k then M' else M j,some (.sh,natD k),some (.ow,.lst (is.map .int)),fun j hj=>?_,?_⟩
   ·by_cases e:j=k
    ·show (if j=k then m else n j)<=7/\Good (if j=k then M' else M j)
     rw [if_pos e,if_pos e];exact ⟨hm,g'⟩
    ·show (if j=k then m else n j)<=7/\Good (if j=k then M' else M j)
     rw [if_neg e,if_neg e];exact hM j (by omega)
   ·rw [List.range_succ,List.map_append];have e1:(List.range k).map (fun j=>zaF (webOf (if j=k then m else n j) (if j=k then M' else M j)))=(List.range k).map fun j=>zaF (webOf (n j) (M j)):=zaM fun a ha=>by rw [if_neg (by omega),if_neg (by omega)]
    rw [e1];simp only [List.map_cons,List.map_nil,if_true]
  simp! [];rw [zqn];generalize VL.cutG ns (some (2+(k:Int))) (some 63) (some 2)=cs at cl ⊢;have sz:∀ k,k<=1000->k<=sizeLine:=fun k hk=>Nat.le_trans hk (by decide);refine ⟨ns,0,rfl,by decide,zcp (zb9 (by omega) (by omega)),zgV (by omega) (zjC (zb9 (by omega) (by omega)) (by decide)),ns,1,rfl,by decide,zcp (zb9 (by omega) (by omega)),zgV (by omega) (zjC (zb9 (by omega) (by omega)) (by decide)),by simp,sz _ (by simp;omega),sz _ (by simp;omega),zgW _,?_⟩;exact fin _ rfl (cellP ns 0 / (1+2 * (k:Int))::cellP ns 1 / (1+15 * (k:Int))::cs) (by simp;omega)
 ·rintro st ⟨n,M,o2,o3,hM,rfl⟩;obtain ⟨hn0,g0⟩:=hM 0 (by omega);obtain ⟨hn1,g1⟩:=hM 1 (by omega);have ew:(List.range 2).map (fun j=>zaF (webOf (n j) (M j)))=[zaF (webOf (n 0) (M 0)),zaF (webOf (n 1) (M 1))]:=rfl;rw [ew];generalize n 0=n0 at hn0;generalize n 1=n1 at hn1;generalize M 0=M0 at g0;generalize M 1=M1 at g1;have szl:2<=sizeLine:=Nat.le_trans (by decide:2<=1000) (by decide);have fou:∀ (p2 p3:Option (Md×D)) (d0 d1 f0 f1:D),zr9 n0 M0 d0 f0->zr9 n1 M1 d1 f1->zmj {nx:=fun _=>Q .sh .non,rt:=Q} [some (.sh,.lst (ns.map .int)),some (.sh,.lst [zaF (webOf n0 M0),zaF (webOf n1 M1)]),p2,p3,some (.sh,.lst [d0,d1]),some (.sh,.lst [f0,f1]),none]:=by
   intro p2 p3 d0 d1 f0 f1 R0 R1;have nx5:∀ (p2:Option (Md×D)),zmi {nx:=fun _=>Q .sh .non,rt:=Q} [some (.sh,.lst (ns.map .int)),some (.sh,.lst [zaF (webOf n0 M0),zaF (webOf n1 M1)]),p2,p3,some (.sh,.lst [d0,d1]),some (.sh,.lst [f0,f1]),none]:=by
    intro p2;have a0:∀ x y:D,atI [x,y] 0=some x:=fun x y=>rfl;have a1:∀ x y:D,atI [x,y] 1=some y:=fun x y=>rfl;simp! [zmi];rw [a0,a0,a0];refine ⟨n0,M0,d0,f0,rfl,hn0,g0,R0,?_⟩;refine ifF (by decide) ?_;simp! [zo8];refine ⟨ns,1,rfl,by decide,zgV (by decide) (by decide),by decide,?_⟩;obtain ⟨v,ev,hv⟩:=zbE (cellP ns 1 / 225) 2 (by decide);have ev:cellP ns 1 / 225 % 2=(v:Int):=ev;rw [ev];simp! [zo7];rw [a0,a1];exact ⟨n0,n1,v,M0,M1,d0,d1,f0,f1,rfl,hn0,hn1,by omega,g0,g1,R0,R1,.inr ⟨rfl,by simp [D.flat]⟩,h⟩
   simp! [zmj];refine ⟨by decide,?_⟩;rw [show List.range (Int.toNat 2)=List.range 2 from rfl];refine zb8 2 (fun k st=>∃ (o2:Option (Md×D)),st=[some (.sh,.lst (ns.map .int)),some (.sh,.lst [zaF (webOf n0 M0),zaF (webOf n1 M1)]),o2,p3,some (.sh,.lst [d0,d1]),some (.sh,.lst [f0,f1]),none]) ?_ ?_ ⟨_,rfl⟩
   ·rintro k st kk hk ⟨o2,rfl⟩ hkk;obtain ⟨n',M',d,f,hn',R,e1,e2⟩:∃ (n:Nat) (M:Nat->Nat->Bool) (d f:D),n<=7/\zr9 n M d f/\atI [d0,d1] (k:Int)=some d/\atI [f0,f1] (k:Int)=some f:=by
     rcases (by omega:k=0\/k=1) with rfl|rfl
     ·exact ⟨n0,M0,d0,f0,hn0,R0,rfl,rfl⟩
     ·exact ⟨n1,M1,d1,f1,hn1,R1,rfl,rfl⟩
    simp! [];rw [e1,e2];rcases R with ⟨rs,r1,r2,r3,r4,rfl⟩|⟨a,b,c,d,L,rfl,rfl⟩
    ·refine ifF Bool.false_ne_true (ifF Bool.false_ne_true ?_);simp! [ziF];rw [e1];refine ifT trivial ?_;exact ⟨rs,rfl,by omega,ifF (by decide) (hkk _ ⟨_,rfl⟩)⟩
    ·refine ifT rfl ?_;refine ⟨[(a:Int),(b:Int),(c:Int),(d:Int)],rfl,by simp,?_⟩;refine ifF (by decide) ?_;simp! [];refine ifF (by decide) ?_;simp! [ziF];rw [e1];exact ifF Bool.false_ne_true (ifF Bool.false_ne_true (hkk _ ⟨_,rfl⟩))
   ·rintro st ⟨o2,rfl⟩;exact nx5 o2
  have thr:∀ (p2 p3:Option (Md×D)) (d0 d1:D),JJn n0 M0 d0->JJn n1 M1 d1->r_law_3 {nx:=fun _=>Q .sh .non,rt:=Q} [some (.sh,.lst (ns.map .int)),some (.sh,.lst [zaF (webOf n0 M0),zaF (webOf n1 M1)]),p2,p3,some (.sh,.lst [d0,d1]),none,none]:=by
   intro p2 p3 d0 d1 J0 J1;simp! [r_law_3];refine ⟨szl,?_⟩;unfold zlG;simp! [];refine ifT trivial (ztH hn0 g0 J0 fun f0 R0=>?_);unfold zlG;simp! [];refine ifT trivial (ztH hn1 g1 J1 fun f1 R1=>?_);unfold zlG;exact fou _ _ _ _ _ _ R0 R1
  simp! [zo9];refine ⟨szl,?_⟩;unfold zlG;simp! [];refine ifT trivial (ztG hn0 g0 fun d0 J0=>?_);unfold zlG;simp! [];refine ifT trivial (ztG hn1 g1 fun d1 J1=>?_);unfold zlG;exact thr _ _ _ _ J0 J1
section
variable {P:Program}{w:World}{K:PySem.W.Frag}{mg:Str->Option Value}{base:Heap}
noncomputable abbrev znv:Stmt:=top 5
theorem ztJ:FnScope ztw ["some","p"] (zab znv):=⟨rfl,rfl,rfl,by decide+kernel,rfl,by decide+kernel,by decide+kernel⟩
theorem zse {f:Addr}{fd:FuncData}(F:Fun K "has" "has" znv f fd)(hm:mg "has"=some (.ref f))(hbi:Binds K fd ["some","p"] []):Cal P w K mg base 1 "has" zib:=
 zc4 F hm hbi ztJ zr0 (fun cdv A outer s H E hr=>by unfold zr1;exact (zaf (zaD (zag (zeN (zuj (sb_var 1) zad) (zeM (zhx hr (zjw (zsW (sb_var 0) (sb_var 1)) zad) zad))))))) ztx
noncomputable abbrev zhb:Stmt:=top 6
theorem zqo:FnScope zoW ["p"] (zab zhb):=⟨rfl,rfl,rfl,by decide+kernel,rfl,by decide+kernel,by decide+kernel⟩
theorem zpb {f:Addr}{fd:FuncData}(F:Fun K "alone" "alone" zhb f fd)(hm:mg "alone"=some (.ref f))(hbi:Binds K fd ["p"] []):Cal P w K mg base 1 "alone" zbf:=
 zc4 F hm hbi zqo zoV (fun cdv A outer s H E hr=>by unfold zl2;exact (zaf (zaD (zag (zqz zad (sb_var 0)))))) zp7
noncomputable abbrev zdc:Stmt:=top 7
theorem sc_together:FnScope zji ["several"] (zab zdc):=⟨rfl,rfl,rfl,by decide+kernel,rfl,by decide+kernel,by decide+kernel⟩
theorem zlv {f:Addr}{fd:FuncData}(F:Fun K "together" "together" zdc f fd)(hm:mg "together"=some (.ref f))(hbi:Binds K fd ["several"] []):Cal P w K mg base 1 "together" zc6:=
 zc4 F hm hbi sc_together zk8 (fun cdv A outer s H E hr=>by unfold zg2;exact (zae (zaA (i:=1) sc_together.nd (zag zad))
 (zae (zs2 0 (zhw PassesOwn.never rfl (zhZ 0) (zaO (i:=2) sc_together.nd)
 (zaf (zaA (i:=1) sc_together.nd (zag (zhe (sb_var 1) (sb_var 2)))))))
 (zaf (zdj 1))))) zl3
noncomputable abbrev zfd:Stmt:=top 8
theorem zpc:FnScope zm4 ["points"] (zab zfd):=⟨rfl,rfl,rfl,by decide+kernel,rfl,by decide+kernel,by decide+kernel⟩
theorem znw {f:Addr}{fd:FuncData}(F:Fun K "set_of" "set_of" zfd f fd)(hm:mg "set_of"=some (.ref f))(hbi:Binds K fd ["points"] [])(c_together:Cal P w K mg base 1 "together" zc6)(c_alone:Cal P w K mg base 1 "alone" zbf):Cal P w K mg base 2 "set_of" zfa:=
 zc4 F hm hbi zpc znl (fun cdv A outer s H E hr=>by unfold zjM;exact (zaf (zaD (zaB c_together (hr.mono (by decide)) (sa_cons (sb_new (zbR (R:=["points"]) rfl (by decide+kernel) (zco (sb_var 0)) (fun _ _ _ _=>zaY) (fun _ _ _ _=>(zah c_alone (hr.mono (by decide)) (sa_cons (sb_var 0) sa_nil))))) sa_nil))))) zoX
noncomputable abbrev zcD:Stmt:=top 9
theorem zlw:FnScope zic ["some"] (zab zcD):=⟨rfl,rfl,rfl,by decide+kernel,rfl,by decide+kernel,by decide+kernel⟩
theorem zj5 {f:Addr}{fd:FuncData}(F:Fun K "points_of" "points_of" zcD f fd)(hm:mg "points_of"=some (.ref f))(hbi:Binds K fd ["some"] [])(z_range:mg "range"=none)(c_has:Cal P w K mg base 1 "has" zib):Cal P w K mg base 2 "points_of" zaN:=
 zc4 F hm hbi zlw zjN (fun cdv A outer s H E hr=>by unfold zfA;exact (zaf (zaD (zaX (zbR (R:=["some"]) rfl (by decide+kernel) (zep z_range (sa_cons (zog (sb_var 0)) sa_nil)) (fun _ _ _ _=>(zlO (zdV (zah c_has (hr.mono (by decide)) (sa_cons (sb_var 1) (sa_cons (sb_var 0) sa_nil)))))) (fun _ _ _ _=>(sb_var 0))))))) zk9
noncomputable abbrev zdd:Stmt:=top 10
theorem zmk:FnScope zjj ["some"] (zab zdd):=⟨rfl,rfl,rfl,by decide+kernel,rfl,by decide+kernel,by decide+kernel⟩
theorem zlx {f:Addr}{fd:FuncData}(F:Fun K "first_of" "first_of" zdd f fd)(hm:mg "first_of"=some (.ref f))(hbi:Binds K fd ["some"] [])(c_points_of:Cal P w K mg base 2 "points_of" zaN):Cal P w K mg base 3 "first_of" zc7:=
 zc4 F hm hbi zmk zla (fun cdv A outer s H E hr=>by unfold zg3;exact (zae (zfR (zgU hr (sb_var 0) zad)
 (zaf zn6)
 za2)
 (zaf (zaD (zag (zam (zah c_points_of (hr.mono (by decide)) (sa_cons (sb_var 0) sa_nil)) zad)))))) zl4
noncomputable abbrev zd4:Stmt:=top 11
theorem znx:FnScope zlb ["some","other"] (zab zd4):=⟨rfl,rfl,rfl,by decide+kernel,rfl,by decide+kernel,by decide+kernel⟩
theorem zml {f:Addr}{fd:FuncData}(F:Fun K "without" "without" zd4 f fd)(hm:mg "without"=some (.ref f))(hbi:Binds K fd ["some","other"] []):Cal P w K mg base 1 "without" zba:=
 zc4 F hm hbi znx zl5 (fun cdv A outer s H E hr=>by unfold zid;exact (zaf (zaD (zag (zjw (sb_var 0) (zsX (sb_var 1))))))) znm
noncomputable abbrev zbI:Stmt:=top 14
theorem zi0:FnScope zgc ["many"] (zab zbI):=⟨rfl,rfl,rfl,by decide+kernel,rfl,by decide+kernel,by decide+kernel⟩
theorem ziG {f:Addr}{fd:FuncData}(F:Fun K "refuse_size" "refuse_size" zbI f fd)(hm:mg "refuse_size"=some (.ref f))(hbi:Binds K fd ["many"] [])(g_MOST:∃ t,mg "MOST"=some (.int 14 t)):Cal P w K mg base 1 "refuse_size" zbF:=
 zc4 F hm hbi zi0 zie (fun cdv A outer s H E hr=>by unfold zef;exact (zaf (zfR (zeL (zne (zpy (sb_var 0) zad) (zkG (zpz (sb_var 0) (zpT g_MOST)))))
 (zaf zn6)
 za2))) ziQ
noncomputable abbrev zjr:Stmt:=top 15
theorem zsf:FnScope zqN ["web","a","b"] (zab zjr):=⟨rfl,rfl,rfl,by decide+kernel,rfl,by decide+kernel,by decide+kernel⟩
theorem zqp {f:Addr}{fd:FuncData}(F:Fun K "tied" "tied" zjr f fd)(hm:mg "tied"=some (.ref f))(hbi:Binds K fd ["web","a","b"] [])(c_has:Cal P w K mg base 1 "has" zib):Cal P w K mg base 2 "tied" zhh:=
 zc4 F hm hbi zsf zp8 (fun cdv A outer s H E hr=>by unfold zoY;exact (zaf (zaD (zaB c_has (hr.mono (by decide)) (sa_cons (zam (sb_var 0) (sb_var 1)) (sa_cons (sb_var 2) sa_nil)))))) zr2
noncomputable abbrev zd5:Stmt:=top 16
theorem sc_ties_of:FnScope zlc ["web"] (zab zd5):=⟨rfl,rfl,rfl,by decide+kernel,rfl,by decide+kernel,by decide+kernel⟩
theorem zmm {f:Addr}{fd:FuncData}(F:Fun K "ties_of" "ties_of" zd5 f fd)(hm:mg "ties_of"=some (.ref f))(hbi:Binds K fd ["web"] [])(z_len:mg "len"=none)(z_range:mg "range"=none)(c_points_of:Cal P w K mg base 2 "points_of" zaN):Cal P w K mg base 3 "ties_of" zcM:=
 zc4 F hm hbi sc_ties_of zl6 (fun cdv A outer s H E hr=>by unfold zif;exact (zae (zaA (i:=1) sc_ties_of.nd (zaX (za9 sa_nil)))
 (zae (zeO PassesOwn.never rfl z_range (sa_cons (zar z_len (sa_cons (sb_var 0) sa_nil)) sa_nil) (zaO (i:=2) sc_ties_of.nd)
 (zaf (zrw 1 (zbR (R:=["web","ties","a"]) rfl (by decide+kernel) (zco (zah c_points_of (hr.mono (by decide)) (sa_cons (zam (sb_var 0) (sb_var 2)) sa_nil))) (fun _ _ _ _=>(zlO (zpy (sb_var 3) (sb_var 0)))) (fun _ _ _ _=>(zkH (sa_cons (sb_var 3) (sa_cons (sb_var 0) sa_nil))))))))
 (zaf (zdj 1))))) znn
noncomputable abbrev zde:Stmt:=top 17
theorem zmn:FnScope zjk ["web"] (zab zde):=⟨rfl,rfl,rfl,by decide+kernel,rfl,by decide+kernel,by decide+kernel⟩
theorem zly {f:Addr}{fd:FuncData}(F:Fun K "whole_of" "whole_of" zde f fd)(hm:mg "whole_of"=some (.ref f))(hbi:Binds K fd ["web"] [])(z_len:mg "len"=none)(c_alone:Cal P w K mg base 1 "alone" zbf):Cal P w K mg base 2 "whole_of" zbS:=
 zc4 F hm hbi zmn zld (fun cdv A outer s H E hr=>by unfold zg4;exact (zaf (zaD (zag (zck (zah c_alone (hr.mono (by decide)) (sa_cons (zar z_len (sa_cons (sb_var 0) sa_nil)) sa_nil)) zad))))) zl7
noncomputable abbrev zcE:Stmt:=top 18
theorem sc_other_web:FnScope zig ["web"] (zab zcE):=⟨rfl,rfl,rfl,by decide+kernel,rfl,by decide+kernel,by decide+kernel⟩
theorem zj6 {f:Addr}{fd:FuncData}(F:Fun K "other_web" "other_web" zcE f fd)(hm:mg "other_web"=some (.ref f))(hbi:Binds K fd ["web"] [])(z_len:mg "len"=none)(z_range:mg "range"=none)(c_whole_of:Cal P w K mg base 2 "whole_of" zbS)(c_without:Cal P w K mg base 1 "without" zba)(c_alone:Cal P w K mg base 1 "alone" zbf):Cal P w K mg base 3 "other_web" zbc:=
 zc4 F hm hbi sc_other_web zjO (fun cdv A outer s H E hr=>by unfold zfB;exact (zae (zaA (i:=1) sc_other_web.nd (zaB c_whole_of (hr.mono (by decide)) (sa_cons (sb_var 0) sa_nil)))
 (zaf (zaD (zaX (zbR (R:=["web","whole"]) rfl (by decide+kernel) (zep z_range (sa_cons (zar z_len (sa_cons (sb_var 0) sa_nil)) sa_nil)) (fun _ _ _ _=>zaY) (fun _ _ _ _=>(zah c_without (hr.mono (by decide)) (sa_cons (sb_var 2) (sa_cons (zhe (zam (sb_var 1) (sb_var 0)) (zah c_alone (hr.mono (by decide)) (sa_cons (sb_var 0) sa_nil))) sa_nil)))))))))) zle
noncomputable abbrev zaT:Stmt:=top 19
theorem zgI:FnScope zdZ ["web","points","p"] (zab zaT):=⟨rfl,rfl,rfl,by decide+kernel,rfl,by decide+kernel,by decide+kernel⟩
theorem zfO {f:Addr}{fd:FuncData}(F:Fun K "places_of_mates" "places_of_mates" zaT f fd)(hm:mg "places_of_mates"=some (.ref f))(hbi:Binds K fd ["web","points","p"] [])(z_len:mg "len"=none)(z_range:mg "range"=none)(c_set_of:Cal P w K mg base 2 "set_of" zfa)(c_tied:Cal P w K mg base 2 "tied" zhh):Cal P w K mg base 3 "places_of_mates" zaR:=
 zc4 F hm hbi zgI zfC (fun cdv A outer s H E hr=>by unfold zcs;exact (zaf (zaD (zaB c_set_of (hr.mono (by decide)) (sa_cons (sb_new (zbR (R:=["web","points","p"]) rfl (by decide+kernel) (zep z_range (sa_cons (zar z_len (sa_cons (sb_var 1) sa_nil)) sa_nil)) (fun _ _ _ _=>(zlO (zdV (zah c_tied (hr.mono (by decide)) (sa_cons (sb_var 1) (sa_cons (sb_var 3) (sa_cons (zam (sb_var 2) (sb_var 0)) sa_nil))))))) (fun _ _ _ _=>(sb_var 0)))) sa_nil))))) zgd
noncomputable abbrev zjs:Stmt:=top 20
theorem zsg:FnScope zqO ["web","points"] (zab zjs):=⟨rfl,rfl,rfl,by decide+kernel,rfl,by decide+kernel,by decide+kernel⟩
theorem zqq {f:Addr}{fd:FuncData}(F:Fun K "part" "part" zjs f fd)(hm:mg "part"=some (.ref f))(hbi:Binds K fd ["web","points"] [])(c_places_of_mates:Cal P w K mg base 3 "places_of_mates" zaR):Cal P w K mg base 4 "part" zjl:=
 zc4 F hm hbi zsg zp9 (fun cdv A outer s H E hr=>by unfold zoZ;exact (zaf (zaD (zaX (zbR (R:=["web","points"]) rfl (by decide+kernel) (zco (sb_var 1)) (fun _ _ _ _=>zaY) (fun _ _ _ _=>(zah c_places_of_mates (hr.mono (by decide)) (sa_cons (sb_var 1) (sa_cons (sb_var 2) (sa_cons (sb_var 0) sa_nil)))))))))) zr3
noncomputable abbrev zfe:Stmt:=top 21
theorem zpd:FnScope zm5 ["one","two"] (zab zfe):=⟨rfl,rfl,rfl,by decide+kernel,rfl,by decide+kernel,by decide+kernel⟩
theorem zny {f:Addr}{fd:FuncData}(F:Fun K "beside" "beside" zfe f fd)(hm:mg "beside"=some (.ref f))(hbi:Binds K fd ["one","two"] [])(z_len:mg "len"=none)(c_refuse_size:Cal P w K mg base 1 "refuse_size" zbF):Cal P w K mg base 2 "beside" zdw:=
 zc4 F hm hbi zpd zno (fun cdv A outer s H E hr=>by unfold zjP;exact (zae (zs1 (zah c_refuse_size (hr.mono (by decide)) (sa_cons (zaI (zar z_len (sa_cons (sb_var 0) sa_nil)) (zar z_len (sa_cons (sb_var 1) sa_nil))) sa_nil)))
 (zaf (zaD (zaX (zjb (sb_var 0) (sb_new (zbR (R:=["one","two"]) rfl (by decide+kernel) (zco (sb_var 1)) (fun _ _ _ _=>zaY) (fun _ _ _ _=>(zqz (sb_var 0) (zar z_len (sa_cons (sb_var 1) sa_nil)))))))))))) zo0
noncomputable abbrev zff:Stmt:=top 22
theorem zpe:FnScope zm6 ["one","two"] (zab zff):=⟨rfl,rfl,rfl,by decide+kernel,rfl,by decide+kernel,by decide+kernel⟩
theorem znz {f:Addr}{fd:FuncData}(F:Fun K "joined" "joined" zff f fd)(hm:mg "joined"=some (.ref f))(hbi:Binds K fd ["one","two"] [])(c_other_web:Cal P w K mg base 3 "other_web" zbc)(c_beside:Cal P w K mg base 2 "beside" zdw):Cal P w K mg base 4 "joined" zfc:=
 zc4 F hm hbi zpe znp (fun cdv A outer s H E hr=>by unfold zjQ;exact (zaf (zaD (zaB c_other_web (hr.mono (by decide)) (sa_cons (zah c_beside (hr.mono (by decide)) (sa_cons (zah c_other_web (hr.mono (by decide)) (sa_cons (sb_var 0) sa_nil)) (sa_cons (zah c_other_web (hr.mono (by decide)) (sa_cons (sb_var 1) sa_nil)) sa_nil))) sa_nil))))) zo2
noncomputable abbrev zbY:Stmt:=top 24
theorem sc_are_points:FnScope zhi ["web","some"] (zab zbY):=⟨rfl,rfl,rfl,by decide+kernel,rfl,by decide+kernel,by decide+kernel⟩
theorem zi1 {f:Addr}{fd:FuncData}(F:Fun K "are_points" "are_points" zbY f fd)(hm:mg "are_points"=some (.ref f))(hbi:Binds K fd ["web","some"] [])(z_len:mg "len"=none)(z_all:mg "all"=none)(z_set:mg "set"=none):Cal P w K mg base 1 "are_points" zbT:=
 zc4 F hm hbi sc_are_points ziR (fun cdv A outer s H E hr=>by unfold zeT;exact (zae (zaA (i:=2) sc_are_points.nd (zag (zkS rfl z_all (sa_cons (sb_new (zbR (R:=["web","some","inside"]) rfl (by decide+kernel) (zco (sb_var 1)) (fun _ _ _ _=>zaY) (fun _ _ _ _=>(zmO zsL zpm zjv zjv zad (sb_var 0) (zar z_len (sa_cons (sb_var 1) sa_nil)))))) sa_nil))))
 (zaf (zaD (zag (zeN (sb_var 2) (zeM (zhx hr (zoy rfl z_len z_set (sa_cons (sb_var 1) sa_nil)) (zar z_len (sa_cons (sb_var 1) sa_nil)))))))))) zjR
noncomputable abbrev zdf:Stmt:=top 25
theorem sc_pairs_of:FnScope zjn ["many"] (zab zdf):=⟨rfl,rfl,rfl,by decide+kernel,rfl,by decide+kernel,by decide+kernel⟩
theorem zlz {f:Addr}{fd:FuncData}(F:Fun K "pairs_of" "pairs_of" zdf f fd)(hm:mg "pairs_of"=some (.ref f))(hbi:Binds K fd ["many"] [])(z_range:mg "range"=none):Cal P w K mg base 1 "pairs_of" zc8:=
 zc4 F hm hbi sc_pairs_of zlh (fun cdv A outer s H E hr=>by unfold zg5;exact (zae (zaA (i:=1) sc_pairs_of.nd (zaX (za9 sa_nil)))
 (zae (zeO PassesOwn.never rfl z_range (sa_cons (sb_var 0) sa_nil) (zaO (i:=2) sc_pairs_of.nd)
 (zaf (zrw 1 (zbR (R:=["many","pairs","a"]) rfl (by decide+kernel) (zrv z_range (sa_cons (zaI (sb_var 2) zad) (sa_cons (sb_var 0) sa_nil))) (fun _ _ _ _=>zaY) (fun _ _ _ _=>(zkH (sa_cons (sb_var 3) (sa_cons (sb_var 0) sa_nil))))))))
 (zaf (zdj 1))))) zl8
noncomputable abbrev zbZ:Stmt:=top 26
theorem zj7:FnScope zhl ["many"] (zab zbZ):=⟨rfl,rfl,rfl,by decide+kernel,rfl,by decide+kernel,by decide+kernel⟩
theorem zi2 {f:Addr}{fd:FuncData}(F:Fun K "neighbours" "neighbours" zbZ f fd)(hm:mg "neighbours"=some (.ref f))(hbi:Binds K fd ["many"] [])(z_range:mg "range"=none):Cal P w K mg base 1 "neighbours" zbU:=
 zc4 F hm hbi zj7 ziS (fun cdv A outer s H E hr=>by unfold zeU;exact (zaf (zaD (zaX (zbR (R:=["many"]) rfl (by decide+kernel) (zep z_range (sa_cons (zck (sb_var 0) zad) sa_nil)) (fun _ _ _ _=>zaY) (fun _ _ _ _=>(zkH (sa_cons (sb_var 0) (sa_cons (zaI (sb_var 0) zad) sa_nil))))))))) zjS
noncomputable abbrev zd6:Stmt:=top 27
theorem znA:FnScope zli ["web","some"] (zab zd6):=⟨rfl,rfl,rfl,by decide+kernel,rfl,by decide+kernel,by decide+kernel⟩
theorem zmo {f:Addr}{fd:FuncData}(F:Fun K "is_line" "is_line" zd6 f fd)(hm:mg "is_line"=some (.ref f))(hbi:Binds K fd ["web","some"] [])(z_len:mg "len"=none)(c_are_points:Cal P w K mg base 1 "are_points" zbT)(c_ties_of:Cal P w K mg base 3 "ties_of" zcM)(c_part:Cal P w K mg base 4 "part" zjl)(c_neighbours:Cal P w K mg base 1 "neighbours" zbU):Cal P w K mg base 5 "is_line" zd0:=
 zc4 F hm hbi znA zl9 (fun cdv A outer s H E hr=>by unfold zii;exact (zae (zfR (zeL (zne (zgU hr (zar z_len (sa_cons (sb_var 1) sa_nil)) zad) (zkG (zhX (zdV (zah c_are_points (hr.mono (by decide)) (sa_cons (sb_var 0) (sa_cons (sb_var 1) sa_nil))))))))
 (zaf (zaD (zag zgP)))
 za2)
 (zaf (zaD (zag (zhx hr (zah c_ties_of (hr.mono (by decide)) (sa_cons (zah c_part (hr.mono (by decide)) (sa_cons (sb_var 0) (sa_cons (sb_var 1) sa_nil))) sa_nil)) (zah c_neighbours (hr.mono (by decide)) (sa_cons (zar z_len (sa_cons (sb_var 1) sa_nil)) sa_nil)))))))) znq
noncomputable abbrev za7:Stmt:=top 29
theorem zhc:FnScope zeq ["web","one","two"] (zab za7):=⟨rfl,rfl,rfl,by decide+kernel,rfl,by decide+kernel,by decide+kernel⟩
theorem zgJ {f:Addr}{fd:FuncData}(F:Fun K "joined_between" "joined_between" za7 f fd)(hm:mg "joined_between"=some (.ref f))(hbi:Binds K fd ["web","one","two"] [])(z_len:mg "len"=none)(z_range:mg "range"=none)(c_has:Cal P w K mg base 1 "has" zib):Cal P w K mg base 2 "joined_between" za4:=
 zc4 F hm hbi zhc zge (fun cdv A outer s H E hr=>by unfold zcP;exact (zaf (zaD (zaX (zbR (R:=["web","one","two"]) rfl (by decide+kernel) (zep z_range (sa_cons (zar z_len (sa_cons (sb_var 0) sa_nil)) sa_nil)) (fun _ _ _ _=>zaY) (fun _ _ _ _=>(zhe (zhe (zam (sb_var 1) (sb_var 0)) (zrk (zdV (zah c_has (hr.mono (by decide)) (sa_cons (sb_var 2) (sa_cons (sb_var 0) sa_nil)))) (sb_var 3) zad)) (zrk (zdV (zah c_has (hr.mono (by decide)) (sa_cons (sb_var 3) (sa_cons (sb_var 0) sa_nil)))) (sb_var 2) zad)))))))) zg6
noncomputable abbrev za8:Stmt:=top 30
theorem sc_web_of_joining:FnScope zer ["many","rows"] (zab za8):=⟨rfl,rfl,rfl,by decide+kernel,rfl,by decide+kernel,by decide+kernel⟩
theorem zgK {f:Addr}{fd:FuncData}(F:Fun K "web_of_joining" "web_of_joining" za8 f fd)(hm:mg "web_of_joining"=some (.ref f))(hbi:Binds K fd ["many","rows"] [])(z_range:mg "range"=none)(c_alone:Cal P w K mg base 1 "alone" zbf)(c_joined_between:Cal P w K mg base 2 "joined_between" za4):Cal P w K mg base 3 "web_of_joining" za5:=
 zc4 F hm hbi sc_web_of_joining zgf (fun cdv A outer s H E hr=>by unfold zcQ;exact (zae (zaA (i:=2) sc_web_of_joining.nd (zaX (zlX (za9 (sa_cons zad sa_nil)) (sb_var 0))))
 (zae (zkL (i:=3) (R:=["many","rows","web","things","mark","x","y"]) rfl sc_web_of_joining.nd (by decide+kernel) (zep z_range (sa_cons (sb_var 0) sa_nil)) (fun _ _ _ _=>zaY) (fun _ _ _ _=>(zah c_alone (hr.mono (by decide)) (sa_cons (sb_var 0) sa_nil))))
 (zae (zs2 1 (zhw PassesOwn.never rfl (zhZ 1) (zmX (i:=4) (j:=5) (l:=6) rfl sc_web_of_joining.nd)
 (zae (zfR (zgU hr (sb_var 4) zad)
 (zaf (zaA (i:=2) sc_web_of_joining.nd (zaB c_joined_between (hr.mono (by decide)) (sa_cons (sb_var 2) (sa_cons (zam (sb_var 3) (sb_var 5)) (sa_cons (zam (sb_var 3) (sb_var 6)) sa_nil))))))
 za2)
 (zaf (zkI 3 (zag (zhe (zam (sb_var 3) (sb_var 5)) (zam (sb_var 3) (sb_var 6)))))))))
 (zaf (zdj 2)))))) zg7
noncomputable abbrev zcF:Stmt:=top 31
theorem zlA:FnScope zij ["row","made","named"] (zab zcF):=⟨rfl,rfl,rfl,by decide+kernel,rfl,by decide+kernel,by decide+kernel⟩
theorem zj8 {f:Addr}{fd:FuncData}(F:Fun K "names_two" "names_two" zcF f fd)(hm:mg "names_two"=some (.ref f))(hbi:Binds K fd ["row","made","named"] [])(z_len:mg "len"=none)(z_all:mg "all"=none):Cal P w K mg base 1 "names_two" zct:=
 zc4 F hm hbi zlA zjT (fun cdv A outer s H E hr=>by unfold zfD;exact (zae (zfR (zeL (zne (zpC hr (zar z_len (sa_cons (sb_var 0) sa_nil)) zad) (zne (zpE hr (zam (sb_var 0) zad) (zkH (sa_cons zad (sa_cons zad sa_nil)))) (zkG (zgU hr (zam (sb_var 0) zad) (zam (sb_var 0) zad))))))
 (zaf (zaD (zag zgP)))
 za2)
 (zaf (zaD (zag (zkS rfl z_all (sa_cons (sb_new (zbR (R:=["row","made","named"]) rfl (by decide+kernel) (zco (sb_new (zrn (sb_var 0) (zgR zad) zlN))) (fun _ _ _ _=>zaY) (fun _ _ _ _=>(zeN (zmO zsL zpm zjv zjv zad (sb_var 0) (sb_var 2)) (zeM (zpD hr (sb_var 0) (sb_var 3))))))) sa_nil))))))) zlj
noncomputable abbrev zay:Stmt:=top 32
theorem sc_are_rows_of_joining:FnScope zcN ["many","rows"] (zab zay):=⟨rfl,rfl,rfl,by decide+kernel,rfl,by decide+kernel,by decide+kernel⟩
theorem zen {f:Addr}{fd:FuncData}(F:Fun K "are_rows_of_joining" "are_rows_of_joining" zay f fd)(hm:mg "are_rows_of_joining"=some (.ref f))(hbi:Binds K fd ["many","rows"] [])(z_len:mg "len"=none)(z_max:mg "max"=none)(z_range:mg "range"=none)(c_names_two:Cal P w K mg base 1 "names_two" zct):Cal P w K mg base 2 "are_rows_of_joining" zaw:=
 zc4 F hm hbi sc_are_rows_of_joining zeg (fun cdv A outer s H E hr=>by unfold zbA;exact (zae (zfR (zpC hr (zar z_len (sa_cons (sb_var 1) sa_nil)) (zrr rfl z_max (sa_cons (zck (sb_var 0) zad) (sa_cons zad sa_nil))))
 (zaf (zaD (zag zgP)))
 za2)
 (zae (zaA (i:=2) sc_are_rows_of_joining.nd (zaX (za9 sa_nil)))
 (zae (zeO PassesOwn.never rfl z_range (sa_cons (zar z_len (sa_cons (sb_var 1) sa_nil)) sa_nil) (zaO (i:=3) sc_are_rows_of_joining.nd)
 (zae (zfR (zhX (zdV (zah c_names_two (hr.mono (by decide)) (sa_cons (zam (sb_var 1) (sb_var 3)) (sa_cons (zaI (sb_var 0) (sb_var 3)) (sa_cons (sb_var 2) sa_nil))))))
 (zaf (zaD (zag zgP)))
 za2)
 (zaf (zrw 2 (zrn (zam (sb_var 1) (sb_var 3)) (zgR zad) zlN)))))
 (zaf (zaD (zag zgP))))))) zeI
noncomputable abbrev zb0:Stmt:=top 33
theorem zj9:FnScope zhm ["web","rows"] (zab zb0):=⟨rfl,rfl,rfl,by decide+kernel,rfl,by decide+kernel,by decide+kernel⟩
theorem zi3 {f:Addr}{fd:FuncData}(F:Fun K "is_joining" "is_joining" zb0 f fd)(hm:mg "is_joining"=some (.ref f))(hbi:Binds K fd ["web","rows"] [])(z_len:mg "len"=none)(c_are_rows_of_joining:Cal P w K mg base 2 "are_rows_of_joining" zaw)(c_web_of_joining:Cal P w K mg base 3 "web_of_joining" za5):Cal P w K mg base 4 "is_joining" zaP:=
 zc4 F hm hbi zj9 ziT (fun cdv A outer s H E hr=>by unfold zeV;exact (zaf (zaD (zag (zeN (zah c_are_rows_of_joining (hr.mono (by decide)) (sa_cons (zar z_len (sa_cons (sb_var 0) sa_nil)) (sa_cons (sb_var 1) sa_nil))) (zeM (zhx hr (zah c_web_of_joining (hr.mono (by decide)) (sa_cons (zar z_len (sa_cons (sb_var 0) sa_nil)) (sa_cons (sb_var 1) sa_nil))) (sb_var 0)))))))) zjU
noncomputable abbrev zcG:Stmt:=top 34
theorem sc_are_twins:FnScope zik ["web","a","b","left"] (zab zcG):=⟨rfl,rfl,rfl,by decide+kernel,rfl,by decide+kernel,by decide+kernel⟩
theorem zka {f:Addr}{fd:FuncData}(F:Fun K "are_twins" "are_twins" zcG f fd)(hm:mg "are_twins"=some (.ref f))(hbi:Binds K fd ["web","a","b","left"] [])(c_without:Cal P w K mg base 1 "without" zba)(c_alone:Cal P w K mg base 1 "alone" zbf):Cal P w K mg base 2 "are_twins" zcu:=
 zc4 F hm hbi sc_are_twins zjV (fun cdv A outer s H E hr=>by unfold zfE;exact (zae (zaA (i:=4) sc_are_twins.nd (zaB c_without (hr.mono (by decide)) (sa_cons (sb_var 3) (sa_cons (zhe (zah c_alone (hr.mono (by decide)) (sa_cons (sb_var 1) sa_nil)) (zah c_alone (hr.mono (by decide)) (sa_cons (sb_var 2) sa_nil))) sa_nil))))
 (zaf (zaD (zag (zhx hr (zjw (zam (sb_var 0) (sb_var 1)) (sb_var 4)) (zjw (zam (sb_var 0) (sb_var 2)) (sb_var 4)))))))) zlk
noncomputable abbrev zdg:Stmt:=top 35
theorem sc_twins_in:FnScope zjo ["web","left"] (zab zdg):=⟨rfl,rfl,rfl,by decide+kernel,rfl,by decide+kernel,by decide+kernel⟩
theorem zlB {f:Addr}{fd:FuncData}(F:Fun K "twins_in" "twins_in" zdg f fd)(hm:mg "twins_in"=some (.ref f))(hbi:Binds K fd ["web","left"] [])(z_len:mg "len"=none)(c_points_of:Cal P w K mg base 2 "points_of" zaN)(c_pairs_of:Cal P w K mg base 1 "pairs_of" zc8)(c_are_twins:Cal P w K mg base 2 "are_twins" zcu):Cal P w K mg base 3 "twins_in" zc9:=
 zc4 F hm hbi sc_twins_in zll (fun cdv A outer s H E hr=>by unfold zg8;exact (zae (zaA (i:=2) sc_twins_in.nd (zaB c_points_of (hr.mono (by decide)) (sa_cons (sb_var 1) sa_nil)))
 (zae (zhw PassesOwn.never rfl (zaB c_pairs_of (hr.mono (by decide)) (sa_cons (zar z_len (sa_cons (sb_var 2) sa_nil)) sa_nil)) (zn9 (i:=3) (j:=4) rfl sc_twins_in.nd)
 (zaf (zfR (zdV (zah c_are_twins (hr.mono (by decide)) (sa_cons (sb_var 0) (sa_cons (zam (sb_var 2) (sb_var 3)) (sa_cons (zam (sb_var 2) (sb_var 4)) (sa_cons (sb_var 1) sa_nil))))))
 (zaf (zaD (zag (zkH (sa_cons (zam (sb_var 2) (sb_var 3)) (sa_cons (zam (sb_var 2) (sb_var 4)) sa_nil))))))
 za2)))
 (zaf (zaD (zag zmB)))))) zma
noncomputable abbrev zd7:Stmt:=top 36
theorem sc_joining:FnScope zlm ["web"] (zab zd7):=⟨rfl,rfl,rfl,by decide+kernel,rfl,by decide+kernel,by decide+kernel⟩
theorem zmp {f:Addr}{fd:FuncData}(F:Fun K "joining" "joining" zd7 f fd)(hm:mg "joining"=some (.ref f))(hbi:Binds K fd ["web"] [])(z_len:mg "len"=none)(z_list:mg "list"=none)(z_range:mg "range"=none)(c_whole_of:Cal P w K mg base 2 "whole_of" zbS)(c_twins_in:Cal P w K mg base 3 "twins_in" zc9)(c_tied:Cal P w K mg base 2 "tied" zhh)(c_without:Cal P w K mg base 1 "without" zba)(c_alone:Cal P w K mg base 1 "alone" zbf):Cal P w K mg base 4 "joining" zbB:=
 zc4 F hm hbi sc_joining zmc (fun cdv A outer s H E hr=>by unfold zio;exact (zae (zaA (i:=1) sc_joining.nd (zaX (za9 sa_nil)))
 (zae (zaA (i:=2) sc_joining.nd (zaX (zmT rfl z_list z_range (sa_cons (zar z_len (sa_cons (sb_var 0) sa_nil)) sa_nil))))
 (zae (zaA (i:=3) sc_joining.nd (zaB c_whole_of (hr.mono (by decide)) (sa_cons (sb_var 0) sa_nil)))
 (zae (zhY PassesOwn.never rfl z_range (sa_cons (zar z_len (sa_cons (sb_var 0) sa_nil)) (sa_cons (zck (zcl zad (zar z_len (sa_cons (sb_var 0) sa_nil))) zad) sa_nil)) (zaO (i:=4) sc_joining.nd)
 (zae (zaA (i:=5) sc_joining.nd (zaB c_twins_in (hr.mono (by decide)) (sa_cons (sb_var 0) (sa_cons (sb_var 3) sa_nil))))
 (zae (zfR (znZ (sb_var 5))
 (zaf (zaD (zag zmB)))
 za2)
 (zae (zaA (i:=6) sc_joining.nd (zag (zam (sb_var 5) zad)))
 (zae (zaA (i:=7) sc_joining.nd (zag (zam (sb_var 5) zad)))
 (zae (zkI 1 (zaX (za9 (sa_cons (zrk (zdV (zah c_tied (hr.mono (by decide)) (sa_cons (sb_var 0) (sa_cons (sb_var 6) (sa_cons (sb_var 7) sa_nil))))) zad zad) (sa_cons (zam (sb_var 2) (sb_var 6)) (sa_cons (zam (sb_var 2) (sb_var 7)) sa_nil))))))
 (zae (zn8 2 (zag (sb_var 4)) (sb_var 6))
 (zaf (zaA (i:=3) sc_joining.nd (zaB c_without (hr.mono (by decide)) (sa_cons (sb_var 3) (sa_cons (zah c_alone (hr.mono (by decide)) (sa_cons (sb_var 7) sa_nil)) sa_nil))))))))))))
 (zaf (zdj 1))))))) zns
noncomputable abbrev zaU:Stmt:=top 37
theorem zgL:FnScope zd1 ["web","some"] (zab zaU):=⟨rfl,rfl,rfl,by decide+kernel,rfl,by decide+kernel,by decide+kernel⟩
theorem zfP {f:Addr}{fd:FuncData}(F:Fun K "is_line_of_four" "is_line_of_four" zaU f fd)(hm:mg "is_line_of_four"=some (.ref f))(hbi:Binds K fd ["web","some"] [])(z_len:mg "len"=none)(c_is_line:Cal P w K mg base 5 "is_line" zd0):Cal P w K mg base 6 "is_line_of_four" zax:=
 zc4 F hm hbi zgL zfF (fun cdv A outer s H E hr=>by unfold zcv;exact (zaf (zaD (zag (zeN (zhx hr (zar z_len (sa_cons (sb_var 1) sa_nil)) zad) (zeM (zah c_is_line (hr.mono (by decide)) (sa_cons (sb_var 0) (sa_cons (sb_var 1) sa_nil))))))))) zgn
noncomputable abbrev zcH:Stmt:=top 38
theorem sc_line_over:FnScope ziq ["web","b","c"] (zab zcH):=⟨rfl,rfl,rfl,by decide+kernel,rfl,by decide+kernel,by decide+kernel⟩
theorem zkb {f:Addr}{fd:FuncData}(F:Fun K "line_over" "line_over" zcH f fd)(hm:mg "line_over"=some (.ref f))(hbi:Binds K fd ["web","b","c"] [])(c_without:Cal P w K mg base 1 "without" zba)(c_alone:Cal P w K mg base 1 "alone" zbf)(c_points_of:Cal P w K mg base 2 "points_of" zaN)(c_first_of:Cal P w K mg base 3 "first_of" zc7):Cal P w K mg base 4 "line_over" zcw:=
 zc4 F hm hbi sc_line_over zjW (fun cdv A outer s H E hr=>by unfold zfG;exact (zae (zaA (i:=3) sc_line_over.nd (zaB c_without (hr.mono (by decide)) (sa_cons (zam (sb_var 0) (sb_var 2)) (sa_cons (zhe (zam (sb_var 0) (sb_var 1)) (zah c_alone (hr.mono (by decide)) (sa_cons (sb_var 1) sa_nil))) sa_nil))))
 (zae (zhw PassesOwn.never rfl (zaB c_points_of (hr.mono (by decide)) (sa_cons (zah c_without (hr.mono (by decide)) (sa_cons (zam (sb_var 0) (sb_var 1)) (sa_cons (zhe (zam (sb_var 0) (sb_var 2)) (zah c_alone (hr.mono (by decide)) (sa_cons (sb_var 2) sa_nil))) sa_nil))) sa_nil)) (zaO (i:=4) sc_line_over.nd)
 (zae (zaA (i:=5) sc_line_over.nd (zaB c_without (hr.mono (by decide)) (sa_cons (sb_var 3) (sa_cons (zam (sb_var 0) (sb_var 4)) sa_nil))))
 (zaf (zfR (zpC hr (sb_var 5) zad)
 (zaf (zaD (zaX (za9 (sa_cons (sb_var 4) (sa_cons (sb_var 1) (sa_cons (sb_var 2) (sa_cons (zah c_first_of (hr.mono (by decide)) (sa_cons (sb_var 5) sa_nil)) sa_nil))))))))
 za2))))
 (zaf (zaD (zag zmB)))))) zln
noncomputable abbrev zbq:Stmt:=top 39
theorem sc_line_of_four:FnScope zfo ["web"] (zab zbq):=⟨rfl,rfl,rfl,by decide+kernel,rfl,by decide+kernel,by decide+kernel⟩
theorem zhH {f:Addr}{fd:FuncData}(F:Fun K "line_of_four" "line_of_four" zbq f fd)(hm:mg "line_of_four"=some (.ref f))(hbi:Binds K fd ["web"] [])(c_ties_of:Cal P w K mg base 3 "ties_of" zcM)(c_line_over:Cal P w K mg base 4 "line_over" zcw):Cal P w K mg base 5 "line_of_four" zaE:=
 zc4 F hm hbi sc_line_of_four zhB (fun cdv A outer s H E hr=>by unfold zdN;exact (zae (zhw PassesOwn.never rfl (zaB c_ties_of (hr.mono (by decide)) (sa_cons (sb_var 0) sa_nil)) (zn9 (i:=1) (j:=2) rfl sc_line_of_four.nd)
 (zae (zaA (i:=3) sc_line_of_four.nd (zaB c_line_over (hr.mono (by decide)) (sa_cons (sb_var 0) (sa_cons (sb_var 1) (sa_cons (sb_var 2) sa_nil)))))
 (zaf (zfR (zlL (sb_var 3))
 (zaf (zdj 3))
 za2))))
 (zaf (zaD (zag zmB))))) zir
noncomputable abbrev zbr:Stmt:=top 41
theorem ziH:FnScope zfp ["_law_script","_law_k"] (zab zbr):=⟨rfl,rfl,rfl,by decide+kernel,rfl,by decide+kernel,by decide+kernel⟩
theorem zhI {f:Addr}{fd:FuncData}(F:Fun K "_law_cell_at" "_law_cell_at" zbr f fd)(hm:mg "_law_cell_at"=some (.ref f))(hbi:Binds K fd ["_law_script","_law_k"] [])(z_len:mg "len"=none):Cal P w K mg base 1 "_law_cell_at" zak:=
 zc4 F hm hbi ziH zhC (fun cdv A outer s H E hr=>by unfold zdO;exact (zae (zfR (zpy (sb_var 1) (zar z_len (sa_cons (sb_var 0) sa_nil)))
 (zaf (zaD (zag (zam (sb_var 0) (sb_var 1)))))
 za2)
 (zaf (zaD (zag zad))))) zis
noncomputable abbrev zcI:Stmt:=top 42
theorem sc__law_many:FnScope zit ["_law_script","_law_most"] (zab zcI):=⟨rfl,rfl,rfl,by decide+kernel,rfl,by decide+kernel,by decide+kernel⟩
theorem zkc {f:Addr}{fd:FuncData}(F:Fun K "_law_many" "_law_many" zcI f fd)(hm:mg "_law_many"=some (.ref f))(hbi:Binds K fd ["_law_script","_law_most"] [])(c__law_cell_at:Cal P w K mg base 1 "_law_cell_at" zak):Cal P w K mg base 2 "_law_many" zcx:=
 zc4 F hm hbi sc__law_many zjX (fun cdv A outer s H E hr=>by unfold zfH;exact (zae (zaA (i:=2) sc__law_many.nd (zaB c__law_cell_at (hr.mono (by decide)) (sa_cons (sb_var 0) (sa_cons zad sa_nil))))
 (zae (zfR (zgU hr (zaJ (sb_var 2) zad) zad)
 (zaf (zdj 1))
 za2)
 (zaf (zaD (zag (zaJ (zcn (sb_var 2) zad) (zaI (sb_var 1) zad)))))))) zlo
noncomputable abbrev zb1:Stmt:=top 43
theorem sc__law_mixed:FnScope zhp ["_law_cell","_law_k"] (zab zb1):=⟨rfl,rfl,rfl,by decide+kernel,rfl,by decide+kernel,by decide+kernel⟩
theorem zi4 {f:Addr}{fd:FuncData}(F:Fun K "_law_mixed" "_law_mixed" zb1 f fd)(hm:mg "_law_mixed"=some (.ref f))(hbi:Binds K fd ["_law_cell","_law_k"] []):Cal P w K mg base 1 "_law_mixed" zao:=
 zc4 F hm hbi sc__law_mixed ziU (fun cdv A outer s H E hr=>by unfold zeX;exact (zae (zaA (i:=2) sc__law_mixed.nd (zag (zaJ (zaI (zaI (zcl (sb_var 0) zad) (zcl (zcl (sb_var 1) (sb_var 1)) zad)) zad) zad)))
 (zaf (zaD (zag (zaJ (zcl (sb_var 2) (sb_var 2)) zad)))))) zjY
noncomputable abbrev zb2:Stmt:=top 44
theorem sc__law_names:FnScope zhq ["_law_cell","_law_many_here"] (zab zb2):=⟨rfl,rfl,rfl,by decide+kernel,rfl,by decide+kernel,by decide+kernel⟩
theorem zi5 {f:Addr}{fd:FuncData}(F:Fun K "_law_names" "_law_names" zb2 f fd)(hm:mg "_law_names"=some (.ref f))(hbi:Binds K fd ["_law_cell","_law_many_here"] [])(z_range:mg "range"=none)(c__law_mixed:Cal P w K mg base 1 "_law_mixed" zao):Cal P w K mg base 2 "_law_names" zbV:=
 zc4 F hm hbi sc__law_names ziV (fun cdv A outer s H E hr=>by unfold zeY;exact (zae (zaA (i:=2) sc__law_names.nd (zaX (za9 sa_nil)))
 (zae (zeO PassesOwn.never rfl z_range (sa_cons (sb_var 1) sa_nil) (zaO (i:=3) sc__law_names.nd)
 (zaf (zut 2 (zaJ (zah c__law_mixed (hr.mono (by decide)) (sa_cons (sb_var 0) (sa_cons (sb_var 3) sa_nil))) (zaI (sb_var 3) zad)) (zag (sb_var 3)))))
 (zaf (zdj 2))))) zjZ
noncomputable abbrev zbs:Stmt:=top 45
theorem sc__law_numbers:FnScope zft ["_law_script"] (zab zbs):=⟨rfl,rfl,rfl,by decide+kernel,rfl,by decide+kernel,by decide+kernel⟩
theorem zhJ {f:Addr}{fd:FuncData}(F:Fun K "_law_numbers" "_law_numbers" zbs f fd)(hm:mg "_law_numbers"=some (.ref f))(hbi:Binds K fd ["_law_script"] [])(z_range:mg "range"=none)(z_len:mg "len"=none)(z_min:mg "min"=none)(c__law_mixed:Cal P w K mg base 1 "_law_mixed" zao)(c__law_cell_at:Cal P w K mg base 1 "_law_cell_at" zak):Cal P w K mg base 2 "_law_numbers" zaQ:=
 zc4 F hm hbi sc__law_numbers zhD (fun cdv A outer s H E hr=>by unfold zdP;exact (zae (zkL (i:=1) (R:=["_law_script","_law_numbers_here","0_law_k"]) rfl sc__law_numbers.nd (by decide+kernel) (zep z_range (sa_cons zad sa_nil)) (fun _ _ _ _=>zaY) (fun _ _ _ _=>(zah c__law_mixed (hr.mono (by decide)) (sa_cons (zah c__law_cell_at (hr.mono (by decide)) (sa_cons (sb_var 1) (sa_cons zad sa_nil))) (sa_cons (zaI zad (sb_var 0)) sa_nil)))))
 (zae (zhY PassesOwn.never rfl z_range (sa_cons zad (sa_cons (zjx rfl z_min (sa_cons zad (sa_cons (zar z_len (sa_cons (sb_var 0) sa_nil)) sa_nil))) sa_nil)) (zaO (i:=2) sc__law_numbers.nd)
 (zaf (zn8 1 (zaB c__law_mixed (hr.mono (by decide)) (sa_cons (zaI (zam (sb_var 1) (zaJ (sb_var 2) zad)) (zam (sb_var 0) (sb_var 2))) (sa_cons (sb_var 2) sa_nil))) (zaJ (sb_var 2) zad))))
 (zaf (zdj 1))))) ziu
noncomputable abbrev zbt:Stmt:=top 46
theorem sc__law_joining:FnScope zfu ["_law_many_here","_law_numbers_here","_law_mode"] (zab zbt):=⟨rfl,rfl,rfl,by decide+kernel,rfl,by decide+kernel,by decide+kernel⟩
theorem zhK {f:Addr}{fd:FuncData}(F:Fun K "_law_joining" "_law_joining" zbt f fd)(hm:mg "_law_joining"=some (.ref f))(hbi:Binds K fd ["_law_many_here","_law_numbers_here","_law_mode"] [])(z_list:mg "list"=none)(z_range:mg "range"=none)(z_int:mg "int"=none)(z_len:mg "len"=none):Cal P w K mg base 1 "_law_joining" zbk:=
 zc4 F hm hbi sc__law_joining zhE (fun cdv A outer s H E hr=>by unfold zdQ;exact (zae (zaA (i:=3) sc__law_joining.nd (zaX (zmT rfl z_list z_range (sa_cons (sb_var 0) sa_nil))))
 (zae (zaA (i:=4) sc__law_joining.nd (zaX (za9 sa_nil)))
 (zae (zeO PassesOwn.never rfl z_range (sa_cons (zck (sb_var 0) zad) sa_nil) (zaO (i:=5) sc__law_joining.nd)
 (zae (zaA (i:=6) sc__law_joining.nd (zag (zam (sb_var 1) (sb_var 5))))
 (zae (zaA (i:=7) sc__law_joining.nd (zag (zn5 z_int (sa_cons (zeN (zhx hr (sb_var 2) zad) (zeM (zri (sb_var 5) zad))) sa_nil))))
 (zae (zqI 3 8 sc__law_joining.nd (zaJ (zaJ (zcl (sb_var 6) zad) zad) (zck (zar z_len (sa_cons (sb_var 3) sa_nil)) (sb_var 7))))
 (zae (zqI 3 9 sc__law_joining.nd (zam (sb_new (za9 (sa_cons (zaJ (zaJ (zcl (sb_var 6) zad) zad) (zar z_len (sa_cons (sb_var 3) sa_nil))) (sa_cons (zck (zar z_len (sa_cons (sb_var 3) sa_nil)) zad) sa_nil)))) (sb_var 7)))
 (zae (zkI 4 (zpW (za9 (sa_cons (zaJ (zcn (sb_var 6) zad) zad) (sa_cons (sb_var 8) (sa_cons (sb_var 9) sa_nil)))) (za9 (sa_cons (zaJ (zcn (sb_var 6) zad) zad) (sa_cons (sb_var 9) (sa_cons (sb_var 8) sa_nil)))) (zaJ (zcn (sb_var 6) zad) zad)))
 (zaf (zkI 3 (zag (zaI (sb_var 0) (sb_var 5)))))))))))
 (zaf (zdj 4)))))) ziv
noncomputable abbrev zaV:Stmt:=top 47
theorem sc__law_by_joining:FnScope zd2 ["_law_many_here","_law_rows"] (zab zaV):=⟨rfl,rfl,rfl,by decide+kernel,rfl,by decide+kernel,by decide+kernel⟩
theorem zfQ {f:Addr}{fd:FuncData}(F:Fun K "_law_by_joining" "_law_by_joining" zaV f fd)(hm:mg "_law_by_joining"=some (.ref f))(hbi:Binds K fd ["_law_many_here","_law_rows"] [])(z_range:mg "range"=none):Cal P w K mg base 1 "_law_by_joining" zaS:=
 zc4 F hm hbi sc__law_by_joining zfI (fun cdv A outer s H E hr=>by unfold zcy;exact (zae (zjK (i:=2) (R:=["_law_many_here","_law_rows","_law_held_here","_law_things","_law_mark","_law_x","_law_y","_law_p","_law_q"]) rfl sc__law_by_joining.nd (by decide+kernel) (zep z_range (sa_cons (sb_var 0) sa_nil)) (fun _ _ _ _=>zaY) (fun _ _ _ _=>(zaX (zlX (za9 (sa_cons zgP sa_nil)) (sb_var 1)))))
 (zae (zjK (i:=3) (R:=["_law_many_here","_law_rows","_law_held_here","_law_things","_law_mark","_law_x","_law_y","0_law_p","_law_q"]) rfl sc__law_by_joining.nd (by decide+kernel) (zep z_range (sa_cons (sb_var 0) sa_nil)) (fun _ _ _ _=>zaY) (fun _ _ _ _=>(zaX (za9 (sa_cons (sb_var 0) sa_nil)))))
 (zae (zuv 3 (zs2 1 (zhw PassesOwn.never rfl (zhZ 1) (zmX (i:=4) (j:=5) (l:=6) rfl sc__law_by_joining.nd)
 (zae (zhw PassesOwn.never rfl (zoD 3 (sb_var 5)) (zaO (i:=7) sc__law_by_joining.nd)
 (zaf (zhw PassesOwn.never rfl (zoD 3 (sb_var 6)) (zaO (i:=8) sc__law_by_joining.nd)
 (zae (zeo 2 (zhx hr (sb_var 4) zad) (sb_var 7) (sb_var 8))
 (zaf (zeo 2 (zhx hr (sb_var 4) zad) (sb_var 8) (sb_var 7)))))))
 (zaf (zkI 3 (zaX (zjb (zam (sb_var 3) (sb_var 5)) (zam (sb_var 3) (sb_var 6))))))))))
 (zaf (zdj 2)))))) zgs
noncomputable abbrev zaL:Stmt:=top 48
theorem sc__law_turned_over:FnScope zdE ["_law_held_here","_law_number"] (zab zaL):=⟨rfl,rfl,rfl,by decide+kernel,rfl,by decide+kernel,by decide+kernel⟩
theorem zfj {f:Addr}{fd:FuncData}(F:Fun K "_law_turned_over" "_law_turned_over" zaL f fd)(hm:mg "_law_turned_over"=some (.ref f))(hbi:Binds K fd ["_law_held_here","_law_number"] [])(z_len:mg "len"=none):CalP1 P w K mg base 1 "_law_turned_over" zav:=
 zus F hm hbi sc__law_turned_over zfi (fun cdv A outer s H E hr=>by unfold zcg;exact (zae (zaA (i:=2) sc__law_turned_over.nd (zag (zaJ (zaJ (zcl (sb_var 1) zad) zad) (zar z_len (sa_cons (sb_var 0) sa_nil)))))
 (zae (zaA (i:=3) sc__law_turned_over.nd (zag (zaJ (zaI (zaI (sb_var 2) zad) (zaJ (zaJ (zcl (sb_var 1) zad) zad) (zck (zar z_len (sa_cons (sb_var 0) sa_nil)) zad))) (zar z_len (sa_cons (sb_var 0) sa_nil)))))
 (zae (zeo 0 (zn1 (zam (zam (sb_var 0) (sb_var 2)) (sb_var 3))) (sb_var 2) (sb_var 3))
 (zaf (zeo 0 (zam (zam (sb_var 0) (sb_var 2)) (sb_var 3)) (sb_var 3) (sb_var 2))))))) zfJ
noncomputable abbrev zbu:Stmt:=top 49
theorem sc__law_loosely:FnScope zfv ["_law_many_here","_law_script"] (zab zbu):=⟨rfl,rfl,rfl,by decide+kernel,rfl,by decide+kernel,by decide+kernel⟩
theorem zhL {f:Addr}{fd:FuncData}(F:Fun K "_law_loosely" "_law_loosely" zbu f fd)(hm:mg "_law_loosely"=some (.ref f))(hbi:Binds K fd ["_law_many_here","_law_script"] [])(z_range:mg "range"=none)(z_len:mg "len"=none)(z_min:mg "min"=none)(c__law_cell_at:Cal P w K mg base 1 "_law_cell_at" zak)(c__law_mixed:Cal P w K mg base 1 "_law_mixed" zao)(c__law_turned_over:CalP1 P w K mg base 1 "_law_turned_over" zav):Cal P w K mg base 2 "_law_loosely" zbl:=
 zc4 F hm hbi sc__law_loosely zhF (fun cdv A outer s H E hr=>by unfold zdR;exact (zae (zaA (i:=2) sc__law_loosely.nd (zaB c__law_cell_at (hr.mono (by decide)) (sa_cons (sb_var 1) (sa_cons zad sa_nil))))
 (zae (zaA (i:=3) sc__law_loosely.nd (zaX (za9 sa_nil)))
 (zae (zeO PassesOwn.never rfl z_range (sa_cons (sb_var 0) sa_nil) (zaO (i:=4) sc__law_loosely.nd)
 (zae (zkL (i:=5) (R:=["_law_many_here","_law_script","_law_cell","_law_held_here","_law_a","_law_row","_law_k"]) rfl sc__law_loosely.nd (by decide+kernel) (zep z_range (sa_cons (sb_var 0) sa_nil)) (fun _ _ _ _=>zaY) (fun _ _ _ _=>(zhx hr (zaJ (zck (sb_var 5) (sb_var 0)) (zaI zad (zaJ (zcn (sb_var 3) zad) zad))) zad)))
 (zae (zfR (zgU hr (zaJ (zcn (sb_var 2) zad) zad) zad)
 (zaf (zkL (i:=5) (R:=["_law_many_here","_law_script","_law_cell","_law_held_here","_law_a","_law_row","_law_k"]) rfl sc__law_loosely.nd (by decide+kernel) (zep z_range (sa_cons (sb_var 0) sa_nil)) (fun _ _ _ _=>zaY) (fun _ _ _ _=>(zui (zaJ (zah c__law_mixed (hr.mono (by decide)) (sa_cons (sb_var 3) (sa_cons (zaI (zaI zad (zcl (sb_var 5) (sb_var 0))) (zcl zad (zaI (sb_var 5) (sb_var 0)))) sa_nil))) zad) (zaI zad (zaJ (zcn (sb_var 3) zad) zad))))))
 za2)
 (zae (zn8 5 (zag zgP) (sb_var 4))
 (zaf (zrG 3 5))))))
 (zae (zhY PassesOwn.never rfl z_range (sa_cons zad (sa_cons (zjx rfl z_min (sa_cons zad (sa_cons (zar z_len (sa_cons (sb_var 1) sa_nil)) sa_nil))) sa_nil)) (zaO (i:=6) sc__law_loosely.nd)
 (zaf (zfR (zpz (sb_var 0) zad)
 (zaf (zoo 3 c__law_turned_over (hr.mono (by decide)) (sa_cons (zah c__law_mixed (hr.mono (by decide)) (sa_cons (zam (sb_var 1) (sb_var 6)) (sa_cons (sb_var 6) sa_nil))) sa_nil)))
 za2)))
 (zaf (zdj 3))))))) ziw
noncomputable abbrev zbv:Stmt:=top 50
theorem sc__law_twinned:FnScope zfw ["_law_many_here","_law_script"] (zab zbv):=⟨rfl,rfl,rfl,by decide+kernel,rfl,by decide+kernel,by decide+kernel⟩
theorem zhM {f:Addr}{fd:FuncData}(F:Fun K "_law_twinned" "_law_twinned" zbv f fd)(hm:mg "_law_twinned"=some (.ref f))(hbi:Binds K fd ["_law_many_here","_law_script"] [])(z_min:mg "min"=none)(z_range:mg "range"=none)(z_len:mg "len"=none)(c__law_numbers:Cal P w K mg base 2 "_law_numbers" zaQ)(c__law_cell_at:Cal P w K mg base 1 "_law_cell_at" zak)(c__law_names:Cal P w K mg base 2 "_law_names" zbV)(c__law_mixed:Cal P w K mg base 1 "_law_mixed" zao):Cal P w K mg base 3 "_law_twinned" zbm:=
 zc4 F hm hbi sc__law_twinned zhG (fun cdv A outer s H E hr=>by unfold zdS;exact (zae (zaA (i:=2) sc__law_twinned.nd (zaB c__law_numbers (hr.mono (by decide)) (sa_cons (sb_var 1) sa_nil)))
 (zae (zaA (i:=3) sc__law_twinned.nd (zag (zjx rfl z_min (sa_cons (sb_var 0) (sa_cons (zaI zad (zaJ (zcn (zah c__law_cell_at (hr.mono (by decide)) (sa_cons (sb_var 1) (sa_cons zad sa_nil))) zad) zad)) sa_nil)))))
 (zae (zaA (i:=4) sc__law_twinned.nd (zaB c__law_names (hr.mono (by decide)) (sa_cons (zah c__law_cell_at (hr.mono (by decide)) (sa_cons (sb_var 1) (sa_cons zad sa_nil))) (sa_cons (sb_var 0) sa_nil))))
 (zae (zjK (i:=5) (R:=["_law_many_here","_law_script","_law_numbers_here","_law_base","_law_names_here","_law_held_here","0_law_k","_law_a","_law_b","_law_p","_law_q","_law_r"]) rfl sc__law_twinned.nd (by decide+kernel) (zep z_range (sa_cons (sb_var 0) sa_nil)) (fun _ _ _ _=>zaY) (fun _ _ _ _=>(zaX (zlX (za9 (sa_cons zgP sa_nil)) (sb_var 1)))))
 (zae (zeO PassesOwn.never rfl z_range (sa_cons (sb_var 3) sa_nil) (zaO (i:=6) sc__law_twinned.nd)
 (zae (zeo 5 (zri (sb_var 6) zad) (zam (sb_var 4) (sb_var 6)) (zam (sb_var 4) (zck (sb_var 6) zad)))
 (zaf (zeo 5 (zri (sb_var 6) zad) (zam (sb_var 4) (zck (sb_var 6) zad)) (zam (sb_var 4) (sb_var 6))))))
 (zae (zhY PassesOwn.never rfl z_range (sa_cons zad (sa_cons (zjx rfl z_min (sa_cons zad (sa_cons (zar z_len (sa_cons (sb_var 1) sa_nil)) sa_nil))) sa_nil)) (zaO (i:=6) sc__law_twinned.nd)
 (zaf (zfR (zpz (sb_var 3) zad)
 (zae (zaA (i:=7) sc__law_twinned.nd (zag (zaJ (zah c__law_mixed (hr.mono (by decide)) (sa_cons (zam (sb_var 1) (sb_var 6)) (sa_cons (sb_var 6) sa_nil))) (sb_var 3))))
 (zae (zaA (i:=8) sc__law_twinned.nd (zag (zaJ (zaI (zaI (sb_var 7) zad) (zaJ (zah c__law_mixed (hr.mono (by decide)) (sa_cons (zam (sb_var 1) (sb_var 6)) (sa_cons (zaI (sb_var 6) zad) sa_nil))) (zck (sb_var 3) zad))) (sb_var 3))))
 (zae (zaA (i:=9) sc__law_twinned.nd (zag (zam (sb_var 4) (sb_var 7))))
 (zae (zaA (i:=10) sc__law_twinned.nd (zag (zam (sb_var 4) (sb_var 8))))
 (zae (zeo 5 (zn1 (zam (zam (sb_var 5) (sb_var 9)) (sb_var 10))) (sb_var 9) (sb_var 10))
 (zaf (zeo 5 (zam (zam (sb_var 5) (sb_var 9)) (sb_var 10)) (sb_var 10) (sb_var 9))))))))
 za2)))
 (zae (zhY PassesOwn.never rfl z_range (sa_cons (sb_var 3) (sa_cons (sb_var 0) sa_nil)) (zaO (i:=6) sc__law_twinned.nd)
 (zae (zaA (i:=9) sc__law_twinned.nd (zag (zam (sb_var 4) (sb_var 6))))
 (zae (zaA (i:=10) sc__law_twinned.nd (zag (zam (sb_var 4) (zaJ (zaJ (zcl (zam (sb_var 2) (zck (sb_var 6) zad)) zad) zad) (sb_var 6)))))
 (zae (zhw PassesOwn.never rfl (zaX (zrn (sb_var 4) zlN (zgR (sb_var 6)))) (zaO (i:=11) sc__law_twinned.nd)
 (zae (zeo 5 (zam (zam (sb_var 5) (sb_var 10)) (sb_var 11)) (sb_var 9) (sb_var 11))
 (zaf (zeo 5 (zam (zam (sb_var 5) (sb_var 10)) (sb_var 11)) (sb_var 11) (sb_var 9)))))
 (zae (zeo 5 (zhx hr (zaJ (zcn (zam (sb_var 2) (zck (sb_var 6) zad)) zad) zad) zad) (sb_var 9) (sb_var 10))
 (zaf (zeo 5 (zam (zam (sb_var 5) (sb_var 9)) (sb_var 10)) (sb_var 10) (sb_var 9))))))))
 (zaf (zdj 5)))))))))) zix
noncomputable abbrev zcJ:Stmt:=top 51
theorem sc__law_held:FnScope ziy ["_law_many_here","_law_script"] (zab zcJ):=⟨rfl,rfl,rfl,by decide+kernel,rfl,by decide+kernel,by decide+kernel⟩
theorem zkd {f:Addr}{fd:FuncData}(F:Fun K "_law_held" "_law_held" zcJ f fd)(hm:mg "_law_held"=some (.ref f))(hbi:Binds K fd ["_law_many_here","_law_script"] [])(c__law_cell_at:Cal P w K mg base 1 "_law_cell_at" zak)(c__law_loosely:Cal P w K mg base 2 "_law_loosely" zbl)(c__law_twinned:Cal P w K mg base 3 "_law_twinned" zbm)(c__law_by_joining:Cal P w K mg base 1 "_law_by_joining" zaS)(c__law_joining:Cal P w K mg base 1 "_law_joining" zbk)(c__law_numbers:Cal P w K mg base 2 "_law_numbers" zaQ)(c__law_mixed:Cal P w K mg base 1 "_law_mixed" zao)(c__law_turned_over:CalP1 P w K mg base 1 "_law_turned_over" zav):Cal P w K mg base 4 "_law_held" zcz:=
 zc4 F hm hbi sc__law_held zj0 (fun cdv A outer s H E hr=>by unfold zfK;exact (zae (zaA (i:=2) sc__law_held.nd (zag (zaJ (zah c__law_cell_at (hr.mono (by decide)) (sa_cons (sb_var 1) (sa_cons zad sa_nil))) zad)))
 (zae (zfR (zgU hr (sb_var 2) zad)
 (zaf (zaD (zaB c__law_loosely (hr.mono (by decide)) (sa_cons (sb_var 0) (sa_cons (sb_var 1) sa_nil)))))
 za2)
 (zae (zfR (zgU hr (sb_var 2) zad)
 (zaf (zaD (zaB c__law_twinned (hr.mono (by decide)) (sa_cons (sb_var 0) (sa_cons (sb_var 1) sa_nil)))))
 za2)
 (zae (zaA (i:=3) sc__law_held.nd (zaB c__law_by_joining (hr.mono (by decide)) (sa_cons (sb_var 0) (sa_cons (zah c__law_joining (hr.mono (by decide)) (sa_cons (sb_var 0) (sa_cons (zah c__law_numbers (hr.mono (by decide)) (sa_cons (sb_var 1) sa_nil)) (sa_cons (zaJ (zcn (zah c__law_cell_at (hr.mono (by decide)) (sa_cons (sb_var 1) (sa_cons zad sa_nil))) zad) zad) sa_nil)))) sa_nil))))
 (zae (zfR (zeL (zn0 (zgU hr (sb_var 2) zad) (zlM (zpz (sb_var 0) zad))))
 (zaf (zoo 3 c__law_turned_over (hr.mono (by decide)) (sa_cons (zah c__law_mixed (hr.mono (by decide)) (sa_cons (zah c__law_cell_at (hr.mono (by decide)) (sa_cons (sb_var 1) (sa_cons zad sa_nil))) (sa_cons zad sa_nil))) sa_nil)))
 za2)
 (zaf (zdj 3)))))))) zlp
noncomputable abbrev zdh:Stmt:=top 52
theorem sc__law_web:FnScope zjp ["_law_held_here"] (zab zdh):=⟨rfl,rfl,rfl,by decide+kernel,rfl,by decide+kernel,by decide+kernel⟩
theorem zlC {f:Addr}{fd:FuncData}(F:Fun K "_law_web" "_law_web" zdh f fd)(hm:mg "_law_web"=some (.ref f))(hbi:Binds K fd ["_law_held_here"] [])(z_int:mg "int"=none):Cal P w K mg base 1 "_law_web" zda:=
 zc4 F hm hbi sc__law_web zlq (fun cdv A outer s H E hr=>by unfold zg9;exact (zae (zaA (i:=1) sc__law_web.nd (zaX (za9 sa_nil)))
 (zae (zs2 0 (zhw PassesOwn.never rfl (zhZ 0) (zaO (i:=2) sc__law_web.nd)
 (zae (zaA (i:=3) sc__law_web.nd (zag zad))
 (zae (zaA (i:=4) sc__law_web.nd (zag zad))
 (zae (zs2 2 (zhw PassesOwn.never rfl (zhZ 2) (zaO (i:=5) sc__law_web.nd)
 (zae (zaA (i:=3) sc__law_web.nd (zag (zaI (sb_var 3) (zcl (sb_var 4) (zn5 z_int (sa_cons (sb_var 5) sa_nil))))))
 (zaf (zaA (i:=4) sc__law_web.nd (zag (zaI (sb_var 4) (sb_var 4))))))))
 (zaf (zkI 1 (zag (sb_var 3)))))))))
 (zaf (zdj 1))))) zmf
noncomputable abbrev zbJ:Stmt:=top 53
theorem zi6:FnScope zgx ["_law_found"] (zab zbJ):=⟨rfl,rfl,rfl,by decide+kernel,rfl,by decide+kernel,by decide+kernel⟩
theorem ziI {f:Addr}{fd:FuncData}(F:Fun K "_law_points" "_law_points" zbJ f fd)(hm:mg "_law_points"=some (.ref f))(hbi:Binds K fd ["_law_found"] [])(z_isinstance:mg "isinstance"=none)(z_list:mg "list"=none)(z_int:mg "int"=none)(z_bool:mg "bool"=none)(z_all:mg "all"=none):Cal P w K mg base 1 "_law_points" zbb:=
 zc4 F hm hbi zi6 ziz (fun cdv A outer s H E hr=>by unfold zej;exact (zae (zfR (zhX (zdV (zmL zmM z_isinstance z_list (by rfl) (sb_var 0))))
 (zaf (zaD (zag zgP)))
 za2)
 (zaf (zaD (zag (zkS rfl z_all (sa_cons (sb_new (zbR (R:=["_law_found"]) rfl (by decide+kernel) (zco (sb_var 0)) (fun _ _ _ _=>zaY) (fun _ _ _ _=>(zeN (zmL zry z_isinstance z_int (by rfl) (sb_var 0)) (zeM (zn1 (zmL zpG z_isinstance z_bool (by rfl) (sb_var 0)))))))) sa_nil))))))) ziW
noncomputable abbrev zcK:Stmt:=top 54
theorem zlD:FnScope ziA ["_law_rows"] (zab zcK):=⟨rfl,rfl,rfl,by decide+kernel,rfl,by decide+kernel,by decide+kernel⟩
theorem zke {f:Addr}{fd:FuncData}(F:Fun K "_law_told" "_law_told" zcK f fd)(hm:mg "_law_told"=some (.ref f))(hbi:Binds K fd ["_law_rows"] [])(z_isinstance:mg "isinstance"=none)(z_list:mg "list"=none)(z_all:mg "all"=none)(c__law_points:Cal P w K mg base 1 "_law_points" zbb):Cal P w K mg base 2 "_law_told" zcA:=
 zc4 F hm hbi zlD zj1 (fun cdv A outer s H E hr=>by unfold zfL;exact (zae (zfR (zhX (zdV (zmL zmM z_isinstance z_list (by rfl) (sb_var 0))))
 (zaf (zaD (zag zgP)))
 za2)
 (zaf (zaD (zag (zkS rfl z_all (sa_cons (sb_new (zbR (R:=["_law_rows"]) rfl (by decide+kernel) (zco (sb_var 0)) (fun _ _ _ _=>zaY) (fun _ _ _ _=>(zah c__law_points (hr.mono (by decide)) (sa_cons (sb_var 0) sa_nil))))) sa_nil))))))) zlr
noncomputable abbrev zbK:Stmt:=top 55
theorem zi7:FnScope zgE ["_law_rows"] (zab zbK):=⟨rfl,rfl,rfl,by decide+kernel,rfl,by decide+kernel,by decide+kernel⟩
theorem ziJ {f:Addr}{fd:FuncData}(F:Fun K "_law_threes" "_law_threes" zbK f fd)(hm:mg "_law_threes"=some (.ref f))(hbi:Binds K fd ["_law_rows"] [])(z_len:mg "len"=none)(z_all:mg "all"=none)(c__law_told:Cal P w K mg base 2 "_law_told" zcA):Cal P w K mg base 3 "_law_threes" zbG:=
 zc4 F hm hbi zi7 ziC (fun cdv A outer s H E hr=>by unfold zek;exact (zaf (zaD (zag (zeN (zah c__law_told (hr.mono (by decide)) (sa_cons (sb_var 0) sa_nil)) (zeM (zkS rfl z_all (sa_cons (sb_new (zbR (R:=["_law_rows"]) rfl (by decide+kernel) (zco (sb_var 0)) (fun _ _ _ _=>zaY) (fun _ _ _ _=>(zhx hr (zar z_len (sa_cons (sb_var 0) sa_nil)) zad)))) sa_nil)))))))) ziX
noncomputable abbrev zbL:Stmt:=top 56
theorem sc__law_turned:FnScope zgF ["_law_web_here","_law_rows","_law_line"] (zab zbL):=⟨rfl,rfl,rfl,by decide+kernel,rfl,by decide+kernel,by decide+kernel⟩
theorem ziK {f:Addr}{fd:FuncData}(F:Fun K "_law_turned" "_law_turned" zbL f fd)(hm:mg "_law_turned"=some (.ref f))(hbi:Binds K fd ["_law_web_here","_law_rows","_law_line"] [])(z_list:mg "list"=none)(c_other_web:Cal P w K mg base 3 "other_web" zbc)(c_is_joining:Cal P w K mg base 4 "is_joining" zaP)(c_line_of_four:Cal P w K mg base 5 "line_of_four" zaE)(c_is_line_of_four:Cal P w K mg base 6 "is_line_of_four" zax)(c_joining:Cal P w K mg base 4 "joining" zbB):Cal P w K mg base 7 "_law_turned" zbH:=
 zc4 F hm hbi sc__law_turned ziD (fun cdv A outer s H E hr=>by unfold zel;exact (zae (zaA (i:=3) sc__law_turned.nd (zaB c_other_web (hr.mono (by decide)) (sa_cons (sb_new (sn_list z_list (sa_cons (sb_var 0) sa_nil))) sa_nil)))
 (zae (zfR (zlL (sb_var 1))
 (zae (zjK (i:=4) (R:=["_law_web_here","_law_rows","_law_line","_law_turned_here","_law_back"]) rfl sc__law_turned.nd (by decide+kernel) (zco (sb_var 1)) (fun _ _ _ _=>zaY) (fun _ _ _ _=>(zaX (za9 (sa_cons (zck zad (zam (sb_var 0) zad)) (sa_cons (zam (sb_var 0) zad) (sa_cons (zam (sb_var 0) zad) sa_nil)))))))
 (zaf (zaD (zag (zeN (zk0 (zah c_is_joining (hr.mono (by decide)) (sa_cons (sb_new (sn_list z_list (sa_cons (sb_var 3) sa_nil))) (sa_cons (sb_var 4) sa_nil)))) (zeM (znY (zah c_line_of_four (hr.mono (by decide)) (sa_cons (sb_new (sn_list z_list (sa_cons (sb_var 3) sa_nil))) sa_nil)))))))))
 za2)
 (zae (zaA (i:=4) sc__law_turned.nd (zaX (za9 (sa_cons (zam (sb_var 2) zad) (sa_cons (zam (sb_var 2) zad) (sa_cons (zam (sb_var 2) zad) (sa_cons (zam (sb_var 2) zad) sa_nil)))))))
 (zaf (zaD (zag (zeN (zk0 (zah c_is_line_of_four (hr.mono (by decide)) (sa_cons (sb_new (sn_list z_list (sa_cons (sb_var 3) sa_nil))) (sa_cons (sb_var 4) sa_nil)))) (zeM (znY (zah c_joining (hr.mono (by decide)) (sa_cons (sb_new (sn_list z_list (sa_cons (sb_var 3) sa_nil))) sa_nil)))))))))))) ziY
noncomputable abbrev zb3:Stmt:=top 57
theorem zkf:FnScope zhr ["_law_x","_law_many_here","_law_start","_law_more"] (zab zb3):=⟨rfl,rfl,rfl,by decide+kernel,rfl,by decide+kernel,by decide+kernel⟩
theorem zi8 {f:Addr}{fd:FuncData}(F:Fun K "_law_moved" "_law_moved" zb3 f fd)(hm:mg "_law_moved"=some (.ref f))(hbi:Binds K fd ["_law_x","_law_many_here","_law_start","_law_more"] []):Cal P w K mg base 1 "_law_moved" zbC:=
 zc4 F hm hbi zkf ziZ (fun cdv A outer s H E hr=>by unfold ze2;exact (zae (zfR (zpy (sb_var 0) (sb_var 1))
 (zaf (zaD (zag (zaI (sb_var 0) (sb_var 2)))))
 za2)
 (zaf (zaD (zag (zaI (zck (sb_var 0) (sb_var 1)) (sb_var 3))))))) zj3
noncomputable abbrev zdi:Stmt:=top 58
theorem sc__law_put:FnScope zjq ["_law_one","_law_other","_law_rows","_law_mark"] (zab zdi):=⟨rfl,rfl,rfl,by decide+kernel,rfl,by decide+kernel,by decide+kernel⟩
theorem zlE {f:Addr}{fd:FuncData}(F:Fun K "_law_put" "_law_put" zdi f fd)(hm:mg "_law_put"=some (.ref f))(hbi:Binds K fd ["_law_one","_law_other","_law_rows","_law_mark"] [])(z_len:mg "len"=none)(z_range:mg "range"=none)(c__law_moved:Cal P w K mg base 1 "_law_moved" zbC):Cal P w K mg base 2 "_law_put" zdb:=
 zc4 F hm hbi sc__law_put zlt (fun cdv A outer s H E hr=>by unfold zha;exact (zae (zaA (i:=4) sc__law_put.nd (zag (zaI (zar z_len (sa_cons (sb_var 0) sa_nil)) (zar z_len (sa_cons (sb_var 1) sa_nil)))))
 (zae (zaA (i:=5) sc__law_put.nd (zaX (za9 sa_nil)))
 (zae (zeO PassesOwn.never rfl z_range (sa_cons zad sa_nil) (zaO (i:=6) sc__law_put.nd)
 (zae (zaA (i:=7) sc__law_put.nd (zag (zam (sb_new (za9 (sa_cons (zar z_len (sa_cons (sb_var 0) sa_nil)) (sa_cons (zar z_len (sa_cons (sb_var 1) sa_nil)) sa_nil)))) (sb_var 6))))
 (zae (zaA (i:=8) sc__law_put.nd (zag (zaI (sb_var 4) (zar z_len (sa_cons (sb_var 5) sa_nil)))))
 (zaf (zhw PassesOwn.never rfl (zoD 2 (sb_var 6)) (zaO (i:=9) sc__law_put.nd)
 (zae (zaA (i:=10) sc__law_put.nd (zaB c__law_moved (hr.mono (by decide)) (sa_cons (zam (sb_var 9) zad) (sa_cons (sb_var 7) (sa_cons (zcl (sb_var 6) (zar z_len (sa_cons (sb_var 0) sa_nil))) (sa_cons (sb_var 8) sa_nil))))))
 (zaf (zkI 5 (zaX (za9 (sa_cons (zam (sb_var 9) zad) (sa_cons (sb_var 10) (sa_cons (zah c__law_moved (hr.mono (by decide)) (sa_cons (zam (sb_var 9) zad) (sa_cons (sb_var 7) (sa_cons (zcl (sb_var 6) (zar z_len (sa_cons (sb_var 0) sa_nil))) (sa_cons (sb_var 8) sa_nil))))) sa_nil)))))))))))))
 (zae (zaA (i:=11) sc__law_put.nd (zaX (za9 (sa_cons (zck (zaI (sb_var 4) (zar z_len (sa_cons (sb_var 0) sa_nil))) zad) (sa_cons (zck (zaI (sb_var 4) (zar z_len (sa_cons (sb_var 5) sa_nil))) zad) sa_nil)))))
 (zae (zfR (zgU hr (zar z_len (sa_cons (sb_var 0) sa_nil)) zad)
 (zaf (zn8 11 (zag zad) zad))
 za2)
 (zae (zfR (zgU hr (zar z_len (sa_cons (sb_var 1) sa_nil)) zad)
 (zaf (zn8 11 (zag (zar z_len (sa_cons (sb_var 0) sa_nil))) zad))
 za2)
 (zaf (ztc (sb_new (zjb (sb_var 5) (sb_new (za9 (sa_cons (sb_new (zjb (sb_new (za9 (sa_cons (sb_var 3) sa_nil))) (sb_var 11))) sa_nil)))))))))))))) zmh
noncomputable abbrev zcL:Stmt:=top 59
theorem sc__law_both:FnScope ziE ["_law_one","_law_other","_law_rows","_law_lines","_law_mark"] (zab zcL):=⟨rfl,rfl,rfl,by decide+kernel,rfl,by decide+kernel,by decide+kernel⟩
theorem zkg {f:Addr}{fd:FuncData}(F:Fun K "_law_both" "_law_both" zcL f fd)(hm:mg "_law_both"=some (.ref f))(hbi:Binds K fd ["_law_one","_law_other","_law_rows","_law_lines","_law_mark"] [])(z_list:mg "list"=none)(z_len:mg "len"=none)(z_range:mg "range"=none)(c_beside:Cal P w K mg base 2 "beside" zdw)(c_joined:Cal P w K mg base 4 "joined" zfc)(c_joining:Cal P w K mg base 4 "joining" zbB)(c_is_line_of_four:Cal P w K mg base 6 "is_line_of_four" zax)(c_is_joining:Cal P w K mg base 4 "is_joining" zaP)(c__law_put:Cal P w K mg base 2 "_law_put" zdb):Cal P w K mg base 7 "_law_both" zcC:=
 zc4 F hm hbi sc__law_both zj4 (fun cdv A outer s H E hr=>by unfold zfN;exact (zae (zaA (i:=5) sc__law_both.nd (zp0 c_beside c_joined (hr.mono (by decide)) (hr.mono (by decide)) (sb_var 4) (by intro _ _;rfl) (sa_cons (sb_new (sn_list z_list (sa_cons (sb_var 0) sa_nil))) (sa_cons (sb_new (sn_list z_list (sa_cons (sb_var 1) sa_nil))) sa_nil))))
 (zae (zeO PassesOwn.never rfl z_range (sa_cons zad sa_nil) (zaO (i:=6) sc__law_both.nd)
 (zaf (zfR (znZ (zam (sb_var 2) (sb_var 6)))
 (zae (zkL (i:=7) (R:=["_law_one","_law_other","_law_rows","_law_lines","_law_mark","_law_web_here","_law_k","_law_line"]) rfl sc__law_both.nd (by decide+kernel) (zco (zam (sb_var 3) (sb_var 6))) (fun _ _ _ _=>zaY) (fun _ _ _ _=>(zaI (sb_var 0) (zcl (sb_var 7) (zar z_len (sa_cons (sb_var 1) sa_nil))))))
 (zaf (zaD (zag (zeN (znY (zah c_joining (hr.mono (by decide)) (sa_cons (sb_new (sn_list z_list (sa_cons (sb_var 5) sa_nil))) sa_nil))) (zeM (zk0 (zah c_is_line_of_four (hr.mono (by decide)) (sa_cons (sb_new (sn_list z_list (sa_cons (sb_var 5) sa_nil))) (sa_cons (sb_var 7) sa_nil))))))))))
 za2)))
 (zae (zfR (zeL (zne (zgU hr (sb_var 0) (sb_new (za9 sa_nil))) (zkG (zgU hr (sb_var 1) (sb_new (za9 sa_nil))))))
 (zaf (zaD (zag (zk0 (zah c_is_joining (hr.mono (by decide)) (sa_cons (sb_new (sn_list z_list (sa_cons (sb_var 5) sa_nil))) (sa_cons (sb_new (zjb (zam (sb_var 2) zad) (zam (sb_var 2) zad))) sa_nil)))))))
 za2)
 (zaf (zaD (zag (zk0 (zah c_is_joining (hr.mono (by decide)) (sa_cons (sb_new (sn_list z_list (sa_cons (sb_var 5) sa_nil))) (sa_cons (zah c__law_put (hr.mono (by decide)) (sa_cons (sb_var 0) (sa_cons (sb_var 1) (sa_cons (sb_var 2) (sa_cons (sb_var 4) sa_nil))))) sa_nil))))))))))) zlu
noncomputable abbrev zkh:Stmt:=top 60
theorem sc_law:FnScope ztF ["_law_script"] (zab zkh):=⟨rfl,rfl,rfl,by decide+kernel,rfl,by decide+kernel,by decide+kernel⟩
theorem ztK {f:Addr}{fd:FuncData}(F:Fun K "law" "law" zkh f fd)(z_range:mg "range"=none)(z_list:mg "list"=none)(z_len:mg "len"=none)(c__law_cell_at:Cal P w K mg base 1 "_law_cell_at" zak)(c__law_web:Cal P w K mg base 1 "_law_web" zda)(c__law_held:Cal P w K mg base 4 "_law_held" zcz)(c__law_many:Cal P w K mg base 2 "_law_many" zcx)(c_joining:Cal P w K mg base 4 "joining" zbB)(c_line_of_four:Cal P w K mg base 5 "line_of_four" zaE)(c__law_points:Cal P w K mg base 1 "_law_points" zbb)(c__law_threes:Cal P w K mg base 3 "_law_threes" zbG)(c__law_turned:Cal P w K mg base 7 "_law_turned" zbH)(c__law_both:Cal P w K mg base 7 "_law_both" zcC):FnOk P w K mg base CX0 8 f fd ["_law_script"] (spV K zs6):=
 okV F sc_law zsd (fun cdv A outer s H E hr=>by unfold zsb;exact (zae (zaA (i:=1) sc_law.nd (zaX (za9 sa_nil)))
 (zae (zeO PassesOwn.never rfl z_range (sa_cons zad sa_nil) (zaO (i:=2) sc_law.nd)
 (zae (zaA (i:=3) sc_law.nd (zaX (zjb (sb_new (za9 (sa_cons (zcn (zah c__law_cell_at (hr.mono (by decide)) (sa_cons (sb_var 0) (sa_cons zad sa_nil))) (zaI zad (zcl zad (sb_var 2)))) (sa_cons (zcn (zah c__law_cell_at (hr.mono (by decide)) (sa_cons (sb_var 0) (sa_cons zad sa_nil))) (zaI zad (zcl zad (sb_var 2)))) sa_nil)))) (sb_new (ztb (sb_var 0) (zgR (zaI zad (sb_var 2))) (zgR zad) (zgR zad))))))
 (zaf (zkI 1 (zaB c__law_web (hr.mono (by decide)) (sa_cons (zah c__law_held (hr.mono (by decide)) (sa_cons (zah c__law_many (hr.mono (by decide)) (sa_cons (sb_var 3) (sa_cons zad sa_nil))) (sa_cons (sb_var 3) sa_nil))) sa_nil))))))
 (zae (zov (i:=4) (R:=["_law_script","_law_webs","_law_k","_law_cells","_law_rows","_law_lines","_law_mark"]) rfl sc_law.nd (by decide+kernel) (zco (sb_var 1)) (fun _ _ _ _=>zaY) (fun _ _ _ _=>(zah c_joining (hr.mono (by decide)) (sa_cons (sb_new (sn_list z_list (sa_cons (sb_var 0) sa_nil))) sa_nil))))
 (zae (zov (i:=5) (R:=["_law_script","_law_webs","_law_k","_law_cells","_law_rows","_law_lines","_law_mark"]) rfl sc_law.nd (by decide+kernel) (zco (sb_var 1)) (fun _ _ _ _=>zaY) (fun _ _ _ _=>(zah c_line_of_four (hr.mono (by decide)) (sa_cons (sb_new (sn_list z_list (sa_cons (sb_var 0) sa_nil))) sa_nil))))
 (zae (zeO PassesOwn.never rfl z_range (sa_cons zad sa_nil) (zaO (i:=2) sc_law.nd)
 (zae (zfR (zeL (zn0 (znZ (zam (sb_var 4) (sb_var 2))) (zlM (zeL (zne (zhX (zdV (zah c__law_points (hr.mono (by decide)) (sa_cons (zam (sb_var 5) (sb_var 2)) sa_nil)))) (zkG (zpC hr (zar z_len (sa_cons (zam (sb_var 5) (sb_var 2)) sa_nil)) zad)))))))
 (zaf (zaD (zag zgP)))
 za2)
 (zaf (zfR (zeL (zn0 (zlL (zam (sb_var 4) (sb_var 2))) (zlM (zhX (zdV (zah c__law_threes (hr.mono (by decide)) (sa_cons (zam (sb_var 4) (sb_var 2)) sa_nil)))))))
 (zaf (zaD (zag zgP)))
 za2))))
 (zae (zfR (zhX (zdV (zah c__law_turned (hr.mono (by decide)) (sa_cons (zam (sb_var 1) zad) (sa_cons (zam (sb_var 4) zad) (sa_cons (zam (sb_var 5) zad) sa_nil))))))
 (zaf (zaD (zag zgP)))
 za2)
 (zae (zaA (i:=6) sc_law.nd (zag (zaJ (zcn (zah c__law_cell_at (hr.mono (by decide)) (sa_cons (sb_var 0) (sa_cons zad sa_nil))) zad) zad)))
 (zaf (zaD (zaB c__law_both (hr.mono (by decide)) (sa_cons (zam (sb_var 1) zad) (sa_cons (zam (sb_var 1) zad) (sa_cons (sb_var 4) (sa_cons (sb_var 5) (sa_cons (sb_var 6) sa_nil)))))))))))))))) ztI
end
theorem ln1 {α:Type}{l:List α}(h:l.length=1):∃ x0,l=[x0]:=by match l,h with| [x0],_=>exact ⟨x0,rfl⟩
theorem ln2 {α:Type}{l:List α}(h:l.length=2):∃ x0 x1,l=[x0,x1]:=by match l,h with| [x0,x1],_=>exact ⟨x0,x1,rfl⟩
theorem ln3 {α:Type}{l:List α}(h:l.length=3):∃ x0 x1 x2,l=[x0,x1,x2]:=by match l,h with| [x0,x1,x2],_=>exact ⟨x0,x1,x2,rfl⟩
theorem ln4 {α:Type}{l:List α}(h:l.length=4):∃ x0 x1 x2 x3,l=[x0,x1,x2,x3]:=by match l,h with| [x0,x1,x2,x3],_=>exact ⟨x0,x1,x2,x3,rfl⟩
theorem ln5 {α:Type}{l:List α}(h:l.length=5):∃ x0 x1 x2 x3 x4,l=[x0,x1,x2,x3,x4]:=by match l,h with| [x0,x1,x2,x3,x4],_=>exact ⟨x0,x1,x2,x3,x4,rfl⟩
theorem ztL {l:PySem.W.OpenLaw}{w:World}{K:PySem.W.Frag}{h:Heap}{mg:Str->Option Value}{fa:Addr}{f1 f2 f3 f4 f5 f6 f7 f8 f9 f10 f11 f12 f13 f14 f15 f16 f17 f18 f19 f20 f21 f22 f23 f24 f25 f26 f27 f28 f29 f30 f31 f32 f33 f34 f35 f36 f37 f38 f39 f40 f41 f42 f43 f44 f45 f46 f47 f48 f49 f50 f51:Addr}(X:K.In h)(G:h.Ns mainGlobals mg)(hfa:mg "law"=some (.ref fa))
  {od1 an1 od2 an2 od3 an3 od4 an4 od5 an5 od6 an6 od7 an7 od8 an8 od9 an9 od10 an10 od11 an11 od12 an12 od13 an13 od14 an14 od15 an15 od16 an16 od17 an17 od18 an18 od19 an19 od20 an20 od21 an21 od22 an22 od23 an23 od24 an24 od25 an25 od26 an26 od27 an27 od28 an28 od29 an29 od30 an30 od31 an31 od32 an32 od33 an33 od34 an34 od35 an35 od36 an36 od37 an37 od38 an38 od39 an39 od40 an40 od41 an41 od42 an42 od43 an43 od44 an44 od45 an45 od46 an46 od47 an47 od48 an48 od49 an49 od50 an50 od51 an51:Option Addr}{sl1 sl2 sl3 sl4 sl5 sl6 sl7 sl8 sl9 sl10 sl11 sl12 sl13 sl14 sl15 sl16 sl17 sl18 sl19 sl20 sl21 sl22 sl23 sl24 sl25 sl26 sl27 sl28 sl29 sl30 sl31 sl32 sl33 sl34 sl35 sl36 sl37 sl38 sl39 sl40 sl41 sl42 sl43 sl44 sl45 sl46 sl47 sl48 sl49 sl50 sl51:Array (Option Value)}{oc1 kV1 dc1 pm1 cd1 ct1 oc2 kV2 dc2 pm2 cd2 ct2 oc3 kV3 dc3 pm3 cd3 ct3 oc4 kV4 dc4 pm4 cd4 ct4 oc5 kV5 dc5 pm5 cd5 ct5 oc6 kV6 dc6 pm6 cd6 ct6 oc7 kV7 dc7 pm7 cd7 ct7 oc8 kV8 dc8 pm8 cd8 ct8 oc9 kV9 dc9 pm9 cd9 ct9 oc10 kV10 dc10 pm10 cd10 ct10 oc11 kV11 dc11 pm11 cd11 ct11 oc12 kV12 dc12 pm12 cd12 ct12 oc13 kV13 dc13 pm13 cd13 ct13 oc14 kV14 dc14 pm14 cd14 ct14 oc15 kV15 dc15 pm15 cd15 ct15 oc16 kV16 dc16 pm16 cd16 ct16 oc17 kV17 dc17 pm17 cd17 ct17 oc18 kV18 dc18 pm18 cd18 ct18 oc19 kV19 dc19 pm19 cd19 ct19 oc20 kV20 dc20 pm20 cd20 ct20 oc21 kV21 dc21 pm21 cd21 ct21 oc22 kV22 dc22 pm22 cd22 ct22 oc23 kV23 dc23 pm23 cd23 ct23 oc24 kV24 dc24 pm24 cd24 ct24 oc25 kV25 dc25 pm25 cd25 ct25 oc26 kV26 dc26 pm26 cd26 ct26 oc27 kV27 dc27 pm27 cd27 ct27 oc28 kV28 dc28 pm28 cd28 ct28 oc29 kV29 dc29 pm29 cd29 ct29 oc30 kV30 dc30 pm30 cd30 ct30 oc31 kV31 dc31 pm31 cd31 ct31 oc32 kV32 dc32 pm32 cd32 ct32 oc33 kV33 dc33 pm33 cd33 ct33 oc34 kV34 dc34 pm34 cd34 ct34 oc35 kV35 dc35 pm35 cd35 ct35 oc36 kV36 dc36 pm36 cd36 ct36 oc37 kV37 dc37 pm37 cd37 ct37 oc38 kV38 dc38 pm38 cd38 ct38 oc39 kV39 dc39 pm39 cd39 ct39 oc40 kV40 dc40 pm40 cd40 ct40 oc41 kV41 dc41 pm41 cd41 ct41 oc42 kV42 dc42 pm42 cd42 ct42 oc43 kV43 dc43 pm43 cd43 ct43 oc44 kV44 dc44 pm44 cd44 ct44 oc45 kV45 dc45 pm45 cd45 ct45 oc46 kV46 dc46 pm46 cd46 ct46 oc47 kV47 dc47 pm47 cd47 ct47 oc48 kV48 dc48 pm48 cd48 ct48 oc49 kV49 dc49 pm49 cd49 ct49 oc50 kV50 dc50 pm50 cd50 ct50 oc51 kV51 dc51 pm51 cd51 ct51:Value}
  (a1:PySem.W.nsIn K mainGlobals "has"=some (some (.ref f1)))(l1:K.lookup f1=some ⟨oc1,od1,.func (PySem.W.fnOf "has" "has" (zal znv) (zaj znv) (zab znv) .none kV1 dc1 pm1 an1 cd1 ct1),sl1⟩)(c1:PySem.W.codeIn K cd1 "has"=true)(k1:PySem.W.keepIn K (.ref f1)=true)
  (a2:PySem.W.nsIn K mainGlobals "alone"=some (some (.ref f2)))(l2:K.lookup f2=some ⟨oc2,od2,.func (PySem.W.fnOf "alone" "alone" (zal zhb) (zaj zhb) (zab zhb) .none kV2 dc2 pm2 an2 cd2 ct2),sl2⟩)(c2:PySem.W.codeIn K cd2 "alone"=true)(k2:PySem.W.keepIn K (.ref f2)=true)
  (a3:PySem.W.nsIn K mainGlobals "together"=some (some (.ref f3)))(l3:K.lookup f3=some ⟨oc3,od3,.func (PySem.W.fnOf "together" "together" (zal zdc) (zaj zdc) (zab zdc) .none kV3 dc3 pm3 an3 cd3 ct3),sl3⟩)(c3:PySem.W.codeIn K cd3 "together"=true)(k3:PySem.W.keepIn K (.ref f3)=true)
  (a4:PySem.W.nsIn K mainGlobals "set_of"=some (some (.ref f4)))(l4:K.lookup f4=some ⟨oc4,od4,.func (PySem.W.fnOf "set_of" "set_of" (zal zfd) (zaj zfd) (zab zfd) .none kV4 dc4 pm4 an4 cd4 ct4),sl4⟩)(c4:PySem.W.codeIn K cd4 "set_of"=true)(k4:PySem.W.keepIn K (.ref f4)=true)
  (a5:PySem.W.nsIn K mainGlobals "points_of"=some (some (.ref f5)))(l5:K.lookup f5=some ⟨oc5,od5,.func (PySem.W.fnOf "points_of" "points_of" (zal zcD) (zaj zcD) (zab zcD) .none kV5 dc5 pm5 an5 cd5 ct5),sl5⟩)(c5:PySem.W.codeIn K cd5 "points_of"=true)(k5:PySem.W.keepIn K (.ref f5)=true)
  (a6:PySem.W.nsIn K mainGlobals "first_of"=some (some (.ref f6)))(l6:K.lookup f6=some ⟨oc6,od6,.func (PySem.W.fnOf "first_of" "first_of" (zal zdd) (zaj zdd) (zab zdd) .none kV6 dc6 pm6 an6 cd6 ct6),sl6⟩)(c6:PySem.W.codeIn K cd6 "first_of"=true)(k6:PySem.W.keepIn K (.ref f6)=true)
  (a7:PySem.W.nsIn K mainGlobals "without"=some (some (.ref f7)))(l7:K.lookup f7=some ⟨oc7,od7,.func (PySem.W.fnOf "without" "without" (zal zd4) (zaj zd4) (zab zd4) .none kV7 dc7 pm7 an7 cd7 ct7),sl7⟩)(c7:PySem.W.codeIn K cd7 "without"=true)(k7:PySem.W.keepIn K (.ref f7)=true)
  (a8:PySem.W.nsIn K mainGlobals "refuse_size"=some (some (.ref f8)))(l8:K.lookup f8=some ⟨oc8,od8,.func (PySem.W.fnOf "refuse_size" "refuse_size" (zal zbI) (zaj zbI) (zab zbI) .none kV8 dc8 pm8 an8 cd8 ct8),sl8⟩)(c8:PySem.W.codeIn K cd8 "refuse_size"=true)(k8:PySem.W.keepIn K (.ref f8)=true)
  (a9:PySem.W.nsIn K mainGlobals "tied"=some (some (.ref f9)))(l9:K.lookup f9=some ⟨oc9,od9,.func (PySem.W.fnOf "tied" "tied" (zal zjr) (zaj zjr) (zab zjr) .none kV9 dc9 pm9 an9 cd9 ct9),sl9⟩)(c9:PySem.W.codeIn K cd9 "tied"=true)(k9:PySem.W.keepIn K (.ref f9)=true)
  (a10:PySem.W.nsIn K mainGlobals "ties_of"=some (some (.ref f10)))(l10:K.lookup f10=some ⟨oc10,od10,.func (PySem.W.fnOf "ties_of" "ties_of" (zal zd5) (zaj zd5) (zab zd5) .none kV10 dc10 pm10 an10 cd10 ct10),sl10⟩)(c10:PySem.W.codeIn K cd10 "ties_of"=true)(k10:PySem.W.keepIn K (.ref f10)=true)
  (a11:PySem.W.nsIn K mainGlobals "whole_of"=some (some (.ref f11)))(l11:K.lookup f11=some ⟨oc11,od11,.func (PySem.W.fnOf "whole_of" "whole_of" (zal zde) (zaj zde) (zab zde) .none kV11 dc11 pm11 an11 cd11 ct11),sl11⟩)(c11:PySem.W.codeIn K cd11 "whole_of"=true)(k11:PySem.W.keepIn K (.ref f11)=true)
  (a12:PySem.W.nsIn K mainGlobals "other_web"=some (some (.ref f12)))(l12:K.lookup f12=some ⟨oc12,od12,.func (PySem.W.fnOf "other_web" "other_web" (zal zcE) (zaj zcE) (zab zcE) .none kV12 dc12 pm12 an12 cd12 ct12),sl12⟩)(c12:PySem.W.codeIn K cd12 "other_web"=true)(k12:PySem.W.keepIn K (.ref f12)=true)
  (a13:PySem.W.nsIn K mainGlobals "places_of_mates"=some (some (.ref f13)))(l13:K.lookup f13=some ⟨oc13,od13,.func (PySem.W.fnOf "places_of_mates" "places_of_mates" (zal zaT) (zaj zaT) (zab zaT) .none kV13 dc13 pm13 an13 cd13 ct13),sl13⟩)(c13:PySem.W.codeIn K cd13 "places_of_mates"=true)(k13:PySem.W.keepIn K (.ref f13)=true)
  (a14:PySem.W.nsIn K mainGlobals "part"=some (some (.ref f14)))(l14:K.lookup f14=some ⟨oc14,od14,.func (PySem.W.fnOf "part" "part" (zal zjs) (zaj zjs) (zab zjs) .none kV14 dc14 pm14 an14 cd14 ct14),sl14⟩)(c14:PySem.W.codeIn K cd14 "part"=true)(k14:PySem.W.keepIn K (.ref f14)=true)
  (a15:PySem.W.nsIn K mainGlobals "beside"=some (some (.ref f15)))(l15:K.lookup f15=some ⟨oc15,od15,.func (PySem.W.fnOf "beside" "beside" (zal zfe) (zaj zfe) (zab zfe) .none kV15 dc15 pm15 an15 cd15 ct15),sl15⟩)(c15:PySem.W.codeIn K cd15 "beside"=true)(k15:PySem.W.keepIn K (.ref f15)=true)
  (a16:PySem.W.nsIn K mainGlobals "joined"=some (some (.ref f16)))(l16:K.lookup f16=some ⟨oc16,od16,.func (PySem.W.fnOf "joined" "joined" (zal zff) (zaj zff) (zab zff) .none kV16 dc16 pm16 an16 cd16 ct16),sl16⟩)(c16:PySem.W.codeIn K cd16 "joined"=true)(k16:PySem.W.keepIn K (.ref f16)=true)
  (a17:PySem.W.nsIn K mainGlobals "are_points"=some (some (.ref f17)))(l17:K.lookup f17=some ⟨oc17,od17,.func (PySem.W.fnOf "are_points" "are_points" (zal zbY) (zaj zbY) (zab zbY) .none kV17 dc17 pm17 an17 cd17 ct17),sl17⟩)(c17:PySem.W.codeIn K cd17 "are_points"=true)(k17:PySem.W.keepIn K (.ref f17)=true)
  (a18:PySem.W.nsIn K mainGlobals "pairs_of"=some (some (.ref f18)))(l18:K.lookup f18=some ⟨oc18,od18,.func (PySem.W.fnOf "pairs_of" "pairs_of" (zal zdf) (zaj zdf) (zab zdf) .none kV18 dc18 pm18 an18 cd18 ct18),sl18⟩)(c18:PySem.W.codeIn K cd18 "pairs_of"=true)(k18:PySem.W.keepIn K (.ref f18)=true)
  (a19:PySem.W.nsIn K mainGlobals "neighbours"=some (some (.ref f19)))(l19:K.lookup f19=some ⟨oc19,od19,.func (PySem.W.fnOf "neighbours" "neighbours" (zal zbZ) (zaj zbZ) (zab zbZ) .none kV19 dc19 pm19 an19 cd19 ct19),sl19⟩)(c19:PySem.W.codeIn K cd19 "neighbours"=true)(k19:PySem.W.keepIn K (.ref f19)=true)
  (a20:PySem.W.nsIn K mainGlobals "is_line"=some (some (.ref f20)))(l20:K.lookup f20=some ⟨oc20,od20,.func (PySem.W.fnOf "is_line" "is_line" (zal zd6) (zaj zd6) (zab zd6) .none kV20 dc20 pm20 an20 cd20 ct20),sl20⟩)(c20:PySem.W.codeIn K cd20 "is_line"=true)(k20:PySem.W.keepIn K (.ref f20)=true)
  (a21:PySem.W.nsIn K mainGlobals "joined_between"=some (some (.ref f21)))(l21:K.lookup f21=some ⟨oc21,od21,.func (PySem.W.fnOf "joined_between" "joined_between" (zal za7) (zaj za7) (zab za7) .none kV21 dc21 pm21 an21 cd21 ct21),sl21⟩)(c21:PySem.W.codeIn K cd21 "joined_between"=true)(k21:PySem.W.keepIn K (.ref f21)=true)
  (a22:PySem.W.nsIn K mainGlobals "web_of_joining"=some (some (.ref f22)))(l22:K.lookup f22=some ⟨oc22,od22,.func (PySem.W.fnOf "web_of_joining" "web_of_joining" (zal za8) (zaj za8) (zab za8) .none kV22 dc22 pm22 an22 cd22 ct22),sl22⟩)(c22:PySem.W.codeIn K cd22 "web_of_joining"=true)(k22:PySem.W.keepIn K (.ref f22)=true)
  (a23:PySem.W.nsIn K mainGlobals "names_two"=some (some (.ref f23)))(l23:K.lookup f23=some ⟨oc23,od23,.func (PySem.W.fnOf "names_two" "names_two" (zal zcF) (zaj zcF) (zab zcF) .none kV23 dc23 pm23 an23 cd23 ct23),sl23⟩)(c23:PySem.W.codeIn K cd23 "names_two"=true)(k23:PySem.W.keepIn K (.ref f23)=true)
  (a24:PySem.W.nsIn K mainGlobals "are_rows_of_joining"=some (some (.ref f24)))(l24:K.lookup f24=some ⟨oc24,od24,.func (PySem.W.fnOf "are_rows_of_joining" "are_rows_of_joining" (zal zay) (zaj zay) (zab zay) .none kV24 dc24 pm24 an24 cd24 ct24),sl24⟩)(c24:PySem.W.codeIn K cd24 "are_rows_of_joining"=true)(k24:PySem.W.keepIn K (.ref f24)=true)
  (a25:PySem.W.nsIn K mainGlobals "is_joining"=some (some (.ref f25)))(l25:K.lookup f25=some ⟨oc25,od25,.func (PySem.W.fnOf "is_joining" "is_joining" (zal zb0) (zaj zb0) (zab zb0) .none kV25 dc25 pm25 an25 cd25 ct25),sl25⟩)(c25:PySem.W.codeIn K cd25 "is_joining"=true)(k25:PySem.W.keepIn K (.ref f25)=true)
  (a26:PySem.W.nsIn K mainGlobals "are_twins"=some (some (.ref f26)))(l26:K.lookup f26=some ⟨oc26,od26,.func (PySem.W.fnOf "are_twins" "are_twins" (zal zcG) (zaj zcG) (zab zcG) .none kV26 dc26 pm26 an26 cd26 ct26),sl26⟩)(c26:PySem.W.codeIn K cd26 "are_twins"=true)(k26:PySem.W.keepIn K (.ref f26)=true)
  (a27:PySem.W.nsIn K mainGlobals "twins_in"=some (some (.ref f27)))(l27:K.lookup f27=some ⟨oc27,od27,.func (PySem.W.fnOf "twins_in" "twins_in" (zal zdg) (zaj zdg) (zab zdg) .none kV27 dc27 pm27 an27 cd27 ct27),sl27⟩)(c27:PySem.W.codeIn K cd27 "twins_in"=true)(k27:PySem.W.keepIn K (.ref f27)=true)
  (a28:PySem.W.nsIn K mainGlobals "joining"=some (some (.ref f28)))(l28:K.lookup f28=some ⟨oc28,od28,.func (PySem.W.fnOf "joining" "joining" (zal zd7) (zaj zd7) (zab zd7) .none kV28 dc28 pm28 an28 cd28 ct28),sl28⟩)(c28:PySem.W.codeIn K cd28 "joining"=true)(k28:PySem.W.keepIn K (.ref f28)=true)
  (a29:PySem.W.nsIn K mainGlobals "is_line_of_four"=some (some (.ref f29)))(l29:K.lookup f29=some ⟨oc29,od29,.func (PySem.W.fnOf "is_line_of_four" "is_line_of_four" (zal zaU) (zaj zaU) (zab zaU) .none kV29 dc29 pm29 an29 cd29 ct29),sl29⟩)(c29:PySem.W.codeIn K cd29 "is_line_of_four"=true)(k29:PySem.W.keepIn K (.ref f29)=true)
  (a30:PySem.W.nsIn K mainGlobals "line_over"=some (some (.ref f30)))(l30:K.lookup f30=some ⟨oc30,od30,.func (PySem.W.fnOf "line_over" "line_over" (zal zcH) (zaj zcH) (zab zcH) .none kV30 dc30 pm30 an30 cd30 ct30),sl30⟩)(c30:PySem.W.codeIn K cd30 "line_over"=true)(k30:PySem.W.keepIn K (.ref f30)=true)
  (a31:PySem.W.nsIn K mainGlobals "line_of_four"=some (some (.ref f31)))(l31:K.lookup f31=some ⟨oc31,od31,.func (PySem.W.fnOf "line_of_four" "line_of_four" (zal zbq) (zaj zbq) (zab zbq) .none kV31 dc31 pm31 an31 cd31 ct31),sl31⟩)(c31:PySem.W.codeIn K cd31 "line_of_four"=true)(k31:PySem.W.keepIn K (.ref f31)=true)
  (a32:PySem.W.nsIn K mainGlobals "_law_cell_at"=some (some (.ref f32)))(l32:K.lookup f32=some ⟨oc32,od32,.func (PySem.W.fnOf "_law_cell_at" "_law_cell_at" (zal zbr) (zaj zbr) (zab zbr) .none kV32 dc32 pm32 an32 cd32 ct32),sl32⟩)(c32:PySem.W.codeIn K cd32 "_law_cell_at"=true)(k32:PySem.W.keepIn K (.ref f32)=true)
  (a33:PySem.W.nsIn K mainGlobals "_law_many"=some (some (.ref f33)))(l33:K.lookup f33=some ⟨oc33,od33,.func (PySem.W.fnOf "_law_many" "_law_many" (zal zcI) (zaj zcI) (zab zcI) .none kV33 dc33 pm33 an33 cd33 ct33),sl33⟩)(c33:PySem.W.codeIn K cd33 "_law_many"=true)(k33:PySem.W.keepIn K (.ref f33)=true)
  (a34:PySem.W.nsIn K mainGlobals "_law_mixed"=some (some (.ref f34)))(l34:K.lookup f34=some ⟨oc34,od34,.func (PySem.W.fnOf "_law_mixed" "_law_mixed" (zal zb1) (zaj zb1) (zab zb1) .none kV34 dc34 pm34 an34 cd34 ct34),sl34⟩)(c34:PySem.W.codeIn K cd34 "_law_mixed"=true)(k34:PySem.W.keepIn K (.ref f34)=true)
  (a35:PySem.W.nsIn K mainGlobals "_law_names"=some (some (.ref f35)))(l35:K.lookup f35=some ⟨oc35,od35,.func (PySem.W.fnOf "_law_names" "_law_names" (zal zb2) (zaj zb2) (zab zb2) .none kV35 dc35 pm35 an35 cd35 ct35),sl35⟩)(c35:PySem.W.codeIn K cd35 "_law_names"=true)(k35:PySem.W.keepIn K (.ref f35)=true)
  (a36:PySem.W.nsIn K mainGlobals "_law_numbers"=some (some (.ref f36)))(l36:K.lookup f36=some ⟨oc36,od36,.func (PySem.W.fnOf "_law_numbers" "_law_numbers" (zal zbs) (zaj zbs) (zab zbs) .none kV36 dc36 pm36 an36 cd36 ct36),sl36⟩)(c36:PySem.W.codeIn K cd36 "_law_numbers"=true)(k36:PySem.W.keepIn K (.ref f36)=true)
  (a37:PySem.W.nsIn K mainGlobals "_law_joining"=some (some (.ref f37)))(l37:K.lookup f37=some ⟨oc37,od37,.func (PySem.W.fnOf "_law_joining" "_law_joining" (zal zbt) (zaj zbt) (zab zbt) .none kV37 dc37 pm37 an37 cd37 ct37),sl37⟩)(c37:PySem.W.codeIn K cd37 "_law_joining"=true)(k37:PySem.W.keepIn K (.ref f37)=true)
  (a38:PySem.W.nsIn K mainGlobals "_law_by_joining"=some (some (.ref f38)))(l38:K.lookup f38=some ⟨oc38,od38,.func (PySem.W.fnOf "_law_by_joining" "_law_by_joining" (zal zaV) (zaj zaV) (zab zaV) .none kV38 dc38 pm38 an38 cd38 ct38),sl38⟩)(c38:PySem.W.codeIn K cd38 "_law_by_joining"=true)(k38:PySem.W.keepIn K (.ref f38)=true)
  (a39:PySem.W.nsIn K mainGlobals "_law_turned_over"=some (some (.ref f39)))(l39:K.lookup f39=some ⟨oc39,od39,.func (PySem.W.fnOf "_law_turned_over" "_law_turned_over" (zal zaL) (zaj zaL) (zab zaL) .none kV39 dc39 pm39 an39 cd39 ct39),sl39⟩)(c39:PySem.W.codeIn K cd39 "_law_turned_over"=true)(k39:PySem.W.keepIn K (.ref f39)=true)
  (a40:PySem.W.nsIn K mainGlobals "_law_loosely"=some (some (.ref f40)))(l40:K.lookup f40=some ⟨oc40,od40,.func (PySem.W.fnOf "_law_loosely" "_law_loosely" (zal zbu) (zaj zbu) (zab zbu) .none kV40 dc40 pm40 an40 cd40 ct40),sl40⟩)(c40:PySem.W.codeIn K cd40 "_law_loosely"=true)(k40:PySem.W.keepIn K (.ref f40)=true)
  (a41:PySem.W.nsIn K mainGlobals "_law_twinned"=some (some (.ref f41)))(l41:K.lookup f41=some ⟨oc41,od41,.func (PySem.W.fnOf "_law_twinned" "_law_twinned" (zal zbv) (zaj zbv) (zab zbv) .none kV41 dc41 pm41 an41 cd41 ct41),sl41⟩)(c41:PySem.W.codeIn K cd41 "_law_twinned"=true)(k41:PySem.W.keepIn K (.ref f41)=true)
  (a42:PySem.W.nsIn K mainGlobals "_law_held"=some (some (.ref f42)))(l42:K.lookup f42=some ⟨oc42,od42,.func (PySem.W.fnOf "_law_held" "_law_held" (zal zcJ) (zaj zcJ) (zab zcJ) .none kV42 dc42 pm42 an42 cd42 ct42),sl42⟩)(c42:PySem.W.codeIn K cd42 "_law_held"=true)(k42:PySem.W.keepIn K (.ref f42)=true)
  (a43:PySem.W.nsIn K mainGlobals "_law_web"=some (some (.ref f43)))(l43:K.lookup f43=some ⟨oc43,od43,.func (PySem.W.fnOf "_law_web" "_law_web" (zal zdh) (zaj zdh) (zab zdh) .none kV43 dc43 pm43 an43 cd43 ct43),sl43⟩)(c43:PySem.W.codeIn K cd43 "_law_web"=true)(k43:PySem.W.keepIn K (.ref f43)=true)
  (a44:PySem.W.nsIn K mainGlobals "_law_points"=some (some (.ref f44)))(l44:K.lookup f44=some ⟨oc44,od44,.func (PySem.W.fnOf "_law_points" "_law_points" (zal zbJ) (zaj zbJ) (zab zbJ) .none kV44 dc44 pm44 an44 cd44 ct44),sl44⟩)(c44:PySem.W.codeIn K cd44 "_law_points"=true)(k44:PySem.W.keepIn K (.ref f44)=true)
  (a45:PySem.W.nsIn K mainGlobals "_law_told"=some (some (.ref f45)))(l45:K.lookup f45=some ⟨oc45,od45,.func (PySem.W.fnOf "_law_told" "_law_told" (zal zcK) (zaj zcK) (zab zcK) .none kV45 dc45 pm45 an45 cd45 ct45),sl45⟩)(c45:PySem.W.codeIn K cd45 "_law_told"=true)(k45:PySem.W.keepIn K (.ref f45)=true)
  (a46:PySem.W.nsIn K mainGlobals "_law_threes"=some (some (.ref f46)))(l46:K.lookup f46=some ⟨oc46,od46,.func (PySem.W.fnOf "_law_threes" "_law_threes" (zal zbK) (zaj zbK) (zab zbK) .none kV46 dc46 pm46 an46 cd46 ct46),sl46⟩)(c46:PySem.W.codeIn K cd46 "_law_threes"=true)(k46:PySem.W.keepIn K (.ref f46)=true)
  (a47:PySem.W.nsIn K mainGlobals "_law_turned"=some (some (.ref f47)))(l47:K.lookup f47=some ⟨oc47,od47,.func (PySem.W.fnOf "_law_turned" "_law_turned" (zal zbL) (zaj zbL) (zab zbL) .none kV47 dc47 pm47 an47 cd47 ct47),sl47⟩)(c47:PySem.W.codeIn K cd47 "_law_turned"=true)(k47:PySem.W.keepIn K (.ref f47)=true)
  (a48:PySem.W.nsIn K mainGlobals "_law_moved"=some (some (.ref f48)))(l48:K.lookup f48=some ⟨oc48,od48,.func (PySem.W.fnOf "_law_moved" "_law_moved" (zal zb3) (zaj zb3) (zab zb3) .none kV48 dc48 pm48 an48 cd48 ct48),sl48⟩)(c48:PySem.W.codeIn K cd48 "_law_moved"=true)(k48:PySem.W.keepIn K (.ref f48)=true)
  (a49:PySem.W.nsIn K mainGlobals "_law_put"=some (some (.ref f49)))(l49:K.lookup f49=some ⟨oc49,od49,.func (PySem.W.fnOf "_law_put" "_law_put" (zal zdi) (zaj zdi) (zab zdi) .none kV49 dc49 pm49 an49 cd49 ct49),sl49⟩)(c49:PySem.W.codeIn K cd49 "_law_put"=true)(k49:PySem.W.keepIn K (.ref f49)=true)
  (a50:PySem.W.nsIn K mainGlobals "_law_both"=some (some (.ref f50)))(l50:K.lookup f50=some ⟨oc50,od50,.func (PySem.W.fnOf "_law_both" "_law_both" (zal zcL) (zaj zcL) (zab zcL) .none kV50 dc50 pm50 an50 cd50 ct50),sl50⟩)(c50:PySem.W.codeIn K cd50 "_law_both"=true)(k50:PySem.W.keepIn K (.ref f50)=true)
  (a51:PySem.W.nsIn K mainGlobals "law"=some (some (.ref f51)))(l51:K.lookup f51=some ⟨oc51,od51,.func (PySem.W.fnOf "law" "law" (zal zkh) (zaj zkh) (zab zkh) .none kV51 dc51 pm51 an51 cd51 ct51),sl51⟩)(c51:PySem.W.codeIn K cd51 "law"=true)(k51:PySem.W.keepIn K (.ref f51)=true)
  {t_MOST:Tok}(u_MOST:PySem.W.nsIn K mainGlobals "MOST"=some (some (.int 14 t_MOST)))(y_range:PySem.W.nsIn K mainGlobals "range"=some none)(y_len:PySem.W.nsIn K mainGlobals "len"=some none)(y_all:PySem.W.nsIn K mainGlobals "all"=some none)(y_set:PySem.W.nsIn K mainGlobals "set"=some none)(y_max:PySem.W.nsIn K mainGlobals "max"=some none)(y_list:PySem.W.nsIn K mainGlobals "list"=some none)(y_min:PySem.W.nsIn K mainGlobals "min"=some none)(y_int:PySem.W.nsIn K mainGlobals "int"=some none)(y_isinstance:PySem.W.nsIn K mainGlobals "isinstance"=some none)(y_bool:PySem.W.nsIn K mainGlobals "bool"=some none):
  ∃ fd:FuncData,(∀ (s:Shared) (v:Value),BindsTo s fd ⟨[v],[]⟩ [("_law_script",v)])/\∀ base:Heap,K.In base->base.Ns mainGlobals mg->FnOk l.prog w K mg base CX0 8 fa fd ["_law_script"] (spV K zs6):=by
 have e:=hfa.symm.trans (PySem.W.mg_of X G a51);cases e;have z_range:mg "range"=none:=PySem.W.mg_none_of X G y_range;have z_len:mg "len"=none:=PySem.W.mg_none_of X G y_len;have z_all:mg "all"=none:=PySem.W.mg_none_of X G y_all;have z_set:mg "set"=none:=PySem.W.mg_none_of X G y_set;have z_max:mg "max"=none:=PySem.W.mg_none_of X G y_max;have z_list:mg "list"=none:=PySem.W.mg_none_of X G y_list;have z_min:mg "min"=none:=PySem.W.mg_none_of X G y_min;have z_int:mg "int"=none:=PySem.W.mg_none_of X G y_int;have z_isinstance:mg "isinstance"=none:=PySem.W.mg_none_of X G y_isinstance;have z_bool:mg "bool"=none:=PySem.W.mg_none_of X G y_bool;have g_MOST:∃ t,mg "MOST"=some (.int 14 t):=⟨_,PySem.W.mg_of X G u_MOST⟩;have F1:=zap (st:=znv) l1 c1 k1;have F2:=zap (st:=zhb) l2 c2 k2;have F3:=zap (st:=zdc) l3 c3 k3;have F4:=zap (st:=zfd) l4 c4 k4;have F5:=zap (st:=zcD) l5 c5 k5;have F6:=zap (st:=zdd) l6 c6 k6;have F7:=zap (st:=zd4) l7 c7 k7;have F8:=zap (st:=zbI) l8 c8 k8;have F9:=zap (st:=zjr) l9 c9 k9;have F10:=zap (st:=zd5) l10 c10 k10;have F11:=zap (st:=zde) l11 c11 k11;have F12:=zap (st:=zcE) l12 c12 k12;have F13:=zap (st:=zaT) l13 c13 k13;have F14:=zap (st:=zjs) l14 c14 k14;have F15:=zap (st:=zfe) l15 c15 k15;have F16:=zap (st:=zff) l16 c16 k16;have F17:=zap (st:=zbY) l17 c17 k17;have F18:=zap (st:=zdf) l18 c18 k18;have F19:=zap (st:=zbZ) l19 c19 k19;have F20:=zap (st:=zd6) l20 c20 k20;have F21:=zap (st:=za7) l21 c21 k21;have F22:=zap (st:=za8) l22 c22 k22;have F23:=zap (st:=zcF) l23 c23 k23;have F24:=zap (st:=zay) l24 c24 k24;have F25:=zap (st:=zb0) l25 c25 k25;have F26:=zap (st:=zcG) l26 c26 k26;have F27:=zap (st:=zdg) l27 c27 k27;have F28:=zap (st:=zd7) l28 c28 k28;have F29:=zap (st:=zaU) l29 c29 k29;have F30:=zap (st:=zcH) l30 c30 k30;have F31:=zap (st:=zbq) l31 c31 k31;have F32:=zap (st:=zbr) l32 c32 k32;have F33:=zap (st:=zcI) l33 c33 k33;have F34:=zap (st:=zb1) l34 c34 k34;have F35:=zap (st:=zb2) l35 c35 k35;have F36:=zap (st:=zbs) l36 c36 k36;have F37:=zap (st:=zbt) l37 c37 k37;have F38:=zap (st:=zaV) l38 c38 k38;have F39:=zap (st:=zaL) l39 c39 k39;have F40:=zap (st:=zbu) l40 c40 k40;have F41:=zap (st:=zbv) l41 c41 k41;have F42:=zap (st:=zcJ) l42 c42 k42;have F43:=zap (st:=zdh) l43 c43 k43;have F44:=zap (st:=zbJ) l44 c44 k44;have F45:=zap (st:=zcK) l45 c45 k45;have F46:=zap (st:=zbK) l46 c46 k46;have F47:=zap (st:=zbL) l47 c47 k47;have F48:=zap (st:=zb3) l48 c48 k48;have F49:=zap (st:=zdi) l49 c49 k49;have F50:=zap (st:=zcL) l50 c50 k50;have F51:=zap (st:=zkh) l51 c51 k51;have b1:=F1.binds (ps:=["some","p"]) fun _ _ _ _ _ _ us hl=>by obtain ⟨x0,x1,rfl⟩:=ln2 hl;exact rfl
 have b2:=F2.binds (ps:=["p"]) fun _ _ _ _ _ _ us hl=>by obtain ⟨x0,rfl⟩:=ln1 hl;exact rfl
 have b3:=F3.binds (ps:=["several"]) fun _ _ _ _ _ _ us hl=>by obtain ⟨x0,rfl⟩:=ln1 hl;exact rfl
 have b4:=F4.binds (ps:=["points"]) fun _ _ _ _ _ _ us hl=>by obtain ⟨x0,rfl⟩:=ln1 hl;exact rfl
 have b5:=F5.binds (ps:=["some"]) fun _ _ _ _ _ _ us hl=>by obtain ⟨x0,rfl⟩:=ln1 hl;exact rfl
 have b6:=F6.binds (ps:=["some"]) fun _ _ _ _ _ _ us hl=>by obtain ⟨x0,rfl⟩:=ln1 hl;exact rfl
 have b7:=F7.binds (ps:=["some","other"]) fun _ _ _ _ _ _ us hl=>by obtain ⟨x0,x1,rfl⟩:=ln2 hl;exact rfl
 have b8:=F8.binds (ps:=["many"]) fun _ _ _ _ _ _ us hl=>by obtain ⟨x0,rfl⟩:=ln1 hl;exact rfl
 have b9:=F9.binds (ps:=["web","a","b"]) fun _ _ _ _ _ _ us hl=>by obtain ⟨x0,x1,x2,rfl⟩:=ln3 hl;exact rfl
 have b10:=F10.binds (ps:=["web"]) fun _ _ _ _ _ _ us hl=>by obtain ⟨x0,rfl⟩:=ln1 hl;exact rfl
 have b11:=F11.binds (ps:=["web"]) fun _ _ _ _ _ _ us hl=>by obtain ⟨x0,rfl⟩:=ln1 hl;exact rfl
 have b12:=F12.binds (ps:=["web"]) fun _ _ _ _ _ _ us hl=>by obtain ⟨x0,rfl⟩:=ln1 hl;exact rfl
 have b13:=F13.binds (ps:=["web","points","p"]) fun _ _ _ _ _ _ us hl=>by obtain ⟨x0,x1,x2,rfl⟩:=ln3 hl;exact rfl
 have b14:=F14.binds (ps:=["web","points"]) fun _ _ _ _ _ _ us hl=>by obtain ⟨x0,x1,rfl⟩:=ln2 hl;exact rfl
 have b15:=F15.binds (ps:=["one","two"]) fun _ _ _ _ _ _ us hl=>by obtain ⟨x0,x1,rfl⟩:=ln2 hl;exact rfl
 have b16:=F16.binds (ps:=["one","two"]) fun _ _ _ _ _ _ us hl=>by obtain ⟨x0,x1,rfl⟩:=ln2 hl;exact rfl
 have b17:=F17.binds (ps:=["web","some"]) fun _ _ _ _ _ _ us hl=>by obtain ⟨x0,x1,rfl⟩:=ln2 hl;exact rfl
 have b18:=F18.binds (ps:=["many"]) fun _ _ _ _ _ _ us hl=>by obtain ⟨x0,rfl⟩:=ln1 hl;exact rfl
 have b19:=F19.binds (ps:=["many"]) fun _ _ _ _ _ _ us hl=>by obtain ⟨x0,rfl⟩:=ln1 hl;exact rfl
 have b20:=F20.binds (ps:=["web","some"]) fun _ _ _ _ _ _ us hl=>by obtain ⟨x0,x1,rfl⟩:=ln2 hl;exact rfl
 have b21:=F21.binds (ps:=["web","one","two"]) fun _ _ _ _ _ _ us hl=>by obtain ⟨x0,x1,x2,rfl⟩:=ln3 hl;exact rfl
 have b22:=F22.binds (ps:=["many","rows"]) fun _ _ _ _ _ _ us hl=>by obtain ⟨x0,x1,rfl⟩:=ln2 hl;exact rfl
 have b23:=F23.binds (ps:=["row","made","named"]) fun _ _ _ _ _ _ us hl=>by obtain ⟨x0,x1,x2,rfl⟩:=ln3 hl;exact rfl
 have b24:=F24.binds (ps:=["many","rows"]) fun _ _ _ _ _ _ us hl=>by obtain ⟨x0,x1,rfl⟩:=ln2 hl;exact rfl
 have b25:=F25.binds (ps:=["web","rows"]) fun _ _ _ _ _ _ us hl=>by obtain ⟨x0,x1,rfl⟩:=ln2 hl;exact rfl
 have b26:=F26.binds (ps:=["web","a","b","left"]) fun _ _ _ _ _ _ us hl=>by obtain ⟨x0,x1,x2,x3,rfl⟩:=ln4 hl;exact rfl
 have b27:=F27.binds (ps:=["web","left"]) fun _ _ _ _ _ _ us hl=>by obtain ⟨x0,x1,rfl⟩:=ln2 hl;exact rfl
 have b28:=F28.binds (ps:=["web"]) fun _ _ _ _ _ _ us hl=>by obtain ⟨x0,rfl⟩:=ln1 hl;exact rfl
 have b29:=F29.binds (ps:=["web","some"]) fun _ _ _ _ _ _ us hl=>by obtain ⟨x0,x1,rfl⟩:=ln2 hl;exact rfl
 have b30:=F30.binds (ps:=["web","b","c"]) fun _ _ _ _ _ _ us hl=>by obtain ⟨x0,x1,x2,rfl⟩:=ln3 hl;exact rfl
 have b31:=F31.binds (ps:=["web"]) fun _ _ _ _ _ _ us hl=>by obtain ⟨x0,rfl⟩:=ln1 hl;exact rfl
 have b32:=F32.binds (ps:=["_law_script","_law_k"]) fun _ _ _ _ _ _ us hl=>by obtain ⟨x0,x1,rfl⟩:=ln2 hl;exact rfl
 have b33:=F33.binds (ps:=["_law_script","_law_most"]) fun _ _ _ _ _ _ us hl=>by obtain ⟨x0,x1,rfl⟩:=ln2 hl;exact rfl
 have b34:=F34.binds (ps:=["_law_cell","_law_k"]) fun _ _ _ _ _ _ us hl=>by obtain ⟨x0,x1,rfl⟩:=ln2 hl;exact rfl
 have b35:=F35.binds (ps:=["_law_cell","_law_many_here"]) fun _ _ _ _ _ _ us hl=>by obtain ⟨x0,x1,rfl⟩:=ln2 hl;exact rfl
 have b36:=F36.binds (ps:=["_law_script"]) fun _ _ _ _ _ _ us hl=>by obtain ⟨x0,rfl⟩:=ln1 hl;exact rfl
 have b37:=F37.binds (ps:=["_law_many_here","_law_numbers_here","_law_mode"]) fun _ _ _ _ _ _ us hl=>by obtain ⟨x0,x1,x2,rfl⟩:=ln3 hl;exact rfl
 have b38:=F38.binds (ps:=["_law_many_here","_law_rows"]) fun _ _ _ _ _ _ us hl=>by obtain ⟨x0,x1,rfl⟩:=ln2 hl;exact rfl
 have b39:=F39.binds (ps:=["_law_held_here","_law_number"]) fun _ _ _ _ _ _ us hl=>by obtain ⟨x0,x1,rfl⟩:=ln2 hl;exact rfl
 have b40:=F40.binds (ps:=["_law_many_here","_law_script"]) fun _ _ _ _ _ _ us hl=>by obtain ⟨x0,x1,rfl⟩:=ln2 hl;exact rfl
 have b41:=F41.binds (ps:=["_law_many_here","_law_script"]) fun _ _ _ _ _ _ us hl=>by obtain ⟨x0,x1,rfl⟩:=ln2 hl;exact rfl
 have b42:=F42.binds (ps:=["_law_many_here","_law_script"]) fun _ _ _ _ _ _ us hl=>by obtain ⟨x0,x1,rfl⟩:=ln2 hl;exact rfl
 have b43:=F43.binds (ps:=["_law_held_here"]) fun _ _ _ _ _ _ us hl=>by obtain ⟨x0,rfl⟩:=ln1 hl;exact rfl
 have b44:=F44.binds (ps:=["_law_found"]) fun _ _ _ _ _ _ us hl=>by obtain ⟨x0,rfl⟩:=ln1 hl;exact rfl
 have b45:=F45.binds (ps:=["_law_rows"]) fun _ _ _ _ _ _ us hl=>by obtain ⟨x0,rfl⟩:=ln1 hl;exact rfl
 have b46:=F46.binds (ps:=["_law_rows"]) fun _ _ _ _ _ _ us hl=>by obtain ⟨x0,rfl⟩:=ln1 hl;exact rfl
 have b47:=F47.binds (ps:=["_law_web_here","_law_rows","_law_line"]) fun _ _ _ _ _ _ us hl=>by obtain ⟨x0,x1,x2,rfl⟩:=ln3 hl;exact rfl
 have b48:=F48.binds (ps:=["_law_x","_law_many_here","_law_start","_law_more"]) fun _ _ _ _ _ _ us hl=>by obtain ⟨x0,x1,x2,x3,rfl⟩:=ln4 hl;exact rfl
 have b49:=F49.binds (ps:=["_law_one","_law_other","_law_rows","_law_mark"]) fun _ _ _ _ _ _ us hl=>by obtain ⟨x0,x1,x2,x3,rfl⟩:=ln4 hl;exact rfl
 have b50:=F50.binds (ps:=["_law_one","_law_other","_law_rows","_law_lines","_law_mark"]) fun _ _ _ _ _ _ us hl=>by obtain ⟨x0,x1,x2,x3,x4,rfl⟩:=ln5 hl;exact rfl
 refine ⟨PySem.W.fnOf "law" "law" (zal zkh) (zaj zkh) (zab zkh) .none kV51 dc51 pm51 an51 cd51 ct51,fun s v=>.of_eq rfl,fun base _ _=>?_⟩;have c_has:Cal l.prog w K mg base 1 "has" zib:=zse F1 (PySem.W.mg_of X G a1) b1;have c_alone:Cal l.prog w K mg base 1 "alone" zbf:=zpb F2 (PySem.W.mg_of X G a2) b2;have c_together:Cal l.prog w K mg base 1 "together" zc6:=zlv F3 (PySem.W.mg_of X G a3) b3;have c_set_of:Cal l.prog w K mg base 2 "set_of" zfa:=znw F4 (PySem.W.mg_of X G a4) b4 c_together c_alone;have c_points_of:Cal l.prog w K mg base 2 "points_of" zaN:=zj5 F5 (PySem.W.mg_of X G a5) b5 z_range c_has;have c_first_of:Cal l.prog w K mg base 3 "first_of" zc7:=zlx F6 (PySem.W.mg_of X G a6) b6 c_points_of;have c_without:Cal l.prog w K mg base 1 "without" zba:=zml F7 (PySem.W.mg_of X G a7) b7;have c_refuse_size:Cal l.prog w K mg base 1 "refuse_size" zbF:=ziG F8 (PySem.W.mg_of X G a8) b8 g_MOST;have c_tied:Cal l.prog w K mg base 2 "tied" zhh:=zqp F9 (PySem.W.mg_of X G a9) b9 c_has;have c_ties_of:Cal l.prog w K mg base 3 "ties_of" zcM:=zmm F10 (PySem.W.mg_of X G a10) b10 z_len z_range c_points_of;have c_whole_of:Cal l.prog w K mg base 2 "whole_of" zbS:=zly F11 (PySem.W.mg_of X G a11) b11 z_len c_alone;have c_other_web:Cal l.prog w K mg base 3 "other_web" zbc:=zj6 F12 (PySem.W.mg_of X G a12) b12 z_len z_range c_whole_of c_without c_alone;have c_places_of_mates:Cal l.prog w K mg base 3 "places_of_mates" zaR:=zfO F13 (PySem.W.mg_of X G a13) b13 z_len z_range c_set_of c_tied;have c_part:Cal l.prog w K mg base 4 "part" zjl:=zqq F14 (PySem.W.mg_of X G a14) b14 c_places_of_mates;have c_beside:Cal l.prog w K mg base 2 "beside" zdw:=zny F15 (PySem.W.mg_of X G a15) b15 z_len c_refuse_size;have c_joined:Cal l.prog w K mg base 4 "joined" zfc:=znz F16 (PySem.W.mg_of X G a16) b16 c_other_web c_beside;have c_are_points:Cal l.prog w K mg base 1 "are_points" zbT:=zi1 F17 (PySem.W.mg_of X G a17) b17 z_len z_all z_set;have c_pairs_of:Cal l.prog w K mg base 1 "pairs_of" zc8:=zlz F18 (PySem.W.mg_of X G a18) b18 z_range;have c_neighbours:Cal l.prog w K mg base 1 "neighbours" zbU:=zi2 F19 (PySem.W.mg_of X G a19) b19 z_range;have c_is_line:Cal l.prog w K mg base 5 "is_line" zd0:=zmo F20 (PySem.W.mg_of X G a20) b20 z_len c_are_points c_ties_of c_part c_neighbours;have c_joined_between:Cal l.prog w K mg base 2 "joined_between" za4:=zgJ F21 (PySem.W.mg_of X G a21) b21 z_len z_range c_has;have c_web_of_joining:Cal l.prog w K mg base 3 "web_of_joining" za5:=zgK F22 (PySem.W.mg_of X G a22) b22 z_range c_alone c_joined_between;have c_names_two:Cal l.prog w K mg base 1 "names_two" zct:=zj8 F23 (PySem.W.mg_of X G a23) b23 z_len z_all;have c_are_rows_of_joining:Cal l.prog w K mg base 2 "are_rows_of_joining" zaw:=zen F24 (PySem.W.mg_of X G a24) b24 z_len z_max z_range c_names_two;have c_is_joining:Cal l.prog w K mg base 4 "is_joining" zaP:=zi3 F25 (PySem.W.mg_of X G a25) b25 z_len c_are_rows_of_joining c_web_of_joining;have c_are_twins:Cal l.prog w K mg base 2 "are_twins" zcu:=zka F26 (PySem.W.mg_of X G a26) b26 c_without c_alone;have c_twins_in:Cal l.prog w K mg base 3 "twins_in" zc9:=zlB F27 (PySem.W.mg_of X G a27) b27 z_len c_points_of c_pairs_of c_are_twins;have c_joining:Cal l.prog w K mg base 4 "joining" zbB:=zmp F28 (PySem.W.mg_of X G a28) b28 z_len z_list z_range c_whole_of c_twins_in c_tied c_without c_alone;have c_is_line_of_four:Cal l.prog w K mg base 6 "is_line_of_four" zax:=zfP F29 (PySem.W.mg_of X G a29) b29 z_len c_is_line;have c_line_over:Cal l.prog w K mg base 4 "line_over" zcw:=zkb F30 (PySem.W.mg_of X G a30) b30 c_without c_alone c_points_of c_first_of;have c_line_of_four:Cal l.prog w K mg base 5 "line_of_four" zaE:=zhH F31 (PySem.W.mg_of X G a31) b31 c_ties_of c_line_over;have c__law_cell_at:Cal l.prog w K mg base 1 "_law_cell_at" zak:=zhI F32 (PySem.W.mg_of X G a32) b32 z_len;have c__law_many:Cal l.prog w K mg base 2 "_law_many" zcx:=zkc F33 (PySem.W.mg_of X G a33) b33 c__law_cell_at;have c__law_mixed:Cal l.prog w K mg base 1 "_law_mixed" zao:=zi4 F34 (PySem.W.mg_of X G a34) b34;have c__law_names:Cal l.prog w K mg base 2 "_law_names" zbV:=zi5 F35 (PySem.W.mg_of X G a35) b35 z_range c__law_mixed;have c__law_numbers:Cal l.prog w K mg base 2 "_law_numbers" zaQ:=zhJ F36 (PySem.W.mg_of X G a36) b36 z_range z_len z_min c__law_mixed c__law_cell_at;have c__law_joining:Cal l.prog w K mg base 1 "_law_joining" zbk:=zhK F37 (PySem.W.mg_of X G a37) b37 z_list z_range z_int z_len;have c__law_by_joining:Cal l.prog w K mg base 1 "_law_by_joining" zaS:=zfQ F38 (PySem.W.mg_of X G a38) b38 z_range;have c__law_turned_over:CalP1 l.prog w K mg base 1 "_law_turned_over" zav:=zfj F39 (PySem.W.mg_of X G a39) b39 z_len;have c__law_loosely:Cal l.prog w K mg base 2 "_law_loosely" zbl:=zhL F40 (PySem.W.mg_of X G a40) b40 z_range z_len z_min c__law_cell_at c__law_mixed c__law_turned_over;have c__law_twinned:Cal l.prog w K mg base 3 "_law_twinned" zbm:=zhM F41 (PySem.W.mg_of X G a41) b41 z_min z_range z_len c__law_numbers c__law_cell_at c__law_names c__law_mixed;have c__law_held:Cal l.prog w K mg base 4 "_law_held" zcz:=zkd F42 (PySem.W.mg_of X G a42) b42 c__law_cell_at c__law_loosely c__law_twinned c__law_by_joining c__law_joining c__law_numbers c__law_mixed c__law_turned_over;have c__law_web:Cal l.prog w K mg base 1 "_law_web" zda:=zlC F43 (PySem.W.mg_of X G a43) b43 z_int;have c__law_points:Cal l.prog w K mg base 1 "_law_points" zbb:=ziI F44 (PySem.W.mg_of X G a44) b44 z_isinstance z_list z_int z_bool z_all;have c__law_told:Cal l.prog w K mg base 2 "_law_told" zcA:=zke F45 (PySem.W.mg_of X G a45) b45 z_isinstance z_list z_all c__law_points;have c__law_threes:Cal l.prog w K mg base 3 "_law_threes" zbG:=ziJ F46 (PySem.W.mg_of X G a46) b46 z_len z_all c__law_told;have c__law_turned:Cal l.prog w K mg base 7 "_law_turned" zbH:=ziK F47 (PySem.W.mg_of X G a47) b47 z_list c_other_web c_is_joining c_line_of_four c_is_line_of_four c_joining;have c__law_moved:Cal l.prog w K mg base 1 "_law_moved" zbC:=zi8 F48 (PySem.W.mg_of X G a48) b48;have c__law_put:Cal l.prog w K mg base 2 "_law_put" zdb:=zlE F49 (PySem.W.mg_of X G a49) b49 z_len z_range c__law_moved;have c__law_both:Cal l.prog w K mg base 7 "_law_both" zcC:=zkg F50 (PySem.W.mg_of X G a50) b50 z_list z_len z_range c_beside c_joined c_joining c_is_line_of_four c_is_joining c__law_put;exact ztK F51 z_range z_list z_len c__law_cell_at c__law_web c__law_held c__law_many c_joining c_line_of_four c__law_points c__law_threes c__law_turned c__law_both
end Z
open PySem PySem.W PyProof.Rows
set_option maxRecDepth 100000 in
set_option maxHeartbeats 0 in
theorem PySem.Challenge.cw_cotreehall_k45_whole_joins_carried_over_holds : PySem.Challenge.rw_cotreehall_k45_whole_joins_carried_over.Holds := by
 refine Z.hd ?_
 k_fill
 refine VL.zup (l:=PySem.Challenge.rw_cotreehall_k45_whole_joins_carried_over) (k:=8) (x:="_law_script") rfl rfl ⟨rfl,by decide,by decide⟩ (fun w h Y=>PySem.W.kIn_of Y) ?F
 case F=>
  intro w mg fa h KX G hmg
  refine' Z.ztL KX G hmg ?a1 ?l1 ?c1 ?k1 ?a2 ?l2 ?c2 ?k2 ?a3 ?l3 ?c3 ?k3 ?a4 ?l4 ?c4 ?k4 ?a5 ?l5 ?c5 ?k5 ?a6 ?l6 ?c6 ?k6 ?a7 ?l7 ?c7 ?k7 ?a8 ?l8 ?c8 ?k8 ?a9 ?l9 ?c9 ?k9 ?a10 ?l10 ?c10 ?k10 ?a11 ?l11 ?c11 ?k11 ?a12 ?l12 ?c12 ?k12 ?a13 ?l13 ?c13 ?k13 ?a14 ?l14 ?c14 ?k14 ?a15 ?l15 ?c15 ?k15 ?a16 ?l16 ?c16 ?k16 ?a17 ?l17 ?c17 ?k17 ?a18 ?l18 ?c18 ?k18 ?a19 ?l19 ?c19 ?k19 ?a20 ?l20 ?c20 ?k20 ?a21 ?l21 ?c21 ?k21 ?a22 ?l22 ?c22 ?k22 ?a23 ?l23 ?c23 ?k23 ?a24 ?l24 ?c24 ?k24 ?a25 ?l25 ?c25 ?k25 ?a26 ?l26 ?c26 ?k26 ?a27 ?l27 ?c27 ?k27 ?a28 ?l28 ?c28 ?k28 ?a29 ?l29 ?c29 ?k29 ?a30 ?l30 ?c30 ?k30 ?a31 ?l31 ?c31 ?k31 ?a32 ?l32 ?c32 ?k32 ?a33 ?l33 ?c33 ?k33 ?a34 ?l34 ?c34 ?k34 ?a35 ?l35 ?c35 ?k35 ?a36 ?l36 ?c36 ?k36 ?a37 ?l37 ?c37 ?k37 ?a38 ?l38 ?c38 ?k38 ?a39 ?l39 ?c39 ?k39 ?a40 ?l40 ?c40 ?k40 ?a41 ?l41 ?c41 ?k41 ?a42 ?l42 ?c42 ?k42 ?a43 ?l43 ?c43 ?k43 ?a44 ?l44 ?c44 ?k44 ?a45 ?l45 ?c45 ?k45 ?a46 ?l46 ?c46 ?k46 ?a47 ?l47 ?c47 ?k47 ?a48 ?l48 ?c48 ?k48 ?a49 ?l49 ?c49 ?k49 ?a50 ?l50 ?c50 ?k50 ?a51 ?l51 ?c51 ?k51 ?u_MOST ?y_range ?y_len ?y_all ?y_set ?y_max ?y_list ?y_min ?y_int ?y_isinstance ?y_bool
  (case a1=>k_is)
  (case l1=>k_is)
  (case c1=>k_is)
  (case k1=>k_is)
  (case a2=>k_is)
  (case l2=>k_is)
  (case c2=>k_is)
  (case k2=>k_is)
  (case a3=>k_is)
  (case l3=>k_is)
  (case c3=>k_is)
  (case k3=>k_is)
  (case a4=>k_is)
  (case l4=>k_is)
  (case c4=>k_is)
  (case k4=>k_is)
  (case a5=>k_is)
  (case l5=>k_is)
  (case c5=>k_is)
  (case k5=>k_is)
  (case a6=>k_is)
  (case l6=>k_is)
  (case c6=>k_is)
  (case k6=>k_is)
  (case a7=>k_is)
  (case l7=>k_is)
  (case c7=>k_is)
  (case k7=>k_is)
  (case a8=>k_is)
  (case l8=>k_is)
  (case c8=>k_is)
  (case k8=>k_is)
  (case a9=>k_is)
  (case l9=>k_is)
  (case c9=>k_is)
  (case k9=>k_is)
  (case a10=>k_is)
  (case l10=>k_is)
  (case c10=>k_is)
  (case k10=>k_is)
  (case a11=>k_is)
  (case l11=>k_is)
  (case c11=>k_is)
  (case k11=>k_is)
  (case a12=>k_is)
  (case l12=>k_is)
  (case c12=>k_is)
  (case k12=>k_is)
  (case a13=>k_is)
  (case l13=>k_is)
  (case c13=>k_is)
  (case k13=>k_is)
  (case a14=>k_is)
  (case l14=>k_is)
  (case c14=>k_is)
  (case k14=>k_is)
  (case a15=>k_is)
  (case l15=>k_is)
  (case c15=>k_is)
  (case k15=>k_is)
  (case a16=>k_is)
  (case l16=>k_is)
  (case c16=>k_is)
  (case k16=>k_is)
  (case a17=>k_is)
  (case l17=>k_is)
  (case c17=>k_is)
  (case k17=>k_is)
  (case a18=>k_is)
  (case l18=>k_is)
  (case c18=>k_is)
  (case k18=>k_is)
  (case a19=>k_is)
  (case l19=>k_is)
  (case c19=>k_is)
  (case k19=>k_is)
  (case a20=>k_is)
  (case l20=>k_is)
  (case c20=>k_is)
  (case k20=>k_is)
  (case a21=>k_is)
  (case l21=>k_is)
  (case c21=>k_is)
  (case k21=>k_is)
  (case a22=>k_is)
  (case l22=>k_is)
  (case c22=>k_is)
  (case k22=>k_is)
  (case a23=>k_is)
  (case l23=>k_is)
  (case c23=>k_is)
  (case k23=>k_is)
  (case a24=>k_is)
  (case l24=>k_is)
  (case c24=>k_is)
  (case k24=>k_is)
  (case a25=>k_is)
  (case l25=>k_is)
  (case c25=>k_is)
  (case k25=>k_is)
  (case a26=>k_is)
  (case l26=>k_is)
  (case c26=>k_is)
  (case k26=>k_is)
  (case a27=>k_is)
  (case l27=>k_is)
  (case c27=>k_is)
  (case k27=>k_is)
  (case a28=>k_is)
  (case l28=>k_is)
  (case c28=>k_is)
  (case k28=>k_is)
  (case a29=>k_is)
  (case l29=>k_is)
  (case c29=>k_is)
  (case k29=>k_is)
  (case a30=>k_is)
  (case l30=>k_is)
  (case c30=>k_is)
  (case k30=>k_is)
  (case a31=>k_is)
  (case l31=>k_is)
  (case c31=>k_is)
  (case k31=>k_is)
  (case a32=>k_is)
  (case l32=>k_is)
  (case c32=>k_is)
  (case k32=>k_is)
  (case a33=>k_is)
  (case l33=>k_is)
  (case c33=>k_is)
  (case k33=>k_is)
  (case a34=>k_is)
  (case l34=>k_is)
  (case c34=>k_is)
  (case k34=>k_is)
  (case a35=>k_is)
  (case l35=>k_is)
  (case c35=>k_is)
  (case k35=>k_is)
  (case a36=>k_is)
  (case l36=>k_is)
  (case c36=>k_is)
  (case k36=>k_is)
  (case a37=>k_is)
  (case l37=>k_is)
  (case c37=>k_is)
  (case k37=>k_is)
  (case a38=>k_is)
  (case l38=>k_is)
  (case c38=>k_is)
  (case k38=>k_is)
  (case a39=>k_is)
  (case l39=>k_is)
  (case c39=>k_is)
  (case k39=>k_is)
  (case a40=>k_is)
  (case l40=>k_is)
  (case c40=>k_is)
  (case k40=>k_is)
  (case a41=>k_is)
  (case l41=>k_is)
  (case c41=>k_is)
  (case k41=>k_is)
  (case a42=>k_is)
  (case l42=>k_is)
  (case c42=>k_is)
  (case k42=>k_is)
  (case a43=>k_is)
  (case l43=>k_is)
  (case c43=>k_is)
  (case k43=>k_is)
  (case a44=>k_is)
  (case l44=>k_is)
  (case c44=>k_is)
  (case k44=>k_is)
  (case a45=>k_is)
  (case l45=>k_is)
  (case c45=>k_is)
  (case k45=>k_is)
  (case a46=>k_is)
  (case l46=>k_is)
  (case c46=>k_is)
  (case k46=>k_is)
  (case a47=>k_is)
  (case l47=>k_is)
  (case c47=>k_is)
  (case k47=>k_is)
  (case a48=>k_is)
  (case l48=>k_is)
  (case c48=>k_is)
  (case k48=>k_is)
  (case a49=>k_is)
  (case l49=>k_is)
  (case c49=>k_is)
  (case k49=>k_is)
  (case a50=>k_is)
  (case l50=>k_is)
  (case c50=>k_is)
  (case k50=>k_is)
  (case a51=>k_is)
  (case l51=>k_is)
  (case c51=>k_is)
  (case k51=>k_is)
  (case u_MOST=>k_is)
  (case y_range=>k_is)
  (case y_len=>k_is)
  (case y_all=>k_is)
  (case y_set=>k_is)
  (case y_max=>k_is)
  (case y_list=>k_is)
  (case y_min=>k_is)
  (case y_int=>k_is)
  (case y_isinstance=>k_is)
  (case y_bool=>k_is)
