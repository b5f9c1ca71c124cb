import PyProof.Rows.All
import Wide.All
import OpenK.AllK
import Wide.FinOn
import Lean
import PyProof.EqAt
import PyProof.EqKinds
import PyProof.TupleCall
import KE.KDictList
import KE.LcSums
import KE.KRevSl
import KE.KMinKey
import PyProof.ZipIter
import PyProof.Rows.ZipGen
import PyProof.Rows.SumAny
import KE.KLam
import KE.KSortKey
import PyProof.WalkInts
import KE.KIntText
import PySem.Challenge.RW_cotreehall_k77_the_eight_kinds
set_option compiler.extract_closed false
set_option Elab.async false
section
open PySem PySem.W PyProof.Rows
set_option maxRecDepth 100000
set_option maxHeartbeats 0
namespace Z
def zcd (tb:String->Option Builtin)(p:Program)(w:World)(n₀:Nat)(ann:Option Value):Nat->SharedT->Thread->Option SharedT
 |0,_,_=>none
 |n+1,s,t=>match through t with
  |true=>some s
  |false=>match stepOk n₀ ann t with
   |false=>none
   |true=>match stepT (denote tb) p w s t with
    |some (s',t')=>zcd tb p w n₀ ann n s' t'
    |none=>none
theorem zdd {tb:String->Option Builtin}{p:Program}{w:World}{n₀:Nat}{ann:Option Value}:∀ {n:Nat} {s s':SharedT} {t:Thread},zcd tb p w n₀ ann n s t=some s'->topRun tb p w n₀ ann n s.abs t=some s'.abs
 |0,_,_,_,h=>by cases h
 |n+1,s,s',t,h=>by
  unfold zcd at h;unfold topRun;cases he:through t with
  |true=>rw [he] at h;cases h;rfl
  |false=>
   rw [he] at h;cases hk:stepOk n₀ ann t with
   |false=>rw [hk] at h;cases h
   |true=>
    rw [hk] at h;cases hs:stepT (denote tb) p w s t with
    |none=>rw [hs] at h;cases h
    |some r=>obtain ⟨s₂,t₂⟩:=r;rw [hs] at h;rw [stepT_spec hs];exact zdd h
def bld:List Obj->Nat->BT->BT
 | [],_,t=>t
 |o::l,i,t=>bld l (i+1) (t.ins i o)
noncomputable def T0 (P:Params):BT:=bld (boot_heap P).objs.toList 0 .nil
theorem zj5 (P:Params):absHeap (T0 P) 11 (boot_heap P).life=boot_heap P:=by kernel_rfl
def YT (as:List Addr)(s:SharedT):Option (List (Option Obj)):=match as.all fun a=>Nat.blt a s.n with
 |true=>match as.mapM fun a=>s.tree.get a with
  |some os=>some (os.map alive)
  |none=>none
 |false=>none
theorem ziN {s:SharedT}{a:Addr}{o:Obj}(h:Nat.blt a s.n=true)(g:s.tree.get a=some o):s.abs.heap.get? a=alive o:=abs_get (Nat.le_of_ble_eq_true h) g
theorem zhg {s:SharedT}:∀ {as:List Addr} {os:List Obj},(as.all fun a=>Nat.blt a s.n)=true->(as.mapM fun a=>s.tree.get a)=some os->as.map s.abs.heap.get? =os.map alive
 | [],os,_,h=>by
  rw [List.mapM_nil] at h;cases h;rfl
 |a::as,os,hl,h=>by
  rw [List.all_cons,Bool.and_eq_true] at hl;rw [List.mapM_cons] at h;cases ga:s.tree.get a with
  |none=>rw [ga] at h;cases h
  |some o=>
   cases gs:as.mapM fun a=>s.tree.get a with
   |none=>rw [ga,gs] at h;cases h
   |some os'=>
    rw [ga,gs] at h;cases h;rw [List.map_cons,List.map_cons,ziN hl.1 ga,zhg hl.2 gs]
theorem zj6 {s:SharedT}{as:List Addr}{y:List (Option Obj)}(h:YT as s=some y):as.map s.abs.heap.get? =y:=by
 unfold YT at h;cases hl:as.all fun a=>Nat.blt a s.n with
 |false=>rw [hl] at h;cases h
 |true=>
  rw [hl] at h;cases hm:as.mapM fun a=>s.tree.get a with
  |none=>rw [hm] at h;cases h
  |some os=>rw [hm] at h;cases h;exact zhg hl hm
theorem zfK {p q:Program}{loose:List Str}{Xt:Shared->Bool}{K:Params->Frag}{as:List Addr}{e0:∀ P,as=(K P).map (·.1)}{N:Nat}(hN:Nat.ble 600 N=true)(e:opening p=plainProg p.main.scope.names)(f:∀ s,fenceModules? p s=some s)
  (size:∀ w:World,((boot_heap w.params).isNs mainGlobals,(boot_heap w.params).nsMap mainGlobals "__annotations__")=(true,some (.ref 6)))
  (runA:∀ (w:World) (os:OsState),(zcd treeTable p w 11 (some (.ref 6)) N ⟨T0 w.params,11,(boot_heap w.params).life,#[],boot_drawn,boot_toks,os⟩ (topStub p)).map (fun s=>((staticsOk (importedModules p.main.body) (boot_heap w.params) s.abs.heap&&namesBound p s.abs.heap&&gensDone s.abs&&laidKept (boot_heap w.params) s.abs.heap),
    openSeen q loose (importedModules p.main.body) Xt true s.abs))=some (true,openGood q loose))
  (runB:∀ (w:World) (os:OsState),(zcd treeTable p w 11 (some (.ref 6)) N ⟨T0 w.params,11,(boot_heap w.params).life,#[],boot_drawn,boot_toks,os⟩ (topStub p)).map (YT as)=some (some ((K w.params).map fun p=>some p.2))):LeftO p q loose Xt (Hook.obs (kHook K as e0)) (Hook.val (kHook K as e0)) N:=fun w=>by
 obtain ⟨⟨h,gs,d,k,os⟩,e1,e'⟩:=Option.map_eq_some_iff.mp (boot_open (N:=N) e hN f w);obtain ⟨rfl,rfl,rfl,rfl⟩:h=boot_heap w.params/\gs= #[]/\d=boot_drawn/\k=boot_toks:=by simpa using e'
 obtain ⟨z1,z3⟩:_/\_:=by simpa only [Prod.mk.injEq] using size w
 obtain ⟨s',r,l⟩:=Option.map_eq_some_iff.mp (runA w os);obtain ⟨s2,r2,l3⟩:=Option.map_eq_some_iff.mp (runB w os);obtain rfl:s'=s2:=Option.some.inj (r.symm.trans r2);have l3:=zj6 l3;obtain ⟨l1,l2⟩:_/\_:=by simpa only [Prod.mk.injEq] using l
 have r:=zdd r;have ea:SharedT.abs ⟨T0 w.params,11,(boot_heap w.params).life,#[],boot_drawn,boot_toks,os⟩=⟨boot_heap w.params,#[],boot_drawn,boot_toks,os⟩:=by unfold SharedT.abs;rw [zj5]
 rw [ea] at r;have z2:(boot_heap w.params).objs.size=11:=rfl;have t:topFrom treeTable p w N ⟨boot_heap w.params,#[],boot_drawn,boot_toks,os⟩=some s'.abs:=by
  unfold topFrom;dsimp only;rw [z1,z2,z3,r];show (match staticsOk (importedModules p.main.body) (boot_heap w.params) s'.abs.heap&&namesBound p s'.abs.heap&&gensDone s'.abs&&laidKept (boot_heap w.params) s'.abs.heap with|true=>_|false=>_)=_
  rw [l1]
 unfold openEnds;rw [e1];show (topFrom treeTable p w N _).map _=_
 rw [t];exact congrArg some (Prod.ext l2 l3)
abbrev vw:Program:=view PySem.Challenge.pw_cotreehall_k77_the_eight_kinds [29]
abbrev lo:List Str:=(["_wall","__name__","HallError","NoPoint","NoWeb","NoTie","NoText","NoKind","NoRow","NoName","Kind","Sided","Rounds","Split","Steps","Joins","Ranked","Turned","Spans","kinds","kind_of","_law_mix","_law_words","_law_word","_law_marks","_law_is_kind","_law_refused"]:List String).map Str.ofString
abbrev rw1:RowW:=PySem.Challenge.rw_cotreehall_k77_the_eight_kinds.row.toRowW
theorem runA (w:World)(os:OsState):(zcd treeTable PySem.Challenge.pw_cotreehall_k77_the_eight_kinds w 11 (some (.ref 6)) 11748 ⟨T0 w.params,11,(boot_heap w.params).life,#[],boot_drawn,boot_toks,os⟩ (topStub PySem.Challenge.pw_cotreehall_k77_the_eight_kinds)).map (fun s=>((staticsOk (importedModules PySem.Challenge.pw_cotreehall_k77_the_eight_kinds.main.body) (boot_heap w.params) s.abs.heap&&namesBound PySem.Challenge.pw_cotreehall_k77_the_eight_kinds s.abs.heap&&gensDone s.abs&&laidKept (boot_heap w.params) s.abs.heap),
        openSeen vw lo (importedModules PySem.Challenge.pw_cotreehall_k77_the_eight_kinds.main.body) (fun s=>xlAt vw [] s&&recOk (RowW.records rw1) s) true s.abs))=some (true,openGood vw lo):=by kernel_rfl
end Z
local macro_rules
 | `(tactic| o_head $H:term) => `(tactic| (refine holds_open (q := Z.vw) (loose := Z.lo) (Xt := fun s => xlAt Z.vw [] s && recOk (RowW.records Z.rw1) s) (XP := XL Z.vw []) (Yf := Hook.obs $H) (Ya := Hook.val $H) (YP := Hook.says $H) (N := 11748) ?hl (Hook.of $H) (Hook.keeps $H) (fun s e => xl_of s (Bool.and_eq_true_iff.mp e).1) XL.keeps (by rfl) (by rfl) (by rfl) (fun s e => recFacts_of (Bool.and_eq_true_iff.mp e).2) (by rfl) (by first | assumption | decide +kernel) (by decide +kernel) ⟨rfl, rfl, rfl, rfl, rfl, by decide +kernel⟩ ?hw ?hc; (case hl => exact Z.zfK (by decide +kernel) (by kernel_rfl) (fun _ => by kernel_rfl) (fun _ => by kernel_rfl) Z.runA (fun w os => by kernel_rfl))))
open_top Z.hd for PySem.Challenge.rw_cotreehall_k77_the_eight_kinds
end
set_option linter.all false
set_option maxRecDepth 100000
namespace L2
open PySem PySem.Spec PyProof.Rows
noncomputable abbrev Key:=Sum Int Str
noncomputable def ziO:Key->Value->Bool
 | .inl k,v=>Value.isInt k v
 | .inr x,v=>Value.isStrOf x v
noncomputable def zk1 (w:World):Key->Int
 | .inl k=>hashInt k
 | .inr x=>hashStr w x
theorem zat:∀ {k:Key} {v:Value},ziO k v=true->(∃ i t,k=Sum.inl i/\v=Value.int i t)\/(∃ x t,k=Sum.inr x/\v=Value.str x t)
 | .inl i,v,h=>by
  obtain ⟨t,e⟩:=Value.isInt_shape (k:=i) (v:=v) h;exact .inl ⟨i,t,rfl,e⟩
 | .inr x,v,h=>by
  obtain ⟨t,e⟩:=Value.isStrOf_shape (x:=x) (v:=v) h;exact .inr ⟨x,t,rfl,e⟩
theorem ziP (a b:Int):decide ((Sum.inl a:Key)=Sum.inl b)=(a==b):=by
 by_cases e:a=b
 ·subst e;simp
 ·have h:¬ (Sum.inl a:Key)=Sum.inl b:=fun q=>e (Sum.inl.inj q);rw [decide_eq_false h];exact (beq_eq_false_iff_ne.mpr e).symm
theorem ziQ (a b:Str):decide ((Sum.inr a:Key)=Sum.inr b)=decide (a=b):=by
 by_cases e:a=b
 ·subst e;simp
 ·have h:¬ (Sum.inr a:Key)=Sum.inr b:=fun q=>e (Sum.inr.inj q);rw [decide_eq_false h,decide_eq_false e]
theorem ziR (a:Int)(b:Str):decide ((Sum.inl a:Key)=Sum.inr b)=false:=decide_eq_false (fun q=>nomatch q)
theorem ziS (a:Str)(b:Int):decide ((Sum.inr a:Key)=Sum.inl b)=false:=decide_eq_false (fun q=>nomatch q)
noncomputable def zfL (prog:Program)(w:World):PySem.KeyKind prog w Key where
 is:=ziO
 hash:=zk1 w
 inj:=fun v a b ha hb=>by
  rcases zat ha with ⟨i,t,rfl,rfl⟩|⟨x,t,rfl,rfl⟩
  ·rcases zat hb with ⟨j,u,rfl,e⟩|⟨y,u,rfl,e⟩
   ·injection e with e1 _;rw [e1]
   ·exact nomatch e
  ·rcases zat hb with ⟨j,u,rfl,e⟩|⟨y,u,rfl,e⟩
   ·exact nomatch e
   ·injection e with e1 _;rw [e1]
 byValue:=fun k v h=>by
  rcases zat h with ⟨i,t,rfl,rfl⟩|⟨x,t,rfl,rfl⟩<;>rfl
 pyHash:=fun hv h=>by
  rcases zat hv with ⟨i,t,rfl,rfl⟩|⟨x,t,rfl,rfl⟩
  ·exact wpAny_pyHash_int h
  ·exact wpAny_pyHash_str h
 eqBool:=fun hu hv h=>by
  rcases zat hu with ⟨i,t,rfl,rfl⟩|⟨x,t,rfl,rfl⟩
  ·rcases zat hv with ⟨j,u,rfl,rfl⟩|⟨y,u,rfl,rfl⟩
   ·rw [ziP] at h;exact wpAny_eqBool_int h
   ·rw [ziR] at h;exact SeqAt.EqAt.int_str i t y u _ _ _ _ h
  ·rcases zat hv with ⟨j,u,rfl,rfl⟩|⟨y,u,rfl,rfl⟩
   ·rw [ziS] at h;exact SeqAt.EqAt.str_int x t j u _ _ _ _ h
   ·rw [ziQ] at h;exact wpAny_eqBool_str h
 «strs» :=fun k x t v h=>by
  rcases zat h with ⟨i,u,rfl,e⟩|⟨y,u,rfl,e⟩
  ·exact nomatch e
  ·injection e with e1 _;subst e1;cases v<;>rfl
end L2
namespace L2
open PySem PySem.Spec PyProof.Rows
inductive V where
 |non|bl (b:Bool)|int (i:Int)|str (x:Str)|byt (b:Array UInt8)|flt (b:UInt64)|ref (a:Addr)|ty (n:String)
 deriving DecidableEq
noncomputable def RelV:V->Value->Prop
 | .non,u=>u=Value.none
 | .bl b,u=>u=Value.bool b
 | .int i,u=>∃ t,u=Value.int i t
 | .str x,u=>∃ t,u=Value.str x t
 | .byt b,u=>∃ t,u=Value.bytes b t
 | .flt b,u=>∃ t,u=Value.float b t
 | .ref a,u=>u=Value.ref a
 | .ty n,u=>u=Value.type n
noncomputable abbrev Vals:List V->List Value->Prop:=Paired RelV
theorem Vals.length {xs:List V}{us:List Value}(r:Vals xs us):xs.length=us.length:=Paired.length r
theorem Vals.get:∀ {xs:List V} {us:List Value} {i:Nat} {x:V},Vals xs us->xs[i]? =some x->∃ u,us[i]? =some u/\RelV x u
 |_,_,_,_,.nil,e=>by simp at e
 |_,_,0,_,.cons r _,e=>by simp at e;subst e;exact ⟨_,rfl,r⟩
 |_,_,i+1,x,.cons _ t,e=>by
  obtain ⟨u,h1,h2⟩:=Vals.get (i:=i) (x:=x) t (by simpa using e);exact ⟨u,by simpa using h1,h2⟩
theorem Vals.set {x:V}{u:Value}(r:RelV x u):∀ {xs:List V} {us:List Value} (i:Nat),Vals xs us->Vals (xs.set i x) (us.set i u)
 |_,_,_,.nil=>.nil
 |_,_,0,.cons _ t=>.cons r t
 |_,_,i+1,.cons q t=>.cons q (Vals.set r i t)
theorem Vals.append:∀ {xs ys:List V} {us ws:List Value},Vals xs us->Vals ys ws->Vals (xs++ys) (us++ws):=by
 intro xs
 induction xs with
 |nil=>intro ys us ws h s;cases h;exact s
 |cons x xs ih=>
  intro ys us ws h s;cases h with
  |cons r t=>exact .cons r (ih t s)
theorem Vals.take:∀ {xs:List V} {us:List Value} (n:Nat),Vals xs us->Vals (xs.take n) (us.take n)
 |_,_,0,_=>.nil
 |_,_,_+1,.nil=>.nil
 |_,_,n+1,.cons r t=>.cons r (Vals.take n t)
theorem Vals.drop:∀ {xs:List V} {us:List Value} (n:Nat),Vals xs us->Vals (xs.drop n) (us.drop n)
 |_,_,0,r=>r
 |_,_,_+1,.nil=>.nil
 |_,_,n+1,.cons _ t=>Vals.drop n t
theorem Vals.none_of:∀ {xs:List V} {us:List Value} {i:Nat},Vals xs us->xs[i]? =none->us[i]? =none:=fun {xs us i} r e=>by
 have h1:=r.length;have h2:xs.length<=i:=List.getElem?_eq_none_iff.mp e;exact List.getElem?_eq_none_iff.mpr (by omega)
noncomputable def RelO:Option V->Option Value->Prop
 |some v,some u=>RelV v u
 |none,none=>True
 |_,_=>False
noncomputable def KV {κ:Type}:List (κ×V)->List (κ×Value)->Prop:=Paired fun (p:κ×V) (q:κ×Value)=>p.1=q.1/\RelV p.2 q.2
noncomputable def kV:Key->V
 | .inl i=>.int i
 | .inr x=>.str x
inductive HO where
  |lst (xs:List V)
  |tup (xs:List V)
  |dK (kvs:List (Key×V))|dT (kvs:List (List Key×V))
  |set (S:Int->Bool)(n:Nat)
  |ins (C dx:Addr)(fs:List (Str×V))
  |own (x:Addr)
  |xd (fs:List (Str×V))
  |met (f x:Addr)
  |rng (lo hi:Int)
  |frz (o:Obj)(u:HO)
  |tbl (ps:Array Value)
  |ext (φ:Heap->Prop)
noncomputable abbrev Hp:=Addr->Option HO
noncomputable def upd (H:Hp)(a:Addr)(o:HO):Hp:=fun b=>if b=a then some o else H b
theorem zas {H:Hp}{a:Addr}{o:HO}:upd H a o a=some o:=by unfold upd;rw [if_pos rfl]
theorem upd_ne {H:Hp}{a b:Addr}{o:HO}(h:b≠a):upd H a o b=H b:=by unfold upd;rw [if_neg h]
theorem zan {H:Hp}{a b:Addr}{o:HO}(h:H a=some o)(h':H b=none):a≠b:=by
 intro e;subst e;rw [h] at h';cases h'
section
variable (P:Program)(w:World)
noncomputable def ObjOk (H:Hp)(h:Heap)(a:Addr):HO->Prop
 | .lst xs=>xs.length<=sizeLine/\∃ (its:List Value) (n:Nat),Vals xs its/\h.get? a=some {cls:=.type "list",data:=.seq its.toArray n}
 | .tup xs=>xs.length<=sizeLine/\∃ its:List Value,Vals xs its/\IsTup h a its.toArray
 | .dK kvs=>kvs.length<=sizeLine/\(a==sysModules)=false/\∃ vs,KV kvs vs/\h.DictOf (zfL P w) a vs
 | .dT kvs=>kvs.length<=sizeLine/\(a==sysModules)=false/\∃ xs:List (List Key×Addr×Value),
   Paired (fun (p:List Key×V) (q:List Key×Addr×Value)=>p.1=q.1/\H q.2.1=some (.tup (p.1.map kV))/\RelV p.2 q.2.2) kvs xs/\
   ∃ o es ep,h.get? a=some o/\o.ExactDict/\o.data= .dict es ep/\es.toList=xs.map (entryOfKey (tupleKind (zfL P w)))/\(xs.map (·.1)).Nodup
 | .set S n=>h.SetOf (intKind P w) a S n
 | .ins C dx fs=>H dx=some (.own a)/\fs.length<=1000/\dx≠a/\h.get? a=some (PySem.W.instObj C dx)/\
   ∃ mA,h.Ns1 dx mA/\(∀ f,RelO (fs.lookup f) (mA f))/\PySem.Within mA (fs.map (·.1))
 | .own _=>∃ o,h.get? a=some o
 | .xd fs=>∃ mA,h.Ns1 a mA/\∀ f,RelO (fs.lookup f) (mA f)
 | .rng lo hi=>∃ t u v,h.get? a=some {cls:=.type "range",data:=.fields #[.int lo t,.int hi u,.int 1 v]}
 | .frz o u=>h.get? a=some o/\ObjOk H h a u
 | .tbl ps=>h.get? a=some {cls:=.none,data:=.fields ps}
 | .met f x=>h.get? a=some (PySem.W.methodObj (.ref f) (.ref x))
 | .ext φ=>φ h/\(∃ o,h.get? a=some o)/\∀ h1 h2:Heap,φ h1->(∀ o,h1.get? a=some o->h2.get? a=some o)->φ h2
noncomputable def HOk (H:Hp)(h:Heap):Prop:=∀ a o,H a=some o->ObjOk P w H h a o
end
section
variable {P:Program}{w:World}{H H':Hp}{h h':Heap}{a:Addr}{o:HO}
theorem ObjOk.lt (x:ObjOk P w H h a o):a<h.objs.size:=by
 cases o with
 |lst xs=>obtain ⟨_,_,_,_,e⟩:=x;exact Heap.lt_size e
 |tup xs=>obtain ⟨_,_,_,p⟩:=x;exact p.lt
 |dK kvs=>obtain ⟨_,_,_,_,o,_,_,e,_⟩:=x;exact Heap.lt_size e
 |dT kvs=>obtain ⟨_,_,_,_,o,_,_,e,_⟩:=x;exact Heap.lt_size e
 |set S n=>obtain ⟨o,_,_,_,e,_⟩:=x;exact Heap.lt_size e
 |ins C dx fs=>obtain ⟨_,_,_,e,_⟩:=x;exact Heap.lt_size e
 |own y=>obtain ⟨_,e⟩:=x;exact Heap.lt_size e
 |xd fs=>obtain ⟨_,⟨_,_,_,e,_⟩,_⟩:=x;exact Heap.lt_size e
 |rng lo hi=>obtain ⟨_,_,_,e⟩:=x;exact Heap.lt_size e
 |frz ob u=>obtain ⟨e,_⟩:=x;exact Heap.lt_size e
 |tbl ps=>exact Heap.lt_size (show h.get? a=some _ from x)
 |met f y=>exact Heap.lt_size (show h.get? a=some _ from x)
 |ext φ=>obtain ⟨_,⟨_,e⟩,_⟩:=x;exact Heap.lt_size e
theorem Paired.mapP {α β:Type}{F G:α->β->Prop}:∀ {l₁:List α} {l₂:List β},Paired F l₁ l₂->(∀ a b,F a b->G a b)->Paired G l₁ l₂:=by
 intro l₁
 induction l₁ with
 |nil=>intro l₂ h f;cases h;exact .nil
 |cons x xs ih=>
  intro l₂ h f;cases h with
  |cons r t=>exact .cons (f _ _ r) (ih t f)
theorem ObjOk.stay (x:ObjOk P w H h a o)(k:∀ b u,(b=a\/H b=some (.own a))->h.get? b=some u->h'.get? b=some u)
  (ho:∀ b,H b=some (.own a)->H' b=some (.own a))(ht:∀ b xs,H b=some (.tup xs)->H' b=some (.tup xs)):ObjOk P w H' h' a o:=by
 induction o with
 |lst xs=>obtain ⟨z,its,n,r,e⟩:=x;exact ⟨z,its,n,r,k _ _ (.inl rfl) e⟩
 |tup xs=>obtain ⟨z,its,r,ob,e,c⟩:=x;exact ⟨z,its,r,ob,k _ _ (.inl rfl) e,c⟩
 |dK kvs=>obtain ⟨z,y,vs,r,ob,es,ep,e,c⟩:=x;exact ⟨z,y,vs,r,ob,es,ep,k _ _ (.inl rfl) e,c⟩
 |dT kvs=>
  obtain ⟨z,y,xs,r,ob,es,ep,e,c⟩:=x;exact ⟨z,y,xs,Paired.mapP r fun p q z=>⟨z.1,ht _ _ z.2.1,z.2.2⟩,ob,es,ep,k _ _ (.inl rfl) e,c⟩
 |set S n=>obtain ⟨ob,es,ep,t,e,c⟩:=x;exact ⟨ob,es,ep,t,k _ _ (.inl rfl) e,c⟩
 |ins C dx fs=>
  obtain ⟨d,z,ne,e,mA,⟨od,es,ep,e2,c⟩,r⟩:=x;exact ⟨ho _ d,z,ne,k _ _ (.inl rfl) e,mA,⟨od,es,ep,k _ _ (.inr d) e2,c⟩,r⟩
 |own y=>obtain ⟨ob,e⟩:=x;exact ⟨ob,k _ _ (.inl rfl) e⟩
 |xd fs=>obtain ⟨mA,⟨od,es,ep,e,c⟩,r⟩:=x;exact ⟨mA,⟨od,es,ep,k _ _ (.inl rfl) e,c⟩,r⟩
 |rng lo hi=>obtain ⟨t,u,v,e⟩:=x;exact ⟨t,u,v,k _ _ (.inl rfl) e⟩
 |frz ob u ih=>obtain ⟨e,q⟩:=x;exact ⟨k _ _ (.inl rfl) e,ih q⟩
 |tbl ps=>
  have e:h.get? a=some {cls:=.none,data:=.fields ps}:=x;show h'.get? a=some {cls:=.none,data:=.fields ps};exact k a _ (.inl rfl) e
 |met f y=>
  have e:h.get? a=some (PySem.W.methodObj (.ref f) (.ref y)):=x;show h'.get? a=some (PySem.W.methodObj (.ref f) (.ref y))
  exact k a _ (.inl rfl) e
 |ext φ=>obtain ⟨p,⟨o,e⟩,st⟩:=x;exact ⟨st _ _ p fun o q=>k _ _ (.inl rfl) q,⟨o,k _ _ (.inl rfl) e⟩,st⟩
theorem HOk.lt (x:HOk P w H h)(e:H a=some o):a<h.objs.size:=(x a o e).lt
theorem HOk.fresh (x:HOk P w H h)(e:h.objs.size<=a):H a=none:=by
 cases q:H a with
 |none=>rfl
 |some u=>exact absurd (Nat.lt_of_lt_of_le (x.lt q) e) (Nat.lt_irrefl _)
theorem HOk.kept (x:HOk P w H h)(k:∀ b u,h.get? b=some u->h'.get? b=some u):HOk P w H h':=fun a o e=>
 (x a o e).stay (fun b u _ q=>k b u q) (fun _ q=>q) fun _ _ q=>q
theorem HOk.laid (x:HOk P w H h)(k:∀ b u,h.get? b=some u->h'.get? b=some u)(hp:h.objs.size<=a)(new:ObjOk P w (upd H a o) h' a o):HOk P w (upd H a o) h':=fun b u e=>by
 have hn:=x.fresh hp;by_cases hb:b=a
 ·subst hb;rw [zas] at e;cases e;exact new
 ·rw [upd_ne hb] at e;exact (x b u e).stay (fun c v _ q=>k c v q) (fun c q=>by rw [upd_ne (zan q hn)];exact q) fun c xs q=>by rw [upd_ne (zan q hn)];exact q
end
noncomputable def Rd (H:Hp)(a:Addr)(u:HO):Prop:=H a=some u\/∃ o,H a=some (.frz o u)
theorem Rd.of {H:Hp}{a:Addr}{u:HO}(h:H a=some u):Rd H a u:=.inl h
theorem Rd.ok {P:Program}{w:World}{H:Hp}{h:Heap}{a:Addr}{u:HO}(r:Rd H a u)(x:HOk P w H h):ObjOk P w H h a u:=by
 rcases r with r|⟨o,r⟩
 ·exact x a u r
 ·obtain ⟨_,q⟩:=x a _ r;exact q
noncomputable def Mut:Option HO->Prop
 |some (.lst _)=>True
 |some (.dK _)=>True
 |some (.dT _)=>True
 |some (.set _ _)=>True
 |some (.ins _ _ _)=>True
 |some (.ext _)=>True
 |_=>False
section
variable {P:Program}{w:World}{H:Hp}{h h':Heap}{x e:Addr}{o':HO}
theorem HOk.write (ok:HOk P w H h)(mu:Mut (H x))(he:e=x\/H e=some (.own x))(k:∀ b u,b≠e->h.get? b=some u->h'.get? b=some u)(heo:∃ u,h'.get? e=some u)
  (new:ObjOk P w (upd H x o') h' x o'):HOk P w (upd H x o') h':=fun b u q=>by
 have nown:∀ c y,H c=some (.own y)->c≠x:=fun c y r z=>by subst z;rw [r] at mu;exact mu
 have ntup:∀ c xs,H c=some (.tup xs)->c≠x:=fun c xs r z=>by subst z;rw [r] at mu;exact mu
 by_cases hb:b=x
 ·subst hb;rw [zas] at q;cases q;exact new
 ·rw [upd_ne hb] at q;by_cases hbe:b=e
  ·have q':H b=some (.own x):=by
    rcases he with z|z
    ·exact absurd (hbe.trans z) hb
    ·rw [hbe];exact z
   rw [q] at q';cases q';obtain ⟨v,hv⟩:=heo;exact ⟨v,by rw [hbe];exact hv⟩
  ·refine (ok b u q).stay (fun c v hc r=>k c v ?_ r) (fun c r=>by rw [upd_ne (nown c b r)];exact r) fun c xs r=>by rw [upd_ne (ntup c xs r)];exact r
   rcases hc with rfl|hc
   ·exact hbe
   ·rintro rfl;rcases he with z|z
    ·exact nown c b hc z
    ·rw [hc] at z;cases z;exact hb rfl
end
structure Un (fs ex:List Addr)(H H':Hp)(h h':Heap):Prop where
 keep:∀ b o,h.get? b=some o->H b=none->b∉fs->b∉ex->h'.get? b=some o
 slot:∀ b o,h.get? b=some o->H b=none->b∈fs->b∉ex->∃ sl,h'.get? b=some {o with slots:=sl}
 free:∀ b o,h.get? b=some o->H b=none->b∉ex->H' b=none
 there:∀ b o,h.get? b=some o->b∉ex->∃ o',h'.get? b=some o'
 tups:∀ b xs,H b=some (.tup xs)->H' b=some (.tup xs)
 frzs:∀ b o u,H b=some (.frz o u)->H' b=some (.frz o u)
 tbls:∀ b ps,H b=some (.tbl ps)->∃ more,H' b=some (.tbl (ps++more))
section
variable {fs fs' ex ex':List Addr}{H H1 H2:Hp}{h h1 h2 h':Heap}{a x e:Addr}{o:HO}
theorem Un.any (u:Un fs ex H H1 h h1){b:Addr}{ob:Obj}(q:h.get? b=some ob)(n:H b=none)(hx:b∉ex):∃ sl,h1.get? b=some {ob with slots:=sl}:=by
 by_cases hb:b∈fs
 ·exact u.slot b ob q n hb hx
 ·exact ⟨ob.slots,u.keep b ob q n hb hx⟩
theorem Un.trans (a:Un fs ex H H1 h h1)(b:Un fs ex H1 H2 h1 h2):Un fs ex H H2 h h2 where
 keep:=fun c ob q n hc hx=>b.keep c ob (a.keep c ob q n hc hx) (a.free c ob q n hx) hc hx
 slot:=fun c ob q n hc hx=>by
  obtain ⟨sl,e1⟩:=a.slot c ob q n hc hx;obtain ⟨sl',e2⟩:=b.slot c _ e1 (a.free c ob q n hx) hc hx;exact ⟨sl',e2⟩
 free:=fun c ob q n hx=>by
  obtain ⟨o',e1⟩:=a.there c ob q hx;exact b.free c o' e1 (a.free c ob q n hx) hx
 there:=fun c ob q hx=>by
  obtain ⟨o',e1⟩:=a.there c ob q hx;exact b.there c o' e1 hx
 tups:=fun c xs q=>b.tups c xs (a.tups c xs q)
 frzs:=fun c ob xs q=>b.frzs c ob xs (a.frzs c ob xs q)
 tbls:=fun c ps q=>by
  obtain ⟨m1,e1⟩:=a.tbls c ps q;obtain ⟨m2,e2⟩:=b.tbls c _ e1;exact ⟨m1++m2,by rw [e2,Array.append_assoc]⟩
theorem Un.kept (k:∀ b u,h.get? b=some u->h'.get? b=some u):Un fs ex H H h h':=
 ⟨fun b ob q _ _ _=>k b ob q,fun b ob q _ _ _=>⟨ob.slots,k b ob q⟩,fun _ _ _ n _=>n,fun b ob q _=>⟨ob,k b ob q⟩,fun _ _ q=>q,fun _ _ _ q=>q,fun _ ps q=>⟨#[],by rw [q];simp⟩⟩
theorem Un.refl:Un fs ex H H h h:=Un.kept fun _ _ q=>q
theorem Un.laid (k:∀ b u,h.get? b=some u->h'.get? b=some u)(hp:h.objs.size<=a)(hn:H a=none):Un fs ex H (upd H a o) h h' where
 keep:=fun b u q _ _ _=>k b u q
 slot:=fun b u q _ _ _=>⟨u.slots,k b u q⟩
 free:=fun b u q n _=>by rw [upd_ne (Nat.ne_of_lt (Nat.lt_of_lt_of_le (Heap.lt_size q) hp))];exact n
 there:=fun b u q _=>⟨u,k b u q⟩
 tups:=fun b xs q=>by rw [upd_ne (zan q hn)];exact q
 frzs:=fun b u xs q=>by rw [upd_ne (zan q hn)];exact q
 tbls:=fun b ps q=>⟨#[],by rw [upd_ne (zan q hn),q];simp⟩
theorem Un.write (mu:Mut (H x))(he:e=x\/H e=some (.own x))(k:∀ b u,b≠e->h.get? b=some u->h'.get? b=some u)(heo:∃ u,h'.get? e=some u):Un fs ex H (upd H x o) h h':=by
 have hx:∀ b,H b=none->b≠x:=fun b n z=>by subst z;rw [n] at mu;exact mu
 have hb:∀ b,H b=none->b≠e:=fun b n z=>by
  subst z;rcases he with r|r
  ·exact hx b n r
  ·rw [n] at r;cases r
 have hm:∀ b u,H b=some u->¬ Mut (some u)->b≠x:=fun b u q nm z=>by subst z;rw [q] at mu;exact nm mu
 refine ⟨fun b u q n _ _=>k b u (hb b n) q,fun b u q n _ _=>⟨u.slots,k b u (hb b n) q⟩,fun b u q n _=>by rw [upd_ne (hx b n)];exact n,fun b u q _=>?_,
  fun b xs q=>by rw [upd_ne (hm b _ q fun z=>z)];exact q,fun b u xs q=>by rw [upd_ne (hm b _ q fun z=>z)];exact q,fun b ps q=>⟨#[],by rw [upd_ne (hm b _ q fun z=>z),q];simp⟩⟩
 by_cases hbe:b=e
 ·subst hbe;exact heo
 ·exact ⟨u,k b u hbe q⟩
theorem Un.mono (u:Un fs ex H H1 h h1)(hs:∀ b∈fs,b∈fs')(hx:∀ b∈ex,b∈ex'):Un fs' ex' H H1 h h1:=
 ⟨fun b ob q n hb he=>u.keep b ob q n (fun z=>hb (hs b z)) fun z=>he (hx b z),fun _ _ q n _ he=>u.any q n fun z=>he (hx _ z),fun b ob q n he=>u.free b ob q n fun z=>he (hx b z),fun b ob q he=>u.there b ob q fun z=>he (hx b z),u.tups,u.frzs,u.tbls⟩
end
noncomputable def trk (h:Heap)(H:Hp):List Addr:=(List.range h.objs.size).filter fun a=>(H a).isSome
noncomputable def zgH (h:Heap)(H:Hp):Heap:=PySem.W.hideAll h (trk h H)
theorem zfM (h:Heap)(H:Hp):(zgH h H).objs.size=h.objs.size:=PySem.W.hideAll_size _ _
theorem zgI {h:Heap}{H:Hp}{b:Addr}{o:Obj}(e:h.get? b=some o)(n:H b=none):(zgH h H).get? b=some o:=
 PySem.W.hideAll_get _ e fun hm=>by
  have q:(H b).isSome=true:=(List.mem_filter.mp hm).2;rw [n] at q;simp at q
theorem zhE {h:Heap}{H:Hp}{b:Addr}{o:Obj}(e:(zgH h H).get? b=some o):h.get? b=some o/\H b=none:=by
 have e':h.get? b=some o:=PySem.W.of_hideAll (trk h H) e;refine ⟨e',?_⟩;cases q:H b with
 |none=>rfl
 |some x=>
  have hm:b∈trk h H:=List.mem_filter.mpr ⟨List.mem_range.mpr (Heap.lt_size e'),by simp [q]⟩;have z:(zgH h H).get? b=none:=PySem.W.hideAll_none (trk h H) hm;rw [z] at e;cases e
noncomputable def zhF (g h:Heap)(L:Addr):List (Addr×Obj):=(List.range h.objs.size).filterMap fun a=>if a=L\/(g.get? a).isSome=true then none else (h.get? a).map fun o=>(a,o)
noncomputable def rest (g h:Heap)(L d:Addr):List (Addr×Obj):=(zhF g h L).filter fun p=>decide (p.1≠d)
end L2
namespace L2
open PySem PySem.Spec PyProof.Rows
structure Mod (K:PySem.W.Frag)(mg:Str->Option Value)(base:Heap):Prop where
 kin:K.In base
 glob:base.Ns mainGlobals mg
 blt:∃ mb,base.Ns builtinsNs mb/\∀ x:Str,x≠"__name__"->mb x=bootBuiltins x
 nolimit:base.NoLimit
structure Cx where
 prog:Program
 w:World
 K:PySem.W.Frag
 mg:Str->Option Value
 base:Heap
 A:Around
 N:List Str
 s₀:Shared
 H₀:Hp
 env:Env
 outer:List Env
 stack:List Env
 ex:List Addr
 fn:Str->Bool
 calm:Bool
 pn:List (Addr×Obj)
 xe:Value->Shared->Prop
noncomputable def frs (l:List Env):List Addr:=l.filterMap (·.frame)
noncomputable abbrev Cx.fs (X:Cx):List Addr:=frs X.outer
noncomputable def Vis (sc:Scope)(x:Str):Prop:=sc.names.lookup x=some .local\/sc.names.lookup x=some .cell\/sc.names.lookup x=some .free
noncomputable def Loc (sc:Scope)(x:Str):Prop:=sc.names.lookup x=some .local\/sc.names.lookup x=some .cell
noncomputable def zkM (env:Env)(h:Heap)(m:Str->Option Value)(x:Str)(u:Value):Prop:=
 (env.kindOf x=some .local/\m x=some u)\/((env.kindOf x=some .cell\/env.kindOf x=some .free)/\∃ c,env.cells.lookup x=some c/\h.IsCell c (some u))
structure Cx.Ok (X:Cx):Prop where
 mod:Mod X.K X.mg X.base
 kind:X.env.scope.kind= .function
 glob:X.env.globals=mainGlobals
 blt:X.env.builtins=builtinsNs
 above:X.s₀.heap.objs.size<=X.env.locals
 inj:∀ x y c,X.env.cells.lookup x=some c->X.env.cells.lookup y=some c->x=y
 has:∀ x,(X.env.kindOf x=some .cell\/X.env.kindOf x=some .free)->∃ c,X.env.cells.lookup x=some c
 cab:∀ x c,X.fn x=true->X.env.cells.lookup x=some c->X.s₀.heap.objs.size<=c
 hd:X.calm=true->X.A.handled=none
 frames:X.A.frames=some X.stack
 stk:X.stack=X.outer\/(X.stack=X.env::X.outer/\X.env.frame=some X.env.locals)
 exf:∀ b∈X.ex,b≠X.env.locals/\∀ x c,X.env.cells.lookup x=some c->c≠b
 bs:∀ b o,X.base.get? b=some o->X.s₀.heap.get? b=some o/\X.H₀ b=none
 bsz:X.base.objs.size<=X.s₀.heap.objs.size
 noex:∀ b o,X.base.get? b=some o->b∉X.ex
 exfs:∀ b∈X.ex,b∉X.fs
 funs:X.s₀.heap.FunFrames X.base X.outer
 frf:∀ b∈X.fs,X.H₀ b=none
structure Inv (X:Cx)(pins:List (Addr×Obj))(σ:List (Option V))(H:Hp)(s:Shared):Prop where
 ok:X.Ok
 os:s.os=X.s₀.os
 bare:AllBare s.gens
 base:Un X.fs X.ex X.H₀ H X.s₀.heap s.heap
 loc:∃ m,s.heap.Ns X.env.locals m/\∀ (i:Nat) (x:Str) (v:V),X.N[i]? =some x->σ[i]? =some (some v)->Vis X.env.scope x->∃ u,RelV v u/\zkM X.env s.heap m x u
 cell:∀ x c,X.env.cells.lookup x=some c->∃ v,s.heap.IsCell c v
 free:H X.env.locals=none
 freeC:∀ x c,X.env.cells.lookup x=some c->H c=none
 pin:∀ p∈X.pn++pins,s.heap.get? p.1=some p.2/\H p.1=none/\p.1≠X.env.locals/\p.1∉X.fs/\∀ v,p.2.data≠ .cell v
 hok:HOk X.prog X.w H s.heap
 len:σ.length=X.N.length
section
variable {X:Cx}{pins:List (Addr×Obj)}{σ:List (Option V)}{H H':Hp}{s:Shared}{h':Heap}
theorem Cx.Ok.nofr (ok:X.Ok){b:Addr}{o:Obj}(e:X.base.get? b=some o):b∉X.fs:=fun hb=>by
 have:=(ok.funs.mem hb).1;rw [e] at this;cases this
theorem Inv.bs (I:Inv X pins σ H s):∀ b o,X.base.get? b=some o->s.heap.get? b=some o/\H b=none:=fun b o e=>
 ⟨I.base.keep b o (I.ok.bs b o e).1 (I.ok.bs b o e).2 (I.ok.nofr e) (I.ok.noex b o e),I.base.free b o (I.ok.bs b o e).1 (I.ok.bs b o e).2 (I.ok.noex b o e)⟩
theorem Inv.bk (I:Inv X pins σ H s):∀ b o,X.base.get? b=some o->s.heap.get? b=some o:=fun b o e=>(I.bs b o e).1
theorem Inv.mod (I:Inv X pins σ H s):Mod X.K X.mg X.base:=I.ok.mod
theorem Inv.kIn (I:Inv X pins σ H s):X.K.In s.heap:=I.ok.mod.kin.keeps I.bk
theorem Inv.nolimit (I:Inv X pins σ H s):s.heap.NoLimit:=I.ok.mod.nolimit.keeps I.bk
theorem Inv.fr (I:Inv X pins σ H s):∃ m,Fr X.base X.env.locals s.heap m:=
 let ⟨m,hn,_⟩:=I.loc
 ⟨m,hn,I.bk,Nat.le_trans I.ok.bsz I.ok.above⟩
theorem Inv.lt (I:Inv X pins σ H s):X.env.locals<s.heap.objs.size:=let ⟨_,hn,_⟩:=I.loc;hn.lt
theorem Inv.sz (I:Inv X pins σ H s):X.s₀.heap.objs.size<=s.heap.objs.size:=Nat.le_trans I.ok.above (Nat.le_of_lt I.lt)
theorem Inv.nofs (I:Inv X pins σ H s){a:Addr}(h:s.heap.objs.size<=a):a∉X.fs:=fun hb=>by
 obtain ⟨_,o,ho,_⟩:=I.ok.funs.mem hb;exact absurd (Nat.lt_of_lt_of_le (Heap.lt_size ho) (Nat.le_trans I.sz h)) (Nat.lt_irrefl _)
theorem Inv.cne (I:Inv X pins σ H s):∀ x c,X.env.cells.lookup x=some c->c≠X.env.locals:=fun x c e z=>by
 obtain ⟨v,o,ho,hd⟩:=I.cell x c e;obtain ⟨m,⟨o',es,ep,ho',hd',_⟩,_⟩:=I.loc;rw [z,ho'] at ho;cases ho;rw [hd'] at hd;cases hd
theorem Inv.funs (I:Inv X pins σ H s):s.heap.FunFrames X.base X.outer:=by
 have all:∀ (l:List Env),(∀ b∈frs l,b∈X.fs)->X.s₀.heap.FunFrames X.base l->s.heap.FunFrames X.base l:=by
  intro l
  induction l with
  |nil=>intro _ _;trivial
  |cons env r ih=>
   intro hs hl;obtain ⟨hk,⟨L,o,hf,hn,ho,hd⟩,hr⟩:=hl;have hL:L∈X.fs:=hs L (by unfold frs;rw [List.filterMap_cons,hf];exact List.mem_cons_self);obtain ⟨sl,e⟩:=I.base.slot L o ho (I.ok.frf L hL) hL fun z=>I.ok.exfs L z hL;exact ⟨hk,⟨L,_,hf,hn,e,hd⟩,ih (fun b hb=>hs b (by unfold frs;rw [List.filterMap_cons,hf];exact List.mem_cons_of_mem _ hb)) hr⟩
 exact all X.outer (fun _ hb=>hb) I.ok.funs
theorem Inv.stack (I:Inv X pins σ H s):s.heap.FunFrames X.base X.stack:=by
 rcases I.ok.stk with e|⟨e,hf⟩
 ·rw [e];exact I.funs
 ·rw [e];obtain ⟨m,hn,_⟩:=I.loc;refine .cons (by rw [I.ok.kind];decide) hf hn ?_ I.funs;exact Heap.get?_none_of_le (Nat.le_trans I.ok.bsz I.ok.above)
theorem Inv.stkSub (I:Inv X pins σ H s):∀ b∈frs X.stack,b∈X.env.locals::X.fs:=fun b hb=>by
 rcases I.ok.stk with e|⟨e,hf⟩
 ·rw [e] at hb;exact List.mem_cons_of_mem _ hb
 ·rw [e] at hb;unfold frs at hb;rw [List.filterMap_cons,hf] at hb;exact hb
theorem Inv.stkFree (I:Inv X pins σ H s):∀ b∈frs X.stack,H b=none:=fun b hb=>by
 rcases List.mem_cons.mp (I.stkSub b hb) with e|hb
 ·rw [e];exact I.free
 ·obtain ⟨_,o,ho,_⟩:=I.ok.funs.mem hb;exact I.base.free b o ho (I.ok.frf b hb) fun z=>I.ok.exfs b z hb
theorem Inv.step {g':Array GenState}{t':Nat}{d':Drawn}{ch:List Addr}(I:Inv X pins σ H s)
  (hch:∀ b∈ch,(b∈X.ex\/X.s₀.heap.objs.size<=b)/\b≠X.env.locals/\(∀ x c,X.env.cells.lookup x=some c->c≠b)/\∀ p∈X.pn++pins,p.1≠b)
  (keep:∀ b o,b≠X.env.locals->b∉X.fs->b∉ch->s.heap.get? b=some o->H b=none->h'.get? b=some o)
  (slot:∀ b o,b≠X.env.locals->b∈X.fs->b∉ch->s.heap.get? b=some o->H b=none->∃ sl,h'.get? b=some {o with slots:=sl})(free:∀ b o,b∉ch->s.heap.get? b=some o->H b=none->H' b=none)
  (there:∀ b o,b∉ch->s.heap.get? b=some o->∃ o',h'.get? b=some o')
  (tups:∀ b xs,H b=some (.tup xs)->H' b=some (.tup xs))(frzs:∀ b o u,H b=some (.frz o u)->H' b=some (.frz o u))(tbls:∀ b ps,H b=some (.tbl ps)->∃ more,H' b=some (.tbl (ps++more)))
  (ns:∀ m,s.heap.Ns X.env.locals m->h'.Ns X.env.locals m)(hok:HOk X.prog X.w H' h')(hg:AllBare g'):
  Inv X pins σ H' {s with heap:=h',gens:=g',drawn:=d',toks:=t'}:=by
 have neL:∀ b o,X.s₀.heap.get? b=some o->b≠X.env.locals:=fun b o e=>Nat.ne_of_lt (Nat.lt_of_lt_of_le (Heap.lt_size e) I.ok.above);have neC:∀ b o,X.s₀.heap.get? b=some o->b∉X.ex->b∉ch:=fun b o e hx hb=>by
  rcases (hch b hb).1 with z|z
  ·exact hx z
  ·exact absurd (Nat.lt_of_lt_of_le (Heap.lt_size e) z) (Nat.lt_irrefl _)
 have cellK:∀ x c,X.env.cells.lookup x=some c->∀ v,s.heap.IsCell c v->h'.IsCell c v:=fun x c e v ⟨o,ho,hd⟩=>by
  have nch:c∉ch:=fun z=>(hch c z).2.2.1 x c e rfl;by_cases hc:c∈X.fs
  ·obtain ⟨sl,q⟩:=slot c o (I.cne x c e) hc nch ho (I.freeC x c e);exact ⟨_,q,hd⟩
  ·exact ⟨o,keep c o (I.cne x c e) hc nch ho (I.freeC x c e),hd⟩
 refine ⟨I.ok,I.os,hg,⟨fun b o e n hb hx=>?_,fun b o e n hb hx=>?_,fun b o e n hx=>?_,fun b o e hx=>?_,fun b xs e=>tups b xs (I.base.tups b xs e),fun b o xs e=>frzs b o xs (I.base.frzs b o xs e),fun b ps e=>?_⟩,?_,fun x c e=>?_,?_,fun x c e=>?_,fun p hp=>?_,hok,I.len⟩
 ·exact keep b o (neL b o e) hb (neC b o e hx) (I.base.keep b o e n hb hx) (I.base.free b o e n hx)
 ·obtain ⟨sl,e1⟩:=I.base.slot b o e n hb hx;obtain ⟨sl',e2⟩:=slot b _ (neL b o e) hb (neC b o e hx) e1 (I.base.free b o e n hx);exact ⟨sl',e2⟩
 ·obtain ⟨o',e1⟩:=I.base.there b o e hx;exact free b o' (neC b o e hx) e1 (I.base.free b o e n hx)
 ·obtain ⟨o',e1⟩:=I.base.there b o e hx;exact there b o' (neC b o e hx) e1
 ·obtain ⟨m1,e1⟩:=I.base.tbls b ps e;obtain ⟨m2,e2⟩:=tbls b _ e1;exact ⟨m1++m2,by rw [e2,Array.append_assoc]⟩
 ·obtain ⟨m,hn,hl⟩:=I.loc;refine ⟨m,ns m hn,fun i x v e1 e2 e3=>?_⟩;obtain ⟨u,r,l⟩:=hl i x v e1 e2 e3;refine ⟨u,r,?_⟩;rcases l with l|⟨k,c,e,z⟩
  ·exact .inl l
  ·exact .inr ⟨k,c,e,cellK x c e _ z⟩
 ·obtain ⟨v,z⟩:=I.cell x c e;exact ⟨v,cellK x c e v z⟩
 ·obtain ⟨m,⟨o,_,_,ho,_⟩,_⟩:=I.loc;exact free _ o (fun z=>(hch _ z).2.1 rfl) ho I.free
 ·obtain ⟨v,o,ho,hd⟩:=I.cell x c e;exact free c o (fun z=>(hch c z).2.2.1 x c e rfl) ho (I.freeC x c e)
 ·obtain ⟨e,n,ne,nf,d⟩:=I.pin p hp;have nch:p.1∉ch:=fun z=>(hch p.1 z).2.2.2 p hp rfl;exact ⟨keep p.1 p.2 ne nf nch e n,free p.1 p.2 nch e n,ne,nf,d⟩
theorem Inv.un {t':Nat}(I:Inv X pins σ H s)(u:Un X.fs [] H H' s.heap h')(hok:HOk X.prog X.w H' h'):Inv X pins σ H' {s with heap:=h',toks:=t'}:=by
 obtain ⟨m,⟨o,es,ep,ho,r⟩,_⟩:=id I.loc;obtain ⟨sl,hL⟩:=u.any ho I.free (by simp);exact I.step (g':=s.gens) (d':=s.drawn) (ch:=[]) (fun _ z=>nomatch z) (fun b o _ hb _ e n=>u.keep b o e n hb (by simp)) (fun b o _ hb _ e n=>u.slot b o e n hb (by simp)) (fun b o _ e n=>u.free b o e n (by simp)) (fun b o _ e=>u.there b o e (by simp)) u.tups u.frzs u.tbls (fun m' hm=>by
  obtain ⟨o',es',ep',ho',r'⟩:=hm;rw [ho] at ho';cases ho';exact ⟨_,es',ep',hL,r'⟩) hok I.bare
theorem Inv.call {g':Array GenState}{t':Nat}{d':Drawn}{ch:List Addr}(I:Inv X pins σ H s)(u:Un (frs X.stack) ch H H' s.heap h')(hok:HOk X.prog X.w H' h')(hg:AllBare g')
  (hch:∀ b∈ch,(b∈X.ex\/X.s₀.heap.objs.size<=b)/\b≠X.env.locals/\(∀ x c,X.env.cells.lookup x=some c->c≠b)/\∀ p∈X.pn++pins,p.1≠b):
  Inv X pins σ H' {s with heap:=h',gens:=g',drawn:=d',toks:=t'}:=by
 obtain ⟨m,⟨o,es,ep,ho,r⟩,_⟩:=id I.loc;obtain ⟨sl,hL⟩:=u.any ho I.free fun z=>(hch _ z).2.1 rfl;exact I.step (ch:=ch) hch (fun b o hL hb hc e n=>u.keep b o e n (fun z=>(List.mem_cons.mp (I.stkSub b z)).elim hL hb) hc) (fun b o _ _ hc e n=>u.any e n hc) (fun b o hc e n=>u.free b o e n hc) (fun b o hc e=>u.there b o e hc) u.tups u.frzs u.tbls (fun m' hm=>by
  obtain ⟨o',es',ep',ho',r'⟩:=hm;rw [ho] at ho';cases ho';exact ⟨_,es',ep',hL,r'⟩) hok hg
theorem Inv.turned {t':Nat}{it:Addr}(I:Inv X pins σ H s)(k:∀ b o,b≠it->s.heap.get? b=some o->h'.get? b=some o)(hn:H it=none)(hL:it≠X.env.locals)
  (h1:it∈X.ex\/X.s₀.heap.objs.size<=it)(h2:∀ x c,X.env.cells.lookup x=some c->c≠it)(h3:∀ p∈X.pn++pins,p.1≠it):Inv X pins σ H {s with heap:=h',toks:=t'}:=by
 have nit:∀ b u,H b=some u->b≠it:=fun b u e z=>by rw [z,hn] at e;cases e
 refine I.step (g':=s.gens) (d':=s.drawn) (ch:=[it]) (fun b hb=>?_) (fun b o _ _ hc e _=>k b o (fun z=>hc (by simp [z])) e) (fun b o _ _ hc e _=>⟨o.slots,k b o (fun z=>hc (by simp [z])) e⟩) (fun _ _ _ _ n=>n)
  (fun b o hc e=>⟨o,k b o (fun z=>hc (by simp [z])) e⟩) (fun _ _ e=>e) (fun _ _ _ e=>e) (fun b ps e=>⟨#[],by rw [e];simp⟩) (fun m hm=>?_) (fun b u e=>?_) I.bare
 ·have e:b=it:=by simpa using hb
  subst e;exact ⟨h1,hL,h2,h3⟩
 ·obtain ⟨o,es,ep,ho,r⟩:=hm;exact ⟨o,es,ep,k _ o (Ne.symm hL) ho,r⟩
 ·refine (I.hok b u e).stay (fun c v hc q=>k c v ?_ q) (fun _ q=>q) fun _ _ q=>q;rcases hc with z|z
  ·rw [z];exact nit b u e
  ·exact nit c _ z
theorem Inv.tok (I:Inv X pins σ H s)(t:Nat):Inv X pins σ H {s with toks:=t}:=I.un (h':=s.heap) (t':=t) Un.refl I.hok
theorem Inv.kept {t':Nat}(I:Inv X pins σ H s)(k:∀ b u,s.heap.get? b=some u->h'.get? b=some u):Inv X pins σ H {s with heap:=h',toks:=t'}:=I.un (Un.kept k) (I.hok.kept k)
theorem Inv.laid {a:Addr}{o:HO}{t':Nat}(I:Inv X pins σ H s)(k:∀ b u,s.heap.get? b=some u->h'.get? b=some u)(hp:s.heap.objs.size<=a)(new:ObjOk X.prog X.w (upd H a o) h' a o):
  Inv X pins σ (upd H a o) {s with heap:=h',toks:=t'}:=I.un (Un.laid k hp (I.hok.fresh hp)) (I.hok.laid k hp new)
theorem Inv.write {x e:Addr}{o:HO}{t':Nat}(I:Inv X pins σ H s)(mu:Mut (H x))(he:e=x\/H e=some (.own x))(k:∀ b u,b≠e->s.heap.get? b=some u->h'.get? b=some u)(heo:∃ u,h'.get? e=some u)
  (new:ObjOk X.prog X.w (upd H x o) h' x o):Inv X pins σ (upd H x o) {s with heap:=h',toks:=t'}:=I.un (Un.write mu he k heo) (I.hok.write mu he k heo new)
theorem Inv.weak {σ':List (Option V)}(I:Inv X pins σ H s)(hl:σ'.length=σ.length)(w:∀ (i:Nat) v,σ'[i]? =some (some v)->σ[i]? =some (some v)):Inv X pins σ' H s:=
 ⟨I.ok,I.os,I.bare,I.base,let ⟨m,hn,hl'⟩:=I.loc;⟨m,hn,fun i x v e1 e2 e3=>hl' i x v e1 (w i v e2) e3⟩,I.cell,I.free,I.freeC,I.pin,I.hok,hl.trans I.len⟩
theorem Inv.pins_of {pins':List (Addr×Obj)}(I:Inv X pins σ H s)(h:∀ p∈pins',s.heap.get? p.1=some p.2/\H p.1=none/\p.1≠X.env.locals/\p.1∉X.fs/\∀ v,p.2.data≠ .cell v):Inv X pins' σ H s:=
 ⟨I.ok,I.os,I.bare,I.base,I.loc,I.cell,I.free,I.freeC,fun p hp=>(List.mem_append.mp hp).elim (fun z=>I.pin p (List.mem_append_left _ z)) (h p),I.hok,I.len⟩
theorem nodup_ix {N:List Str}(hN:N.Nodup){i j:Nat}{x:Str}(a:N[i]? =some x)(b:N[j]? =some x):i=j:=by
 obtain ⟨h1,e1⟩:=List.getElem?_eq_some_iff.mp a;obtain ⟨h2,e2⟩:=List.getElem?_eq_some_iff.mp b;exact (List.getElem_inj hN).mp (e1.trans e2.symm)
theorem zdX {M:Model}{A:Around}{E:Value->Shared->Prop}{i:Nat}{x:Str}{v:V}{u:Value}{Q:Unit->Shared->Prop}(I:Inv X pins σ H s)(hN:X.N.Nodup)(hi:X.N[i]? =some x)(hx:Loc X.env.scope x)(r:RelV v u)
  (h:∀ s',Inv X pins (σ.set i (some v)) H s'->(∃ a,Heap.SameBut a s.heap s'.heap/\(a=X.env.locals\/X.env.cells.lookup x=some a))->Q () s')(hf:X.fn x=true\/X.env.scope.names.lookup x=some .local:=by first|exact .inl rfl|exact .inr rfl|assumption):wpAny M A (storeName X.env x u) Q E s:=by
 obtain ⟨m,hn,hl⟩:=id I.loc;have hcls:(X.env.scope.kind== .class||(X.env.scope.kind== .module&&X.env.locals != X.env.globals))=false:=by rw [I.ok.kind];rfl
 have hiσ:i<σ.length:=by rw [I.len];exact (List.getElem?_eq_some_iff.mp hi).1
 have cne:=I.cne;have tracked:∀ {a:Addr} {h':Heap},(∃ o,s.heap.get? a=some o/\H a=none)->Heap.SameBut a s.heap h'->HOk X.prog X.w H h':=fun {a h'} ha hs b ob e=>by
  obtain ⟨_,_,hfree⟩:=ha;refine (I.hok b ob e).stay (fun c w' hc q=>(hs.2 c ?_).trans q) (fun _ q=>q) fun _ _ q=>q;rintro rfl;rcases hc with rfl|hc
  ·rw [hfree] at e;cases e
  ·rw [hfree] at hc;cases hc
 rcases hx with hk|hk
 ·refine wpAny_storeName_local hk hn (fun h' hn' hs=>?_) hcls;obtain ⟨oL,_,_,hoL,_⟩:=id hn;refine h _ ⟨I.ok,I.os,I.bare,⟨fun b o e n hb hx=>?_,fun b o e n hb hx=>?_,I.base.free,fun b o e hx=>?_,I.base.tups,I.base.frzs,I.base.tbls⟩,⟨_,hn',fun j y v' e1 e2 e3=>?_⟩,fun y c e=>?_,I.free,I.freeC,fun p hp=>?_,tracked ⟨oL,hoL,I.free⟩ hs,by simpa using I.len⟩ ⟨_,hs,.inl rfl⟩
  ·exact (hs.2 b (Nat.ne_of_lt (Nat.lt_of_lt_of_le (Heap.lt_size e) I.ok.above))).trans (I.base.keep b o e n hb hx)
  ·obtain ⟨sl,e1⟩:=I.base.slot b o e n hb hx;exact ⟨sl,(hs.2 b (Nat.ne_of_lt (Nat.lt_of_lt_of_le (Heap.lt_size e) I.ok.above))).trans e1⟩
  ·obtain ⟨o',e1⟩:=I.base.there b o e hx;exact ⟨o',(hs.2 b (Nat.ne_of_lt (Nat.lt_of_lt_of_le (Heap.lt_size e) I.ok.above))).trans e1⟩
  ·by_cases hj:j=i
   ·subst hj;rw [hi] at e1;cases e1;rw [List.getElem?_set_self hiσ] at e2;cases e2;exact ⟨u,r,.inl ⟨hk,by simp⟩⟩
   ·rw [List.getElem?_set_ne (Ne.symm hj)] at e2;obtain ⟨u',r',q⟩:=hl j y v' e1 e2 e3;refine ⟨u',r',?_⟩;rcases q with ⟨k,e⟩|⟨k,c,e,z⟩
    ·refine .inl ⟨k,?_⟩;have:y≠x:=fun e=>hj (nodup_ix hN e1 (e▸hi));simp [this,e]
    ·exact .inr ⟨k,c,e,z.sameBut hs (cne y c e)⟩
  ·obtain ⟨w',z⟩:=I.cell y c e;exact ⟨w',z.sameBut hs (cne y c e)⟩
  ·obtain ⟨e,n,ne,nf,d⟩:=I.pin p hp;exact ⟨(hs.2 p.1 ne).trans e,n,ne,nf,d⟩
 ·have hfn:X.fn x=true:=by
   rcases hf with z|z
   ·exact z
   ·rw [z] at hk;cases hk
  obtain ⟨c,hc⟩:=I.ok.has x (.inl hk);obtain ⟨w',z⟩:=I.cell x c hc;refine wpAny_storeName_cell I.ok.kind hk hc z (fun h' hc' hs=>?_);obtain ⟨oc,hoc,hocd⟩:=id z;refine h {s with heap:=h'} ⟨I.ok,I.os,I.bare,⟨fun b o e n hb hx=>?_,fun b o e n hb hx=>?_,I.base.free,fun b o e hx=>?_,I.base.tups,I.base.frzs,I.base.tbls⟩,⟨m,hn.sameBut hs (Ne.symm (cne x c hc)),fun j y v' e1 e2 e3=>?_⟩,fun y c' e=>?_,I.free,I.freeC,fun p hp=>?_,tracked ⟨oc,hoc,I.freeC x c hc⟩ hs,by simpa using I.len⟩ ⟨c,hs,.inr hc⟩
  ·exact (hs.2 b (Nat.ne_of_lt (Nat.lt_of_lt_of_le (Heap.lt_size e) (I.ok.cab x c hfn hc)))).trans (I.base.keep b o e n hb hx)
  ·obtain ⟨sl,e1⟩:=I.base.slot b o e n hb hx;exact ⟨sl,(hs.2 b (Nat.ne_of_lt (Nat.lt_of_lt_of_le (Heap.lt_size e) (I.ok.cab x c hfn hc)))).trans e1⟩
  ·obtain ⟨o',e1⟩:=I.base.there b o e hx;exact ⟨o',(hs.2 b (Nat.ne_of_lt (Nat.lt_of_lt_of_le (Heap.lt_size e) (I.ok.cab x c hfn hc)))).trans e1⟩
  ·by_cases hj:j=i
   ·subst hj;rw [hi] at e1;cases e1;rw [List.getElem?_set_self hiσ] at e2;cases e2;exact ⟨u,r,.inr ⟨.inl hk,c,hc,hc'⟩⟩
   ·rw [List.getElem?_set_ne (Ne.symm hj)] at e2;obtain ⟨u',r',q⟩:=hl j y v' e1 e2 e3;refine ⟨u',r',?_⟩;rcases q with q|⟨k,c',e,z'⟩
    ·exact .inl q
    ·refine .inr ⟨k,c',e,z'.sameBut hs ?_⟩;rintro rfl;exact hj (nodup_ix hN e1 (I.ok.inj _ _ _ e hc▸hi))
  ·by_cases hcc:c'=c
   ·subst hcc;exact ⟨_,hc'⟩
   ·obtain ⟨w2,z2⟩:=I.cell y c' e;exact ⟨w2,z2.sameBut hs hcc⟩
  ·obtain ⟨e,n,ne,nf,d⟩:=I.pin p hp;refine ⟨(hs.2 p.1 ?_).trans e,n,ne,nf,d⟩;intro q;rw [q,hoc] at e;have q':oc=p.2:=Option.some.inj e;exact d w' (by rw [<-q'];exact hocd)
theorem store_ok {M:Model}{A:Around}{E:Value->Shared->Prop}{i:Nat}{x:Str}{v:V}{u:Value}{Q:Unit->Shared->Prop}(I:Inv X pins σ H s)(hN:X.N.Nodup)(hi:X.N[i]? =some x)(hx:Loc X.env.scope x)(r:RelV v u)
  (h:∀ s',Inv X pins (σ.set i (some v)) H s'->Q () s')(hf:X.fn x=true\/X.env.scope.names.lookup x=some .local:=by first|exact .inl rfl|exact .inr rfl|assumption):wpAny M A (storeName X.env x u) Q E s:=
 zdX I hN hi hx r (fun s' I' _=>h s' I') hf
theorem Inv.call' {s':Shared}{ch:List Addr}(I:Inv X pins σ H s)(ho:s'.os=s.os)(u:Un (frs X.stack) ch H H' s.heap s'.heap)(hok:HOk X.prog X.w H' s'.heap)(hg:AllBare s'.gens)
  (hch:∀ b∈ch,(b∈X.ex\/X.s₀.heap.objs.size<=b)/\b≠X.env.locals/\(∀ x c,X.env.cells.lookup x=some c->c≠b)/\∀ p∈X.pn++pins,p.1≠b):Inv X pins σ H' s':=by
 obtain ⟨h',g',d',t',o'⟩:=s';have e:o'=s.os:=ho;subst e;exact I.call (g':=g') (t':=t') (d':=d') u hok hg hch
end
noncomputable abbrev XK:=Value->Option Addr->Hp->Prop
noncomputable abbrev St:=List (Option V)
noncomputable abbrev VK:=V->Hp->Prop
noncomputable abbrev TE:=St->Hp->VK->Prop
noncomputable abbrev TT:=St->Hp->(Bool->Hp->Prop)->Prop
noncomputable abbrev TA:=St->Hp->(List V->Hp->Prop)->Prop
structure Ends where
 nx:St->Hp->Prop
 rt:VK
 bk:St->Hp->Prop:=fun _ _=>False
 ct:St->Hp->Prop:=fun _ _=>False
noncomputable abbrev TS:=Ends->St->Hp->Prop
noncomputable def EP (X:Cx)(pins:List (Addr×Obj))(σ:St)(Q:VK)(u:Value)(s':Shared):Prop:=∃ v H',Inv X pins σ H' s'/\RelV v u/\Q v H'
noncomputable def TP (X:Cx)(pins:List (Addr×Obj))(σ:St)(Q:Bool->Hp->Prop)(b:Bool)(s':Shared):Prop:=∃ H',Inv X pins σ H' s'/\Q b H'
noncomputable def AP (X:Cx)(pins:List (Addr×Obj))(σ:St)(Q:List V->Hp->Prop)(us:List Value)(s':Shared):Prop:=∃ vs H',Inv X pins σ H' s'/\Vals vs us/\Q vs H'
noncomputable def SP (X:Cx)(pins:List (Addr×Obj))(D:Ends)(f:Flow)(s':Shared):Prop:=
 match f with
 | .next=>∃ σ' H',Inv X pins σ' H' s'/\D.nx σ' H'
 | .brk=>∃ σ' H',Inv X pins σ' H' s'/\D.bk σ' H'
 | .cont=>∃ σ' H',Inv X pins σ' H' s'/\D.ct σ' H'
 | .ret u=>∃ v σ' H',Inv X pins σ' H' s'/\RelV v u/\D.rt v H'
noncomputable def PE (X:Cx)(e:Expr)(t:TE):Prop:=
 ∀ (pins:List (Addr×Obj)) (s:Shared) (σ:St) (H:Hp) (Q:VK),Inv X pins σ H s->t σ H Q->wpAny (model X.prog X.w) X.A (eval e X.env) (EP X pins σ Q) X.xe s
noncomputable def PT (X:Cx)(e:Expr)(t:TT):Prop:=
 ∀ (pins:List (Addr×Obj)) (s:Shared) (σ:St) (H:Hp) (Q:Bool->Hp->Prop),Inv X pins σ H s->t σ H Q->wpAny (model X.prog X.w) X.A (isTrue e X.env (eval e X.env)) (TP X pins σ Q) X.xe s
noncomputable def PW (X:Cx)(e:Expr)(t:TT):Prop:=
 ∀ (whole:Sem Value) (pins:List (Addr×Obj)) (s:Shared) (σ:St) (H:Hp) (Q:Bool->Hp->Prop),Inv X pins σ H s->t σ H Q->wpAny (model X.prog X.w) X.A (isTrue e X.env whole) (TP X pins σ Q) X.xe s
theorem PW.pt {X:Cx}{e:Expr}{t:TT}(h:PW X e t):PT X e t:=h _
noncomputable def PA (X:Cx)(es:List Expr)(t:TA):Prop:=
 ∀ (pos:Pos) (pins:List (Addr×Obj)) (s:Shared) (σ:St) (H:Hp) (Q:List V->Hp->Prop),Inv X pins σ H s->t σ H Q->wpAny (model X.prog X.w) X.A (spliced (backTo pos (starEach es X.env))) (AP X pins σ Q) X.xe s
noncomputable def PS (X:Cx)(st:Stmt)(t:TS):Prop:=
 ∀ (pins:List (Addr×Obj)) (s:Shared) (σ:St) (H:Hp) (D:Ends),Inv X pins σ H s->t D σ H->wpAny (model X.prog X.w) X.A (exec st X.env) (SP X pins D) X.xe s
noncomputable def PSs (X:Cx)(st:List Stmt)(t:TS):Prop:=
 ∀ (pins:List (Addr×Obj)) (s:Shared) (σ:St) (H:Hp) (D:Ends),Inv X pins σ H s->t D σ H->wpAny (model X.prog X.w) X.A (execs st X.env) (SP X pins D) X.xe s
theorem thn {α:Type}{t:Sem α}{Q Q':α->Shared->Prop}{M:Model}{A:Around}{E:Value->Shared->Prop}{s:Shared}(h:wpAny M A t Q E s)(hQ:∀ a s,Q a s->Q' a s):wpAny M A t Q' E s:=wpAny_mono h hQ fun _ _ x=>x
end L2
namespace L2
open PySem PySem.Spec PyProof.Rows
section
variable {X:Cx}
noncomputable def zk2 (i:Nat):TE:=fun σ H Q=>∃ v,σ[i]? =some (some v)/\Q v H
noncomputable def tC (v:V):TE:=fun _ H Q=>Q v H
theorem zbT {i:Nat}{x:Str}{pos:Pos}(hN:X.N[i]? =some x)(hv:Vis X.env.scope x)(hd:(x==("__debug__":Str))=false:=by decide)(hcd:(x==("__classdict__":Str))=false:=by decide):PE X (.Name x pos) (zk2 i):=by
 intro pins s σ H Q I h;obtain ⟨v,e,h⟩:=h;obtain ⟨m,hn,hl⟩:=I.loc;obtain ⟨u,r,l⟩:=hl i x v hN e hv;have fin:EP X pins σ Q u s:=⟨v,H,I,r,h⟩;rcases l with ⟨hk,hm⟩|⟨hk,c,hc,hcell⟩
 ·exact wpAny_Name (wpAny_loadName_local I.ok.kind hk hn hm fin) hd
 ·rcases hk with hk|hk
  ·exact wpAny_Name (wpAny_loadName_cell I.ok.kind hk hc hcell fin) hd
  ·exact wpAny_Name (wpAny_loadName_free I.ok.kind hk hc hcell fin hcd) hd
theorem ziT {i j pos}:PE X (.Constant (.int i) j pos) (tC (.int i)):=fun _ _ _ H _ I h=>wpAny_Constant_int ⟨.int i,H,I.tok _,⟨_,rfl⟩,h⟩
theorem ziU {b j pos}:PE X (.Constant (.bool b) j pos) (tC (.bl b)):=fun _ _ _ H _ I h=>Constant_bool ⟨.bl b,H,I,rfl,h⟩
theorem ziV {j pos}:PE X (.Constant .none j pos) (tC .non):=fun _ _ _ H _ I h=>Constant_none ⟨.non,H,I,rfl,h⟩
theorem ziW {x j pos}:PE X (.Constant (.str x) j pos) (tC (.str x)):=fun _ _ _ H _ I h=>Calls.Constant_str ⟨.str x,H,I.tok _,⟨_,rfl⟩,h⟩
noncomputable def Gl (X:Cx)(x:Str):Prop:=X.env.kindOf x=some .globalImplicit
theorem ld_glob {E:Value->Shared->Prop}{pins:List (Addr×Obj)}{s:Shared}{σ:St}{H:Hp}{x:Str}{u:Value}{pos:Pos}{Q:Value->Shared->Prop}(I:Inv X pins σ H s)(hg:Gl X x)(hm:X.mg x=some u)(h:Q u s)
  (hd:(x==("__debug__":Str))=false:=by decide):wpAny (model X.prog X.w) X.A (eval (.Name x pos) X.env) Q E s:=
 Calls.Name_function_global I.ok.kind hg (Calls.loadGlobal_global (by rw [I.ok.glob];exact I.mod.glob.keeps I.bk) hm h) hd
theorem ld_blt {E:Value->Shared->Prop}{pins:List (Addr×Obj)}{s:Shared}{σ:St}{H:Hp}{x:Str}{u:Value}{pos:Pos}{Q:Value->Shared->Prop}(I:Inv X pins σ H s)(hg:Gl X x)(hm:X.mg x=none)(hv:bootBuiltins x=some u)(h:Q u s)
  (hn:x≠"__name__":=by decide)(hd:(x==("__debug__":Str))=false:=by decide):wpAny (model X.prog X.w) X.A (eval (.Name x pos) X.env) Q E s:=by
 obtain ⟨mb,h1,h2⟩:=I.mod.blt;exact Calls.Name_function_global I.ok.kind hg (Calls.loadGlobal_builtin (by rw [I.ok.glob];exact I.mod.glob.keeps I.bk) hm (by rw [I.ok.blt];exact h1.keeps I.bk) ((h2 x hn).trans hv) h) hd
theorem zeH {x:Str}{v:V}{u:Value}{pos:Pos}(hg:Gl X x)(hm:X.mg x=some u)(r:RelV v u)(hd:(x==("__debug__":Str))=false:=by decide):PE X (.Name x pos) (tC v):=
 fun _ _ _ H _ I h=>ld_glob I hg hm ⟨v,H,I,r,h⟩ hd
theorem zfN {x:Str}{v:V}{u:Value}{pos:Pos}(hg:Gl X x)(hm:X.mg x=none)(hv:bootBuiltins x=some u)(r:RelV v u)(hn:x≠"__name__":=by decide)(hd:(x==("__debug__":Str))=false:=by decide):PE X (.Name x pos) (tC v):=
 fun _ _ _ H _ I h=>ld_blt I hg hm hv ⟨v,H,I,r,h⟩ hn hd
variable {a b:Expr}{ta tb:TE}{pos:Pos}
noncomputable def tB (t:TE):TT:=fun σ H Q=>t σ H fun x H1=>∃ c,x= .bl c/\Q c H1
theorem zfO {e:Expr}{t:TE}(h:PE X e t)(he:∀ whole,isTrue e X.env whole=(do let v <-whole;standAt e.pos;holding [v] (truthy v)):=by intro _;rfl):PT X e (tB t):=by
 intro pins s σ H Q I hw;refine isTrue_plain (thn (h pins s σ H _ I hw) fun v s1 zz=>?_) (he _);obtain ⟨x,H1,I1,r1,q1⟩:=zz;obtain ⟨d,rfl,q⟩:=q1;cases r1;exact wpAny_truthy_bool ⟨H1,I1,q⟩
variable {tA tB':TT}{rest:List Expr}
noncomputable def tOr (t u:TT):TT:=fun σ H Q=>t σ H fun c H1=>if c=true then Q true H1 else u σ H1 Q
noncomputable def zk3 (t:TT):TT:=fun σ H Q=>t σ H fun c H1=>Q (!c) H1
theorem zhh (ha:PT X a tA):PW X (.BoolOp .Or [a] pos) tA:=by
 intro wh pins s σ H Q I h;refine isTrue_or (thn (ha pins s σ H Q I h) fun c s1 e=>?_);cases c with
 |false=>exact isTrue_or_nil e
 |true=>exact e
theorem ziX (ha:PT X a tA)(hb:PW X (.BoolOp .Or (b::rest) pos) tB'):PW X (.BoolOp .Or (a::b::rest) pos) (tOr tA tB'):=by
 intro wh pins s σ H Q I h;refine isTrue_or (thn (ha pins s σ H _ I h) fun c s1 zz=>?_);obtain ⟨H1,I1,q1⟩:=zz;cases c with
 |true=>exact ⟨H1,I1,q1⟩
 |false=>exact hb wh pins s1 σ H1 Q I1 q1
theorem ziY (ha:PT X a tA):PT X (.UnaryOp .Not a pos) (zk3 tA):=by
 intro pins s σ H Q I h;exact isTrue_not (ha pins s σ H (fun c H1=>Q (!c) H1) I h)
noncomputable def ziZ (ta tb:TE):TE:=fun σ H Q=>ta σ H fun x H1=>∃ c,x= .bl c/\if c=true then tb σ H1 Q else Q (.bl false) H1
noncomputable def zk4 (ta tb:TE):TE:=fun σ H Q=>ta σ H fun x H1=>∃ c,x= .bl c/\if c=true then Q (.bl true) H1 else tb σ H1 Q
theorem zhi {op}{t:TE}(h:PE X a t):PE X (.BoolOp op [a] pos) t:=fun pins s σ H Q I hw=>BoolOp_one (h pins s σ H Q I hw)
theorem zi0 (ha:PE X a ta)(hb:PE X (.BoolOp .And (b::rest) pos) tb):PE X (.BoolOp .And (a::b::rest) pos) (ziZ ta tb):=by
 intro pins s σ H Q I h;refine BoolOp_and (thn (ha pins s σ H _ I h) fun v s1 zz=>?_);obtain ⟨x,H1,I1,r1,q1⟩:=zz;obtain ⟨c,rfl,q1⟩:=q1;cases r1;refine wpAny_truthy_bool ?_;cases c with
 |true=>exact hb pins s1 σ H1 Q I1 q1
 |false=>exact ⟨.bl false,H1,I1,rfl,q1⟩
theorem zj7 (ha:PE X a ta)(hb:PE X (.BoolOp .Or (b::rest) pos) tb):PE X (.BoolOp .Or (a::b::rest) pos) (zk4 ta tb):=by
 intro pins s σ H Q I h;refine BoolOp_or (thn (ha pins s σ H _ I h) fun v s1 zz=>?_);obtain ⟨x,H1,I1,r1,q1⟩:=zz;obtain ⟨c,rfl,q1⟩:=q1;cases r1;refine wpAny_truthy_bool ?_;cases c with
 |false=>exact hb pins s1 σ H1 Q I1 q1
 |true=>exact ⟨.bl true,H1,I1,rfl,q1⟩
end
end L2
namespace L2
open PySem PySem.Spec PyProof.Rows
noncomputable def SqL (K:PySem.W.Frag)(H:Hp)(a:Addr)(xs:List V):Prop:=
 Rd H a (.lst xs)\/
  ∃ (o:Obj) (its:Array Value) (n:Nat),K.lookup a=some o/\o.cls= .type "list"/\o.dict=none/\o.data= .seq its n/\its.size<=sizeLine/\Vals xs its.toList
noncomputable def SqT (K:PySem.W.Frag)(H:Hp)(a:Addr)(xs:List V):Prop:=
 Rd H a (.tup xs)\/
  ∃ (o:Obj) (its:Array Value) (n:Nat),K.lookup a=some o/\o.cls= .type "tuple"/\o.data= .seq its n/\its.size<=sizeLine/\Vals xs its.toList
noncomputable def zk5:Value->Option V
 | .none=>some .non
 | .bool b=>some (.bl b)
 | .int i _=>some (.int i)
 | .str x _=>some (.str x)
 | .bytes b _=>some (.byt b)
 | .float b _=>some (.flt b)
 | .ref a=>some (.ref a)
 | .type n=>some (.ty n)
 |_=>none
theorem RelV.abs {x:V}{u:Value}(r:RelV x u):zk5 u=some x:=by
 cases x with
 |non=>cases r;rfl
 |bl _=>cases r;rfl
 |int _=>obtain ⟨t,rfl⟩:=r;rfl
 |str _=>obtain ⟨t,rfl⟩:=r;rfl
 |byt _=>obtain ⟨t,rfl⟩:=r;rfl
 |flt _=>obtain ⟨t,rfl⟩:=r;rfl
 |ref _=>cases r;rfl
 |ty _=>cases r;rfl
theorem RelV.inj {x y:V}{u:Value}(r:RelV x u)(q:RelV y u):x=y:=Option.some.inj (r.abs.symm.trans q.abs)
theorem Vals.inj:∀ {xs ys:List V} {us:List Value},Vals xs us->Vals ys us->xs=ys:=by
 intro xs
 induction xs with
 |nil=>intro ys us h q;cases h;cases q;rfl
 |cons x xs ih=>
  intro ys us h q;cases h with
  |cons r t=>
   cases q with
   |cons r' t'=>rw [r.inj r',ih t t']
section
variable {X:Cx}{pins:List (Addr×Obj)}{σ:St}{H:Hp}{s:Shared}{a:Addr}{xs ys:List V}
theorem SqL.of {K:PySem.W.Frag}(h:H a=some (.lst xs)):SqL K H a xs:=.inl (.inl h)
theorem SqT.of {K:PySem.W.Frag}(h:H a=some (.tup xs)):SqT K H a xs:=.inl (.inl h)
theorem Inv.list (I:Inv X pins σ H s)(h:SqL X.K H a xs):∃ its:List Value,Vals xs its/\PlainL s.heap a its.toArray/\xs.length<=sizeLine:=by
 rcases h with h|⟨o,its,n,hk,hc,hd,hs,hz,r⟩
 ·obtain ⟨z,its,n,r,e⟩:=h.ok I.hok;exact ⟨its,r,⟨_,n,e,rfl,rfl,rfl⟩,z⟩
 ·refine ⟨its.toList,r,⟨o,n,I.kIn a o hk,hc,hd,by simpa using hs⟩,?_⟩;have e:=r.length;simp only [Array.length_toList] at e;omega
theorem Inv.tuple (I:Inv X pins σ H s)(h:SqT X.K H a xs):∃ its:List Value,Vals xs its/\IsTup s.heap a its.toArray/\xs.length<=sizeLine:=by
 rcases h with h|⟨o,its,n,hk,hc,hs,hz,r⟩
 ·obtain ⟨z,its,r,p⟩:=h.ok I.hok;exact ⟨its,r,p,z⟩
 ·refine ⟨its.toList,r,⟨o,I.kIn a o hk,hc,n,by simpa using hs⟩,?_⟩;have e:=r.length;simp only [Array.length_toList] at e;omega
theorem Inv.list_inj (I:Inv X pins σ H s)(h:SqL X.K H a xs)(h':SqL X.K H a ys):xs=ys:=by
 obtain ⟨its,r,⟨o,n,e,_,_,d⟩,_⟩:=I.list h;obtain ⟨its',r',⟨o',n',e',_,_,d'⟩,_⟩:=I.list h';rw [e] at e';cases e';rw [d] at d';injection d' with d1 _;have:its=its':=by simpa using congrArg Array.toList d1
 subst this;exact r.inj r'
theorem Inv.tuple_inj (I:Inv X pins σ H s)(h:SqT X.K H a xs)(h':SqT X.K H a ys):xs=ys:=by
 obtain ⟨its,r,⟨o,e,_,n,d⟩,_⟩:=I.tuple h;obtain ⟨its',r',⟨o',e',_,n',d'⟩,_⟩:=I.tuple h';rw [e] at e';cases e';rw [d] at d';injection d' with d1 _;have:its=its':=by simpa using congrArg Array.toList d1
 subst this;exact r.inj r'
end
noncomputable abbrev Cx.wish (X:Cx)(E:Value->Shared->Prop):Cx:={X with xe:=E}
noncomputable abbrev Cx.nox (X:Cx):Cx:=X.wish fun _ _=>False
theorem Cx.Ok.wish {X:Cx}(ok:X.Ok)(E:Value->Shared->Prop):(X.wish E).Ok:=
 ⟨ok.mod,ok.kind,ok.glob,ok.blt,ok.above,ok.inj,ok.has,ok.cab,ok.hd,ok.frames,ok.stk,ok.exf,ok.bs,ok.bsz,ok.noex,ok.exfs,ok.funs,ok.frf⟩
theorem Cx.Ok.unwish {X:Cx}{E:Value->Shared->Prop}(ok:(X.wish E).Ok):X.Ok:=
 ⟨ok.mod,ok.kind,ok.glob,ok.blt,ok.above,ok.inj,ok.has,ok.cab,ok.hd,ok.frames,ok.stk,ok.exf,ok.bs,ok.bsz,ok.noex,ok.exfs,ok.funs,ok.frf⟩
section
variable {X:Cx}{pins:List (Addr×Obj)}{σ:St}{H:Hp}{s:Shared}{E:Value->Shared->Prop}
theorem Inv.wish (I:Inv X pins σ H s)(E:Value->Shared->Prop):Inv (X.wish E) pins σ H s:=⟨I.ok.wish E,I.os,I.bare,I.base,I.loc,I.cell,I.free,I.freeC,I.pin,I.hok,I.len⟩
theorem Inv.unwish (I:Inv (X.wish E) pins σ H s):Inv X pins σ H s:=⟨I.ok.unwish,I.os,I.bare,I.base,I.loc,I.cell,I.free,I.freeC,I.pin,I.hok,I.len⟩
theorem SP.unwish {D:Ends}{f:Flow}{s':Shared}(h:SP (X.wish E) pins D f s'):SP X pins D f s':=by
 cases f with
 |next=>obtain ⟨σ',H',I,q⟩:=h;exact ⟨σ',H',I.unwish,q⟩
 |brk=>obtain ⟨σ',H',I,q⟩:=h;exact ⟨σ',H',I.unwish,q⟩
 |cont=>obtain ⟨σ',H',I,q⟩:=h;exact ⟨σ',H',I.unwish,q⟩
 |ret u=>obtain ⟨v,σ',H',I,r,q⟩:=h;exact ⟨v,σ',H',I.unwish,r,q⟩
theorem PE.nox {e:Expr}{t:TE}(h:PE X.nox e t):PE X e t:=fun pins s σ H Q I hw=>
 wpAny_mono (h pins s σ H Q (I.wish _) hw) (fun _ _ ⟨v,H',I',r,q⟩=>⟨v,H',I'.unwish,r,q⟩) fun _ _ z=>False.elim z
theorem PT.nox {e:Expr}{t:TT}(h:PT X.nox e t):PT X e t:=fun pins s σ H Q I hw=>
 wpAny_mono (h pins s σ H Q (I.wish _) hw) (fun _ _ ⟨H',I',q⟩=>⟨H',I'.unwish,q⟩) fun _ _ z=>False.elim z
theorem PSs.nox {st:List Stmt}{t:TS}(h:PSs X.nox st t):PSs X st t:=fun pins s σ H D I hw=>
 wpAny_mono (h pins s σ H D (I.wish _) hw) (fun _ _ q=>q.unwish) fun _ _ z=>False.elim z
end
section
variable {X:Cx}{st:Stmt}{rest:List Stmt}{t u:TS}{e:Expr}{te:TE}{pos:Pos}
noncomputable def zi1:TS:=fun D σ H=>D.nx σ H
noncomputable def zkN (t u:TS):TS:=fun D σ H=>t {D with nx:=u D} σ H
theorem zfP:PSs X [] zi1:=fun _ _ σ H _ I h=>wpAny_execs_nil ⟨σ,H,I,h⟩
theorem zcy (h1:PS X st t)(h2:PSs X rest u):PSs X (st::rest) (zkN t u):=by
 intro pins s σ H D I h;refine wpAny_execs_cons (thn (h1 pins s σ H {D with nx:=u D} I h) fun f s1 q=>?_);cases f with
 |next=>
  obtain ⟨σ',H',I',q⟩:=q;exact h2 pins s1 σ' H' D I' q
 |ret v=>exact q
 |brk=>exact q
 |cont=>exact q
theorem zdm (h1:PS X st t):PSs X [st] t:=by
 intro pins s σ H D I h;refine wpAny_execs_cons (thn (h1 pins s σ H D I h) fun f s1 q=>?_);cases f with
 |next=>exact wpAny_execs_nil q
 |ret v=>exact q
 |brk=>exact q
 |cont=>exact q
theorem Inv.quiet {pins:List (Addr×Obj)}{σ:St}{H:Hp}{s:Shared}(I:Inv X pins σ H s):interactive X.env=false:=by simp [interactive,I.ok.kind]
noncomputable def zj8 (te:TE):TS:=fun D σ H=>te σ H fun _ H1=>D.nx σ H1
theorem zeI (he:PE X e te)(hs:swapsWith e none pos.line X.env=pure false:=by rfl):PS X (.Expr e pos) (zj8 te):=by
 intro pins s σ H D I h;exact wpAny_Expr_any (thn (he pins s σ H _ I h) fun v s1 ⟨x,H1,I1,r1,q1⟩=>⟨σ,H1,I1,q1⟩) I.quiet hs
noncomputable def zj9 (te:TE):TS:=fun D σ H=>te σ H D.rt
theorem ze7 (he:PE X e te):PS X (.Return (some e) pos) (zj9 te):=by
 intro pins s σ H D I h;exact wpAny_Return_some (thn (he pins s σ H _ I h) fun v s1 ⟨x,H1,I1,r1,q1⟩=>⟨x,σ,H1,I1,r1,q1⟩)
noncomputable def zkO (c:TT)(t u:TS):TS:=fun D σ H=>c σ H fun b H1=>if b=true then t D σ H1 else u D σ H1
theorem zi2 {c:Expr}{a b:List Stmt}{tc:TT}(hc:PT X c tc)(ha:PSs X a t)(hb:PSs X b u):PS X (.If c a b pos) (zkO tc t u):=by
 intro pins s σ H D I h;refine wpAny_If (thn (hc pins s σ H _ I h) fun d s1 zz=>?_);obtain ⟨H1,I1,q1⟩:=zz;cases d with
 |true=>exact ha pins s1 σ H1 D I1 q1
 |false=>exact hb pins s1 σ H1 D I1 q1
noncomputable def zi3:TS:=fun _ _ _=>False
theorem zgJ:PS X st zi3:=fun _ _ _ _ _ _ h=>h.elim
end
noncomputable abbrev TG:=V->St->Hp->(St->Hp->Prop)->Prop
noncomputable def PG (X:Cx)(target:Expr)(t:TG):Prop:=
 ∀ (pins:List (Addr×Obj)) (s:Shared) (σ:St) (H:Hp) (v:V) (u:Value) (Q:St->Hp->Prop),Inv X pins σ H s->RelV v u->t v σ H Q->
  wpAny (model X.prog X.w) X.A (assign target X.env u) (fun _ s'=>∃ σ' H',Inv X pins σ' H' s'/\Q σ' H') X.xe s
noncomputable abbrev zka:=V->V->V->Hp->(Hp->Prop)->Prop
noncomputable def zkP (X:Cx)(t:zka):Prop:=
 ∀ (pins:List (Addr×Obj)) (s:Shared) (σ:St) (H:Hp) (o i v:V) (ov iv u:Value) (Q:Hp->Prop),Inv X pins σ H s->RelV o ov->RelV i iv->RelV v u->t o i v H Q->
  wpAny (model X.prog X.w) X.A (setItem ov iv u) (fun _ s'=>∃ H',Inv X pins σ H' s'/\Q H') X.xe s
section
variable {X:Cx}{pos:Pos}
noncomputable def zeJ (i:Nat):TG:=fun v σ H Q=>Q (σ.set i (some v)) H
theorem zeK {i:Nat}{x:Str}(hN:X.N.Nodup)(hi:X.N[i]? =some x)(hx:Loc X.env.scope x)(hf:X.fn x=true\/X.env.scope.names.lookup x=some .local:=by first|exact .inl rfl|exact .inr rfl|assumption):PG X (.Name x pos) (zeJ i):=by
 intro pins s σ H v u Q I r h;exact wpAny_assign_Name (store_ok I hN hi hx r (fun s' I'=>⟨_,H,I',h⟩) hf)
noncomputable def zk6 (to ti:TE)(t:zka):TG:=fun v σ H Q=>to σ H fun o H1=>ti σ H1 fun i H2=>t o i v H2 fun H3=>Q σ H3
theorem zi4 {o i:Expr}{to ti:TE}{t:zka}(ho:PE X o to)(hi:PE X i ti)(hs:zkP X t)
  (ha:∀ v,assign (.Subscript o i pos) X.env v=(do
   let ov <-holding [v] (eval o X.env)
   let iv <-holding [v,ov] (eval i X.env)
   standAt pos
   holding [v,ov,iv] (setItem ov iv v)
   release [v,ov,iv] []):=by intro _;rfl):PG X (.Subscript o i pos) (zk6 to ti t):=by
 intro pins s σ H v u Q I r h;rw [ha];refine wpAny_bind (wpAny_holding (thn (ho pins s σ H _ I h) fun ov s1 zz=>?_));obtain ⟨x,H1,I1,r1,q1⟩:=zz;refine wpAny_bind (wpAny_holding (thn (hi pins s1 σ H1 _ I1 q1) fun iv s2 zz=>?_));obtain ⟨y,H2,I2,r2,q2⟩:=zz;refine wpAny_bind (wpAny_standAt (wpAny_bind (wpAny_holding (thn (hs pins s2 σ H2 x y v ov iv u _ I2 r1 r2 r q2) fun _ s3 zz=>?_))));obtain ⟨H3,I3,q3⟩:=zz;exact wpAny_release ⟨σ,H3,I3,q3⟩
noncomputable def zkb (te:TE)(g:TG):TS:=fun D σ H=>te σ H fun x H1=>g x σ H1 D.nx
theorem zi5 {tg e:Expr}{te:TE}{g:TG}(he:PE X e te)(hg:PG X tg g)(hs:swapsWithSole [tg] e pos.line X.env=pure false:=by rfl)(hw:swappedStores [tg] e X.env=pure none:=by rfl)
  (h1:(assignEach [tg] X.env).map (·.2)=[assign tg X.env]:=by rfl):PS X (.Assign [tg] e pos) (zkb te g):=by
 intro pins s σ H D I h;refine wpAny_Assign_stores (thn (he pins s σ H _ I h) fun v s1 zz=>?_) hs hw;obtain ⟨x,H1,I1,r1,q1⟩:=zz;rw [h1];exact thn (hg pins s1 σ H1 x v _ I1 r1 q1) fun _ s2 q=>q
theorem zhj {i:Nat}{x:Str}{e:Expr}{te:TE}{pos':Pos}(hN:X.N.Nodup)(hi:X.N[i]? =some x)(hx:Loc X.env.scope x)(he:PE X e te)(hs:swapsWith e (some (.Name x pos')) pos.line X.env=pure false:=by rfl)(hf:X.fn x=true\/X.env.scope.names.lookup x=some .local:=by first|exact .inl rfl|exact .inr rfl|assumption):
  PS X (.Assign [.Name x pos'] e pos) (zkb te (zeJ i)):=by
 intro pins s σ H D I h;refine wpAny_Assign_Name (thn (he pins s σ H _ I h) fun v s1 zz=>?_) hs;obtain ⟨y,H1,I1,r1,q1⟩:=zz;exact store_ok I1 hN hi hx r1 (fun s2 I2=>⟨_,H1,I2,q1⟩) hf
end
section
variable {X:Cx}{pos:Pos}
end
structure It where
 go:Nat->Hp->Prop
 yld:Nat->Hp->V->Hp->Prop
 stop:Nat->Hp->Prop
noncomputable def zgD (X:Cx)(pins:List (Addr×Obj))(H:Hp)(b:Addr):Prop:=
 H b=none/\b≠X.env.locals/\b∉X.fs/\(b∈X.ex\/X.s₀.heap.objs.size<=b)/\(∀ x c,X.env.cells.lookup x=some c->c≠b)/\∀ p∈X.pn++pins,p.1≠b
theorem Inv.fpOk {X:Cx}{pins:List (Addr×Obj)}{σ:St}{H H':Hp}{s:Shared}{b:Addr}(I:Inv X pins σ H s)(hb:s.heap.objs.size<=b)(hn:H' b=none):zgD X pins H' b:=by
 refine ⟨hn,Nat.ne_of_gt (Nat.lt_of_lt_of_le I.lt hb),I.nofs hb,.inr (Nat.le_trans I.sz hb),fun x c e z=>?_,fun p hp z=>?_⟩
 ·obtain ⟨v,q⟩:=I.cell x c e;exact absurd (Nat.lt_of_lt_of_le q.lt (by rw [z];exact hb)) (Nat.lt_irrefl _)
 ·exact absurd (Nat.lt_of_lt_of_le (Heap.lt_size (I.pin p hp).1) (by rw [z];exact hb)) (Nat.lt_irrefl _)
structure Turn (P:Program)(w:World)(K:PySem.W.Frag)(tg:Expr)(J:It)(fp:List Addr)(it:Addr)(tn:Nat->Heap->Prop):Prop where
 mem:it∈fp
 obj:∀ i h,tn i h->∀ b∈fp,∃ o,h.get? b=some o/\∀ v,o.data≠ .cell v
 keep:∀ i h h',tn i h->(∀ b∈fp,∀ o,h.get? b=some o->h'.get? b=some o)->tn i h'
 item:∀ (X:Cx),X.prog=P->X.w=w->X.K=K->X.calm=true->∀ (i:Nat) (pins:List (Addr×Obj)) (s:Shared) (σ:St) (H:Hp) (E:Value->Shared->Prop),Inv X pins σ H s->(∀ b∈fp,zgD X pins H b)->tn i s.heap->J.go i H->
  wpAny (model P w) X.A (pyNext (.ref it)) (fun r s1=>∃ u,r=some u/\
   wpAny (model P w) X.A (letOwnedTupleGo tg (.ref it) u) (fun _ s2=>∃ x H',Inv X pins σ H' s2/\RelV x u/\J.yld i H x H'/\tn (i+1) s2.heap/\∀ b∈fp,H' b=none) E s1) E s
 done:∀ (X:Cx),X.prog=P->X.w=w->X.K=K->X.calm=true->∀ (i:Nat) (pins:List (Addr×Obj)) (s:Shared) (σ:St) (H:Hp) (E:Value->Shared->Prop),Inv X pins σ H s->(∀ b∈fp,zgD X pins H b)->tn i s.heap->J.stop i H->
  wpAny (model P w) X.A (pyNext (.ref it)) (fun r s1=>r=none/\Inv X pins σ H s1) E s
 self:∀ (A:Around) (i:Nat) (s:Shared) (Q:Value->Shared->Prop) (E:Value->Shared->Prop),tn i s.heap->Q (.ref it) s->wpAny (model P w) A (pyIter (.ref it)) Q E s
noncomputable abbrev TI:=St->Hp->(It->Hp->Prop)->Prop
noncomputable def PIE (X:Cx)(pins:List (Addr×Obj))(σ:St)(tg:Expr)(R:It->Hp->Prop)(itv:Value)(s2:Shared):Prop:=
 ∃ (it:Addr) (fp:List Addr) (tn:Nat->Heap->Prop) (J:It) (H':Hp),itv= .ref it/\Inv X pins σ H' s2/\Turn X.prog X.w X.K tg J fp it tn/\tn 0 s2.heap/\(∀ b∈fp,zgD X pins H' b)/\R J H'
noncomputable def PI (X:Cx)(tg iter:Expr)(wi:TI):Prop:=
 ∀ (pins:List (Addr×Obj)) (s:Shared) (σ:St) (H:Hp) (R:It->Hp->Prop),Inv X pins σ H s->wi σ H R->
  wpAny (model X.prog X.w) X.A (eval iter X.env) (fun v s1=>wpAny (model X.prog X.w) X.A (pyIter v) (PIE X pins σ tg R) X.xe s1) X.xe s
theorem zi6 {M:Model}{A:Around}{E:Value->Shared->Prop}{s:Shared}{tg:Expr}{it:Addr}{u:Value}{o:Obj}{n:String}{vs:Array Value}{Q:Unit->Shared->Prop}(ho:s.heap.get? it=some o)(hc:o.cls= .type n)(hd:o.data= .fields vs)
  (hn:["enumerate","zip","dict_itemiterator","dict_reverseitemiterator","odict_iterator","itertools.zip_longest","itertools.pairwise"].contains n=false)(hQ:Q () s):wpAny M A (letOwnedTupleGo tg (.ref it) u) Q E s:=by
 unfold letOwnedTupleGo
 cases tg<;>first
  |exact wpAny_pure hQ
  | (cases u<;>first
    |exact wpAny_pure hQ
    | (refine wpAny_bind (wpAny_load ho ?_)
       rw [hc,hd];show wpAny M A (if (["enumerate","zip","dict_itemiterator","dict_reverseitemiterator","odict_iterator","itertools.zip_longest","itertools.pairwise"].contains n&&vs[0]? ==some (rawInt _))=true then _ else _) Q E s
       rw [if_neg (by intro h;rw [hn,Bool.false_and] at h;cases h)];exact wpAny_pure hQ))
noncomputable def Itl (K:PySem.W.Frag)(a:Addr):It:=
 ⟨fun i H=>∃ xs x,SqL K H a xs/\xs[i]? =some x,fun i H x H'=>H'=H/\∀ xs,SqL K H a xs->xs[i]? =some x,fun i H=>∃ xs,SqL K H a xs/\xs.length<=i⟩
noncomputable def Itr (lo:Int)(n:Nat):It:=⟨fun i _=>i<n,fun i H x H'=>H'=H/\x= .int (lo+i),fun i _=>n<=i⟩
theorem zfQ {P:Program}{w:World}{K:PySem.W.Frag}{tg:Expr}(a it:Addr):Turn P w K tg (Itl K a) [it] it (fun i h=>h.IsListIter it a i) where
 mem:=by simp
 obj:=fun i h st b hb=>by
  have e:b=it:=by simpa using hb
  subst e;obtain ⟨o,e,c,d⟩:=st;exact ⟨o,e,fun v z=>by rw [d] at z;cases z⟩
 keep:=fun i h h' st k=>st.at fun o e=>k it (by simp) o e
 item:=by
  intro X hP hw hK hc i pins s σ H E I hf st hg;subst hP hw hK;obtain ⟨xs,x,hq,hx⟩:=hg;obtain ⟨its,rv,p,hz⟩:=I.list hq;obtain ⟨u,hu,ru⟩:=rv.get hx;obtain ⟨f0,f1,f2,f3,f4,f5⟩:=hf it (by simp);refine wpAny_pyNext_list_item st p.isList (x:=u) (by simpa using hu) fun h' st' sb=>?_;have I1:Inv X pins σ H {s with heap:=h'}:=I.turned (t':=s.toks) (fun b o hb e=>(sb.2 b hb).trans e) f0 f1 f3 f4 f5;obtain ⟨o,e,c,d⟩:=id st';exact ⟨u,rfl,zi6 (s:={s with heap:=h'}) e c d (by decide) ⟨x,H,I1,ru,⟨rfl,fun ys hy=>by rw [I.list_inj hy hq];exact hx⟩,st',fun b hb=>(hf b hb).1⟩⟩
 done:=by
  intro X hP hw hK hc i pins s σ H E I hf st hg;subst hP hw hK;obtain ⟨xs,hq,hx⟩:=hg;obtain ⟨its,rv,p,hz⟩:=I.list hq;obtain ⟨f0,f1,f2,f3,f4,f5⟩:=hf it (by simp);have hl:=rv.length;exact wpAny_pyNext_list_end (I.ok.hd hc) st p.isList (by simp;omega) fun h' eb=>⟨rfl,I.turned (t':=s.toks) (fun b o hb e=>eb b o hb e) f0 f1 f3 f4 f5⟩
 self:=fun _ _ _ _ _ st h=>wpAny_pyIter_listiter st h
theorem zfv {P:Program}{w:World}{K:PySem.W.Frag}{tg:Expr}(it:Addr)(lo:Int)(n:Nat):Turn P w K tg (Itr lo n) [it] it (fun i h=>IsRangeIter h it (lo+(i:Nat) * 1) ((n:Int) - (i:Nat)) 1) where
 mem:=by simp
 obj:=fun i h st b hb=>by
  have e:b=it:=by simpa using hb
  subst e;exact ⟨_,st,fun v z=>by
   have z':Data.fields _=Data.cell v:=z;cases z'⟩
 keep:=fun i h h' st k=>k it (by simp) _ st
 item:=by
  intro X hP hw hK hc i pins s σ H E I hf st hg;subst hP hw hK;obtain ⟨f0,f1,f2,f3,f4,f5⟩:=hf it (by simp);have W:=Walks.range (prog:=X.prog) (w:=X.w) (I.ok.hd hc) it lo 1 n;refine W.item i s _ _ hg st fun v h' tk hv st' kk=>?_;obtain ⟨t,rfl⟩:=hv;have I1:Inv X pins σ H {s with heap:=h',toks:=tk}:=I.turned (fun b o hb e=>kk b o (by simpa using hb) e) f0 f1 f3 f4 f5;refine ⟨_,rfl,zi6 (s:={s with heap:=h',toks:=tk}) (n:="range_iterator") st' rfl rfl (by decide) ⟨.int (lo+i),H,I1,⟨t,?_⟩,⟨rfl,rfl⟩,st',fun b hb=>(hf b hb).1⟩⟩;rw [Int.mul_one]
 done:=by
  intro X hP hw hK hc i pins s σ H E I hf st hg;subst hP hw hK;obtain ⟨f0,f1,f2,f3,f4,f5⟩:=hf it (by simp);exact wpAny_pyNext_range_end (I.ok.hd hc) st (by have:n<=i:=hg;omega) fun h' eb=>⟨rfl,I.turned (t':=s.toks) (fun b o hb e=>eb b o hb e) f0 f1 f3 f4 f5⟩
 self:=fun _ _ _ _ _ st h=>wpAny_pyIter_rangeiter st h
end L2
namespace L2
open PySem PySem.Spec PyProof.Rows
section
variable {X:Cx}{tg:Expr}
noncomputable def zkc (K:PySem.W.Frag)(tl:TE):TI:=fun σ H R=>tl σ H fun x H1=>∃ a,x= .ref a/\(∃ xs,SqL K H1 a xs)/\R (Itl K a) H1
theorem zhG {l:Expr}{tl:TE}(hl:PE X l tl):PI X tg l (zkc X.K tl):=by
 intro pins s σ H R I h;refine thn (hl pins s σ H _ I h) fun v s1 zz=>?_;obtain ⟨x,H1,I1,r1,q1⟩:=zz;obtain ⟨a,e,⟨xs,hq⟩,q⟩:=q1;subst e;cases r1;obtain ⟨its,rv,p,hz⟩:=I1.list hq;refine wpAny_pyIter_list p.isList ?_;refine ⟨s1.heap.objs.size,[s1.heap.objs.size],_,_,H1,rfl,I1.kept (t':=s1.toks) fun b o e=>Heap.get?_push_of_some _ e,zfQ a _,⟨_,Heap.get?_push_size _ rfl,rfl,rfl⟩,fun b hb=>?_,q⟩;have e:b=s1.heap.objs.size:=by simpa using hb
 subst e;exact I1.fpOk (Nat.le_refl _) (I1.hok.fresh (Nat.le_refl _))
theorem zgK {pins:List (Addr×Obj)}{σ:St}{H:Hp}{s:Shared}{R:It->Hp->Prop}{E:Value->Shared->Prop}{lo hi:Int}{t u v:Tok}{tk:Nat}(I:Inv X pins σ H s)(h1: -(2 ^ 62)<=lo)(h2:lo<2 ^ 62)(h3: -(2 ^ 62)<=hi)(h4:hi<2 ^ 62)
  (q:R (Itr lo (hi - lo).toNat) H):wpAny (model X.prog X.w) X.A (pyIter (.ref s.heap.objs.size)) (PIE X pins σ tg R) E {s with heap:=s.heap.push {cls:=.type "range",data:=.fields #[.int lo t,.int hi u,.int 1 v]},toks:=tk}:=by
 refine wpAny_pyIter_range (IsRange.new ..) (small_one h1 h2 h3 h4) ?_;have I1:Inv X pins σ H {s with heap:=s.heap.push {cls:=.type "range",data:=.fields #[.int lo t,.int hi u,.int 1 v]},toks:=tk}:=I.kept fun b o e=>Heap.get?_push_of_some _ e
 refine ⟨(s.heap.push {cls:=.type "range",data:=.fields #[.int lo t,.int hi u,.int 1 v]}).objs.size,[(s.heap.push {cls:=.type "range",data:=.fields #[.int lo t,.int hi u,.int 1 v]}).objs.size],_,_,H,rfl,
  I1.kept (t':=tk) fun b o e=>Heap.get?_push_of_some _ e,zfv _ lo (hi - lo).toNat,?_,fun b hb=>?_,q⟩
 ·have e1:lo+((0:Nat):Int) * 1=lo:=by simp
  have e2:(((hi - lo).toNat:Nat):Int) - ((0:Nat):Int)=Builtin.Range.rangeSize lo hi 1:=by rw [rangeSize_one];split<;>omega
  show IsRangeIter _ _ (lo+((0:Nat):Int) * 1) ((((hi - lo).toNat:Nat):Int) - ((0:Nat):Int)) 1;rw [e1,e2];exact Heap.get?_push_size _ rfl
 ·have e:b=(s.heap.push {cls:=.type "range",data:=.fields #[.int lo t,.int hi u,.int 1 v]}).objs.size:=by simpa using hb
  subst e;exact I1.fpOk (Nat.le_refl _) (I1.hok.fresh (Nat.le_refl _))
noncomputable def zkd (ta:TA):TI:=fun σ H R=>ta σ H fun vs H1=>∃ j:Int,vs=[.int j]/\ -(2 ^ 62)<=j/\j<2 ^ 62/\R (Itr 0 j.toNat) H1
theorem zdY {a:Expr}{ta:TA}{p pos:Pos}(hg:Gl X "range")(hm:X.mg "range"=none)(ha:PA X [a] ta)(hs:starEach [a] X.env=[(false,eval a X.env)]:=by rfl):PI X tg (.Call (.Name "range" p) [a] [] pos) (zkd ta):=by
 intro pins s σ H R I h;refine Call_ (ld_blt I hg hm boot_range (PyProof.Rows.callWith_type1 (thn (ha pos pins s σ H _ I h) fun us s1 zz=>?_) hs rfl));obtain ⟨vs,H1,I1,r1,q1⟩:=zz;obtain ⟨j,e,q1,q2,q⟩:=q1;subst e;cases r1 with
 |cons r rr=>
  cases rr;obtain ⟨t,rfl⟩:=r;exact call_range_1 (zgK I1 (by omega) (by omega) q1 q2 (by simpa using q))
noncomputable def zk7 (wi:TI)(g:TG)(tb:TS):TS:=fun D σ H=>wi σ H fun J H1=>∃ W:Nat->Nat->St->Hp->Prop,(∃ m,W 0 m σ H1)/\∀ i m σ H,W i m σ H->
 (J.stop i H/\D.nx σ H)\/(J.go i H/\∃ N:St->Hp->Prop,(∀ σ' H',N σ' H'->∃ m',m'<m/\W (i+1) m' σ' H')/\∀ x H',J.yld i H x H'->g x σ H' fun σ2 H2=>tb {D with nx:=N,ct:=N,bk:=D.nx} σ2 H2)
noncomputable def pinsAt (fp:List Addr)(h:Heap):List (Addr×Obj):=fp.filterMap fun b=>(h.get? b).map fun o=>(b,o)
theorem zby {fp:List Addr}{h:Heap}{b:Addr}{o:Obj}(hb:b∈fp)(e:h.get? b=some o):(b,o)∈pinsAt fp h:=List.mem_filterMap.mpr ⟨b,hb,by rw [e];rfl⟩
theorem zdZ {fp:List Addr}{h:Heap}{p:Addr×Obj}(hp:p∈pinsAt fp h):p.1∈fp/\h.get? p.1=some p.2:=by
 obtain ⟨b,hb,e⟩:=List.mem_filterMap.mp hp;cases q:h.get? b with
 |none=>rw [q] at e;cases e
 |some o=>
  rw [q] at e;have e':(b,o)=p:=Option.some.inj e;subst e';exact ⟨hb,q⟩
theorem Inv.pinned {pins:List (Addr×Obj)}{σ:St}{H:Hp}{s:Shared}{fp:List Addr}(I:Inv X pins σ H s)(hf:∀ b∈fp,zgD X pins H b)(ho:∀ b∈fp,∃ o,s.heap.get? b=some o/\∀ v,o.data≠ .cell v):Inv X (pins++pinsAt fp s.heap) σ H s:=
 I.pins_of fun p hp=>(List.mem_append.mp hp).elim (fun z=>I.pin p (List.mem_append_right _ z)) fun z=>by
  obtain ⟨hb,e⟩:=zdZ z;obtain ⟨f0,f1,f2,_⟩:=hf p.1 hb;obtain ⟨o,e',d⟩:=ho p.1 hb;rw [e] at e';cases e';exact ⟨e,f0,f1,f2,d⟩
theorem Inv.unpinned {pins pl:List (Addr×Obj)}{σ:St}{H:Hp}{s:Shared}(I:Inv X (pins++pl) σ H s):Inv X pins σ H s:=I.pins_of fun p hp=>I.pin p (List.mem_append_right _ (List.mem_append_left _ hp))
theorem zhk {iter:Expr}{body:List Stmt}{wi:TI}{g:TG}{tb:TS}{pos:Pos}(hp:PassesOwn (model X.prog X.w) X.A X.env X.xe)(hc:X.calm=true)(hi:PI X tg iter wi)(hg:PG X tg g)(hb:PSs X body tb)
  (hs:∀ x,foldedSetIterable iter X.env x=pure x:=by intro _;rfl):PS X (.For tg iter body [] pos) (zk7 wi g tb):=by
 intro pins s σ H D I h;refine wpAny_For (thn (hi pins s σ H _ I h) fun v s1 h1=>thn h1 fun itv s2 h2=>?_) hs;obtain ⟨it,fp,tn,J,H2,e,I2,T,st2,f2,W,⟨m0,w0⟩,turn⟩:=h2;subst e;have stat:∀ {H':Hp},(∀ b∈fp,H' b=none)->∀ b∈fp,zgD X pins H' b:=fun hn b hb=>⟨hn b hb,(f2 b hb).2⟩;refine codeAny_forLoop_any (fun n s'=>∃ i σ' H',Inv X pins σ' H' s'/\tn i s'.heap/\(∀ b∈fp,H' b=none)/\W i n σ' H') ?_ m0 ⟨0,σ,H2,I2,st2,fun b hb=>(f2 b hb).1,w0⟩;rintro n s3 ⟨i,σ3,H3,I3,st3,fr3,w3⟩;rcases turn i n σ3 H3 w3 with ⟨stop,qn⟩|⟨go,N,hN,step⟩
 ·refine wpAny_passesOwn hp (thn (T.done X rfl rfl rfl hc i pins s3 σ3 H3 X.xe I3 (stat fr3) st3 stop) fun r s4 ⟨hr,I4⟩=>?_);subst hr;exact wpAny_execs_nil ⟨σ3,H3,I4,qn⟩
 ·refine wpAny_passesOwn hp (thn (T.item X rfl rfl rfl hc i pins s3 σ3 H3 X.xe I3 (stat fr3) st3 go) fun r s4 ⟨u,hr,h4⟩=>?_);subst hr;refine wpAny_passesOwn hp (thn h4 fun _ s5 zz=>?_);obtain ⟨x,H5,I5,r5,y5,st5,fr5⟩:=zz;have I5':=I5.pinned (stat fr5) (T.obj _ _ st5);refine wpAny_passesOwn hp (thn (hg _ s5 σ3 H5 x u _ I5' r5 (step x H5 y5)) fun _ s6 zz=>?_);obtain ⟨σ6,H6,I6,q6⟩:=zz;refine wpAny_passesOwn hp (thn (hb _ s6 σ6 H6 _ I6 q6) fun f s7 q7=>?_);have again:∀ {σ7:St} {H7:Hp},Inv X (pins++pinsAt fp s5.heap) σ7 H7 s7->N σ7 H7->∃ m,m<n/\∃ i σ' H',Inv X pins σ' H' s7/\tn i s7.heap/\(∀ b∈fp,H' b=none)/\W i m σ' H':=fun {σ7 H7} I7 n7=>by
   obtain ⟨m',hm,w7⟩:=hN σ7 H7 n7;refine ⟨m',hm,i+1,σ7,H7,I7.unpinned,T.keep _ _ _ st5 fun b hb o e=>(I7.pin (b,o) (List.mem_append_right _ (List.mem_append_right _ (zby hb e)))).1,fun b hb=>?_,w7⟩;obtain ⟨o,e,d⟩:=T.obj _ _ st5 b hb;exact (I7.pin (b,o) (List.mem_append_right _ (List.mem_append_right _ (zby hb e)))).2.1
  cases f with
  |next=>obtain ⟨σ7,H7,I7,n7⟩:=q7;exact again I7 n7
  |cont=>obtain ⟨σ7,H7,I7,n7⟩:=q7;exact again I7 n7
  |brk=>obtain ⟨σ7,H7,I7,q7⟩:=q7;exact ⟨σ7,H7,I7.unpinned,q7⟩
  |ret v=>obtain ⟨x7,σ7,H7,I7,r7,q7⟩:=q7;exact ⟨x7,σ7,H7,I7.unpinned,r7,q7⟩
end
theorem zgL {K:PySem.W.Frag}{a:Addr}{xs:List V}{g:TG}{tb:TS}{D:Ends}{σ:St}{H:Hp}(Pv:Nat->St->Hp->Prop)(h0:Pv 0 σ H)(hl:∀ i σ H,i<=xs.length->Pv i σ H->SqL K H a xs)
  (hs:∀ i x σ H,xs[i]? =some x->Pv i σ H->g x σ H fun σ2 H2=>tb {D with nx:=Pv (i+1),ct:=Pv (i+1),bk:=D.nx} σ2 H2)(hd:∀ σ H,Pv xs.length σ H->D.nx σ H):
  ∃ W:Nat->Nat->St->Hp->Prop,(∃ m,W 0 m σ H)/\∀ i m σ H,W i m σ H->
   ((Itl K a).stop i H/\D.nx σ H)\/((Itl K a).go i H/\∃ N:St->Hp->Prop,(∀ σ' H',N σ' H'->∃ m',m'<m/\W (i+1) m' σ' H')/\∀ x H',(Itl K a).yld i H x H'->g x σ H' fun σ2 H2=>tb {D with nx:=N,ct:=N,bk:=D.nx} σ2 H2):=by
 refine ⟨fun i m σ H=>m=xs.length - i/\i<=xs.length/\Pv i σ H,⟨xs.length,by simp,Nat.zero_le _,h0⟩,?_⟩;rintro i m σ H ⟨rfl,hi,p⟩;have q:=hl i σ H hi p;by_cases hlt:i<xs.length
 ·refine .inr ⟨⟨xs,xs[i],q,by simp [hlt]⟩,Pv (i+1),fun σ' H' p'=>⟨xs.length - (i+1),by omega,rfl,hlt,p'⟩,fun x H' y=>?_⟩;obtain ⟨e,y⟩:=y;subst e;exact hs i x σ _ (y xs q) p
 ·have e:i=xs.length:=by omega
  subst e;exact .inl ⟨⟨xs,q,Nat.le_refl _⟩,hd σ H p⟩
theorem zfR {lo:Int}{n:Nat}{g:TG}{tb:TS}{D:Ends}{σ:St}{H:Hp}(Pv:Nat->St->Hp->Prop)(h0:Pv 0 σ H)
  (hs:∀ i σ H,i<n->Pv i σ H->g (.int (lo+i)) σ H fun σ2 H2=>tb {D with nx:=Pv (i+1),ct:=Pv (i+1),bk:=D.nx} σ2 H2)(hd:∀ σ H,Pv n σ H->D.nx σ H):
  ∃ W:Nat->Nat->St->Hp->Prop,(∃ m,W 0 m σ H)/\∀ i m σ H,W i m σ H->
   ((Itr lo n).stop i H/\D.nx σ H)\/((Itr lo n).go i H/\∃ N:St->Hp->Prop,(∀ σ' H',N σ' H'->∃ m',m'<m/\W (i+1) m' σ' H')/\∀ x H',(Itr lo n).yld i H x H'->g x σ H' fun σ2 H2=>tb {D with nx:=N,ct:=N,bk:=D.nx} σ2 H2):=by
 refine ⟨fun i m σ H=>m=n - i/\i<=n/\Pv i σ H,⟨n,by simp,Nat.zero_le _,h0⟩,?_⟩;rintro i m σ H ⟨rfl,hi,p⟩;by_cases hlt:i<n
 ·refine .inr ⟨hlt,Pv (i+1),fun σ' H' p'=>⟨n - (i+1),by omega,rfl,hlt,p'⟩,fun x H' y=>?_⟩;obtain ⟨e,y⟩:=y;subst e y;exact hs i σ _ hlt p
 ·have e:i=n:=by omega
  subst e;exact .inl ⟨Nat.le_refl _,hd σ H p⟩
end L2
namespace L2
open PySem PySem.Spec PyProof.Rows
noncomputable abbrev R2:=V->V->Hp->VK->Prop
noncomputable def OpR (X:Cx)(f:Value->Value->Sem Value)(r:R2):Prop:=
 ∀ (pins:List (Addr×Obj)) (s:Shared) (σ:St) (H:Hp) (x y:V) (v u:Value) (Q:VK),Inv X pins σ H s->RelV x v->RelV y u->r x y H Q->
  wpAny (model X.prog X.w) X.A (f v u) (EP X pins σ Q) X.xe s
noncomputable def UnR (X:Cx)(f:Value->Sem Value)(r:V->Hp->VK->Prop):Prop:=
 ∀ (pins:List (Addr×Obj)) (s:Shared) (σ:St) (H:Hp) (x:V) (v:Value) (Q:VK),Inv X pins σ H s->RelV x v->r x H Q->
  wpAny (model X.prog X.w) X.A (f v) (EP X pins σ Q) X.xe s
noncomputable def CallR (X:Cx)(f:Value)(r:List V->Hp->VK->Prop):Prop:=
 ∀ (pins:List (Addr×Obj)) (s:Shared) (σ:St) (H:Hp) (xs:List V) (us:List Value) (Q:VK),Inv X pins σ H s->Vals xs us->r xs H Q->
  wpAny (model X.prog X.w) X.A (call f us) (EP X pins σ Q) X.xe s
noncomputable def tOp (r:R2)(ta tb:TE):TE:=fun σ H Q=>ta σ H fun x H1=>tb σ H1 fun y H2=>r x y H2 Q
noncomputable def tUn (r:V->Hp->VK->Prop)(ta:TE):TE:=fun σ H Q=>ta σ H fun x H1=>r x H1 Q
noncomputable def rI (C:Int->Int->Prop)(g:Int->Int->V):R2:=fun x y H Q=>∃ i j,x= .int i/\y= .int j/\C i j/\Q (g i j) H
noncomputable def rI0 (g:Int->Int->V):R2:=fun x y H Q=>∃ i j,x= .int i/\y= .int j/\Q (g i j) H
noncomputable def rU (g:Int->V):V->Hp->VK->Prop:=fun x H Q=>∃ i,x= .int i/\Q (g i) H
section
variable {X:Cx}{a b c:Expr}{ta tb tc:TE}{pos:Pos}
theorem binT (ha:PE X a ta)(hb:PE X b tb){pins:List (Addr×Obj)}{s:Shared}{σ:St}{H:Hp}{R:V->V->Hp->Prop}(I:Inv X pins σ H s)
  (h:ta σ H fun x H1=>tb σ H1 fun y H2=>R x y H2){Q:Value->Shared->Prop}{f:Value->Value->Sem Value}
  (hf:∀ v u s2 x y H2,Inv X pins σ H2 s2->RelV x v->RelV y u->R x y H2->wpAny (model X.prog X.w) X.A (f v u) Q X.xe s2):
  wpAny (model X.prog X.w) X.A (eval a X.env) (fun v s₁=>wpAny (model X.prog X.w) X.A (eval b X.env) (fun u s₂=>wpAny (model X.prog X.w) X.A (f v u) Q X.xe s₂) X.xe s₁) X.xe s:=by
 refine thn (ha pins s σ H _ I h) fun v s1 zz=>?_;obtain ⟨x,H1,I1,r1,q1⟩:=zz;refine thn (hb pins s1 σ H1 _ I1 q1) fun u s2 zz=>?_;obtain ⟨y,H2,I2,r2,q2⟩:=zz;exact hf v u s2 x y H2 I2 r1 r2 q2
theorem zi7 {op:Operator}{r:R2}(ho:OpR X (binaryOp op) r)(ha:PE X a ta)(hb:PE X b tb):PE X (.BinOp a op b pos) (tOp r ta tb):=by
 intro pins s σ H Q I h;exact wpAny_BinOp (binT ha hb I h fun v u s2 x y H2 I2 rx ry q=>ho pins s2 σ H2 x y v u Q I2 rx ry q)
theorem zke {op:UnaryOp}{r:V->Hp->VK->Prop}(ho:UnR X (unaryOp op) r)(ha:PE X a ta):PE X (.UnaryOp op a pos) (tUn r ta):=by
 intro pins s σ H Q I h;exact UnaryOp_ (thn (ha pins s σ H _ I h) fun v s1 ⟨x,H1,I1,r1,q1⟩=>ho pins s1 σ H1 x v Q I1 r1 q1)
theorem opI {f:Value->Value->Sem Value}{C:Int->Int->Prop}{g:Int->Int->Int}
  (rule:∀ (i j:Int) (t u:Tok) (s:Shared) (Q:Value->Shared->Prop) (E:Value->Shared->Prop),C i j->Q (.int (g i j) s.toks) {s with toks:=s.toks+1}->wpAny (model X.prog X.w) X.A (f (.int i t) (.int j u)) Q E s):
  OpR X f (rI C fun i j=>.int (g i j)):=by
 intro pins s σ H x y v u Q I rx ry h;obtain ⟨i,j,rfl,rfl,hc,q⟩:=h;obtain ⟨t,rfl⟩:=rx;obtain ⟨t',rfl⟩:=ry;exact rule i j t t' s _ _ hc ⟨.int (g i j),H,I.tok _,⟨_,rfl⟩,q⟩
theorem zk8 {f:Value->Value->Sem Value}{g:Int->Int->Int}
  (rule:∀ (i j:Int) (t u:Tok) (s:Shared) (Q:Value->Shared->Prop) (E:Value->Shared->Prop),Q (.int (g i j) s.toks) {s with toks:=s.toks+1}->wpAny (model X.prog X.w) X.A (f (.int i t) (.int j u)) Q E s):
  OpR X f (rI0 fun i j=>.int (g i j)):=by
 intro pins s σ H x y v u Q I rx ry h;obtain ⟨i,j,rfl,rfl,q⟩:=h;obtain ⟨t,rfl⟩:=rx;obtain ⟨t',rfl⟩:=ry;exact rule i j t t' s _ _ ⟨.int (g i j),H,I.tok _,⟨_,rfl⟩,q⟩
theorem zi8:OpR X (binaryOp .Add) (rI0 fun i j=>.int (i+j)):=zk8 fun _ _ _ _ _ _ _ q=>add_int q
theorem zi9:OpR X (binaryOp .Mod) (rI (fun _ j=>0<j) fun i j=>.int (i % j)):=opI fun i j _ _ _ _ _ hc q=>by
 have h1:(0:Int)<j:=hc;exact mod_int' (by omega) (by rw [Int.fmod_eq_emod_of_nonneg i (by omega)];exact q)
theorem unI {f:Value->Sem Value}{g:Int->Int}
  (rule:∀ (i:Int) (t:Tok) (s:Shared) (Q:Value->Shared->Prop) (E:Value->Shared->Prop),Q (.int (g i) s.toks) {s with toks:=s.toks+1}->wpAny (model X.prog X.w) X.A (f (.int i t)) Q E s):
  UnR X f (rU fun i=>.int (g i)):=by
 intro pins s σ H x v Q I rx h;obtain ⟨i,rfl,q⟩:=h;obtain ⟨t,rfl⟩:=rx;exact rule i t s _ _ ⟨.int (g i),H,I.tok _,⟨_,rfl⟩,q⟩
theorem zja:UnR X (unaryOp .USub) (rU fun i=>.int (-i)):=unI fun _ _ _ _ _ q=>neg_int q
end
section
variable {X:Cx}{a b c:Expr}{ta tb tc:TE}{pos:Pos}
theorem zbU {pins:List (Addr×Obj)}{σ:St}{H:Hp}{s:Shared}{Q:VK}{k k':Bool}(I:Inv X pins σ H s)(q:Q (.bl k) H)(e:k=k'):EP X pins σ Q (.bool k') s:=by
 subst e;exact ⟨.bl k,H,I,rfl,q⟩
theorem OpR.or {f:Value->Value->Sem Value}{r r':R2}(h:OpR X f r)(h':OpR X f r'):OpR X f (fun x y H Q=>r x y H Q\/r' x y H Q):=by
 intro pins s σ H x y v u Q I rx ry q;rcases q with q|q
 ·exact h pins s σ H x y v u Q I rx ry q
 ·exact h' pins s σ H x y v u Q I rx ry q
theorem zfS (b:Expr){op:CmpOp}(h:op≠ .In:=by decide)(h2:op≠ .NotIn:=by decide):behindInMarks op b=false:=by
 have e1:(op==CmpOp.In)=false:=by cases op<;>first|rfl|exact absurd rfl h
 have e2:(op==CmpOp.NotIn)=false:=by cases op<;>first|rfl|exact absurd rfl h2
 cases b<;>simp [behindInMarks,e1,e2]
theorem zhH {op:CmpOp}{r:R2}(ho:OpR X (compareOp op) r)(ha:PE X a ta)(hb:PE X b tb)(hm:behindInMarks op b=false):PE X (.Compare a [op] [b] pos) (tOp r ta tb):=by
 intro pins s σ H Q I h;exact wpAny_Compare1 (binT ha hb I h fun v u s2 x y H2 I2 rx ry q=>ho pins s2 σ H2 x y v u Q I2 rx ry q) hm
noncomputable def zhI (t:TE):TT:=fun σ H Q=>t σ H fun x H'=>∃ k,x= .bl k/\Q k H'
theorem zhJ {op:CmpOp}{r:R2}(ho:OpR X (compareOp op) r)(ha:PE X a ta)(hb:PE X b tb)(hm:behindInMarks op b=false):PT X (.Compare a [op] [b] pos) (zhI (tOp r ta tb)):=by
 intro pins s σ H Q I h;refine wpAny_isTrue_Compare1 (thn (ha pins s σ H _ I h) fun v s1 ⟨x,H1,I1,r1,q1⟩=>thn (hb pins s1 σ H1 _ I1 q1) fun u s2 ⟨y,H2,I2,r2,q2⟩=>
  thn (ho pins s2 σ H2 x y v u _ I2 r1 r2 q2) fun c s3 ⟨z,H3,I3,r3,k,e,q3⟩=>?_) hm
 subst e;cases r3;exact wpAny_truthy_bool ⟨H3,I3,q3⟩
theorem zde:(sizeLine:Nat)<2 ^ 63:=by rw [sizeLine_eq];decide
theorem zfw:OpR X (binaryOp .Add) (fun x y H Q=>∃ i j,x= .str i/\y= .str j/\i.length+j.length<=sizeLine/\Q (.str (i++j)) H):=by
 intro pins s σ H x y v u Q I rx ry h;obtain ⟨i,j,rfl,rfl,hz,q⟩:=h;obtain ⟨t,rfl⟩:=rx;obtain ⟨t',rfl⟩:=ry;exact add_str (fun t' tk=>⟨.str (i++j),H,I.tok _,⟨_,rfl⟩,q⟩) hz
theorem zhK {x:V}{us:List Value}(r:Vals [x] us):∃ u,us=[u]/\RelV x u:=by
 cases r with
 |cons r1 r2=>cases r2;exact ⟨_,rfl,r1⟩
end
end L2
namespace L2
open PySem PySem.Spec PyProof.Rows
structure ObjM (h:Heap)(x dx C:Addr)(mA:Str->Option Value):Prop where
 obj:h.get? x=some (PySem.W.instObj C dx)
 ns:h.Ns1 dx mA
 ne:dx≠x
theorem zfT {h:Heap}{dx:Addr}{mA:Str->Option Value}(n:h.Ns1 dx mA):∃ od,h.get? dx=some od/\∀ name,PySem.W.lookIn name od=some (mA name):=by
 obtain ⟨o,es,ep,ho,hd,hk,_,hm⟩:=n;refine ⟨o,ho,fun name=>?_⟩;have e:=hm name;unfold nsFind findBy at e;rw [<-Array.find?_toList] at e;unfold PySem.W.lookIn;rw [hd];dsimp only;split
 ·rename_i y q;rw [q] at e;exact congrArg some e
 ·rename_i q;rw [q] at e;have a:es.toList.any (·.refKey)=false:=by
   rw [List.any_eq_false];intro y hy;obtain ⟨z,t,hkey⟩:=hk y (Array.mem_toList_iff.mp hy);simp [DictEntry.refKey,hkey]
  have a':¬ es.toList.any (·.refKey)=true:=by rw [a];exact Bool.false_ne_true
  rw [if_neg a'];exact congrArg some e
theorem ObjM.look {h:Heap}{x dx C:Addr}{mA:Str->Option Value}(I:ObjM h x dx C mA):∃ od,PySem.W.InstAt h x (PySem.W.instObj C dx) C (some od)/\∀ name,PySem.W.lookIn name od=some (mA name):=
 let ⟨od,ho,hl⟩:=zfT I.ns
 ⟨od,⟨I.obj,rfl,rfl,ho⟩,hl⟩
section
variable {prog:Program}{w:World}{A:Around}{E:Value->Shared->Prop}{s:Shared}{K:PySem.W.Frag}{x dx C f:Addr}{mA:Str->Option Value}{name:Str}{v:Value}
theorem zgM {pl:Sem Bool}{Q:Value×List Value->Shared->Prop}(X:K.In s.heap)(I:ObjM s.heap x dx C mA)(hg:PySem.W.plainGet K C name=true)
  (hf:PySem.W.findIn K (.ref C) name=some (some (.ref f)))(ht:PySem.W.isFn K (.ref f)=true)(hv:mA name=none)(h:Q (.ref f,[.ref x]) s):
  wpAny (model prog w) A (getMethod (.ref x) name pl) Q E s:=by
 obtain ⟨od,J,hl⟩:=I.look;exact PySem.W.method_fn X J (PySem.W.plainGet_of hg).1 (PySem.W.plainGet_of hg).2 hf (beq_iff_eq.mp ht) (by show (PySem.W.lookIn name od).map (·.isSome)=some false;rw [hl,hv];rfl) h
theorem zfU {R:Result->Shared->Prop}(X:K.In s.heap)(hm:PySem.W.makesIn K C=true)
  (hi:PySem.W.findIn K (.ref C) "__init__"=some (some (.builtin "object.__init__")))
  (hb:∀ self,PySem.W.Looks (model prog w) s.heap (bindSpecial (.builtin "object.__init__") self) (.builtin "object.__init__",[self]))
  (h:codeAny (model prog w) (A.under (.builtin "type.__call__" ⟨[.ref C],[]⟩)) (.call (.builtin "object.__init__") ⟨[.ref (s.heap.objs.size+1)],[]⟩) (PySem.W.InitBack (s.heap.objs.size+1) R)
   {s with heap:=(s.heap.push PySem.W.emptyDict).push (PySem.W.instObj C s.heap.objs.size)}):
  codeAny (model prog w) A (.call (.ref C) ⟨[],[]⟩) R s:=by
 obtain ⟨hh,g,d,t,os⟩:=s;exact PySem.W.make_core (PySem.W.makes_of X hm) (PySem.W.looks_findIn X hi) hb (.inr ⟨rfl,rfl⟩) h
end
theorem RelO.none_of {o:Option Value}(r:RelO none o):o=none:=by
 cases o with
 |none=>rfl
 |some u=>exact (show False from r).elim
section
variable {P:Program}{w:World}{H H':Hp}{h h':Heap}{a C dx:Addr}{fs fs':List (Str×V)}
theorem zfV (hok:HOk P w H h)(e:H a=some (.ins C dx fs)):∃ mA,ObjM h a dx C mA/\(∀ f,RelO (fs.lookup f) (mA f))/\PySem.Within mA (fs.map (·.1))/\fs.length<=1000/\H dx=some (.own a):=by
 obtain ⟨d,z,ne,ob,mA,n,r,q⟩:=(show ObjOk P w H h a (.ins C dx fs) from hok a _ e);exact ⟨mA,⟨ob,n,ne⟩,r,q,z,d⟩
end
structure Cls (K:PySem.W.Frag)(C:Addr):Prop where
 pg:PySem.W.plainGet K C Str.empty=true
 hd:PySem.W.hasDictIn K C=true
 po:PySem.W.plainOver K C=true
 sa:PySem.W.findIn K (.ref C) "__setattr__"=some (some (.builtin "object.__setattr__"))
theorem Cls.get {K:PySem.W.Frag}{C:Addr}(c:Cls K C)(f:Str):PySem.W.plainGet K C f=true:=c.pg
structure Meth (K:PySem.W.Frag)(C:Addr)(m:Str)(f:Addr):Prop where
 at_:PySem.W.findIn K (.ref C) m=some (some (.ref f))
 fn:PySem.W.isFn K (.ref f)=true
 kp:PySem.W.keepIn K (.ref f)=true
section
variable {X:Cx}{pins:List (Addr×Obj)}{σ:St}{H:Hp}{s:Shared}{a C dx:Addr}{fs:List (Str×V)}{f:Str}{v:V}{A:Around}{E:Value->Shared->Prop}
theorem zfx {m:Str}{g:Addr}{pl:Sem Bool}{Q:Value×List Value->Shared->Prop}(I:Inv X pins σ H s)(e:H a=some (.ins C dx fs))(c:Cls X.K C)(k:Meth X.K C m g)(l:fs.lookup m=none)
  (h:Q (.ref g,[.ref a]) s):wpAny (model X.prog X.w) A (getMethod (.ref a) m pl) Q E s:=by
 obtain ⟨mA,O,r,_,_,_⟩:=zfV I.hok e;have hn:mA m=none:=RelO.none_of (by rw [<-l];exact r m);exact zgM I.kIn O (c.get m) k.at_ k.fn hn h
theorem Inv.made (I:Inv X pins σ H s):Inv X pins σ (upd (upd H s.heap.objs.size (.own (s.heap.objs.size+1))) (s.heap.objs.size+1) (.ins C s.heap.objs.size []))
  {s with heap:=(s.heap.push PySem.W.emptyDict).push (PySem.W.instObj C s.heap.objs.size)}:=by
 have e1:(s.heap.push PySem.W.emptyDict).get? s.heap.objs.size=some PySem.W.emptyDict:=Heap.get?_push_size s.heap rfl;have e2:((s.heap.push PySem.W.emptyDict).push (PySem.W.instObj C s.heap.objs.size)).get? (s.heap.objs.size+1)=some (PySem.W.instObj C s.heap.objs.size):=by
  have:=Heap.get?_push_size (s.heap.push PySem.W.emptyDict) (o:=PySem.W.instObj C s.heap.objs.size) rfl;rwa [Heap.size_push] at this
 have e3:(s.heap.push PySem.W.emptyDict).Ns s.heap.objs.size (fun _=>none):=⟨PySem.W.emptyDict,#[],_,e1,rfl,(fun e he=>absurd he (by simp)),fun _=>rfl⟩;have I1:=I.laid (a:=s.heap.objs.size) (o:=.own (s.heap.objs.size+1)) (h':=s.heap.push PySem.W.emptyDict) (t':=s.toks) (fun b u q=>Heap.get?_push_of_some _ q) (Nat.le_refl _) ⟨_,e1⟩;refine I1.laid (a:=s.heap.objs.size+1) (o:=.ins C s.heap.objs.size []) (t':=s.toks) (fun b u q=>Heap.get?_push_of_some _ q) (Nat.le_of_eq (Heap.size_push _ _)) ?_;have ne:s.heap.objs.size≠s.heap.objs.size+1:=Nat.ne_of_lt (Nat.lt_succ_self _);refine ⟨by rw [upd_ne ne,zas],Nat.zero_le _,ne,e2,fun _=>none,(Heap.Ns1.of_empty e3).at fun o q=>Heap.get?_push_of_some _ q,fun _=>True.intro,fun y hy=>absurd rfl hy⟩
end
section
variable {X:Cx}{o e value:Expr}{f:Str}{pos pos' tpos:Pos}{ta tv:TE}
theorem zeL {pl:Sem Bool}{m:Str}{apos:Pos}{args:List Expr}{pins:List (Addr×Obj)}{s:Shared}{σ:St}{H:Hp}{Q:Value->Shared->Prop}{te:TE}(he:PE X e te)(I:Inv X pins σ H s)
  (h:te σ H fun x H1=>∃ a C dx fs g,x= .ref a/\H1 a=some (.ins C dx fs)/\Cls X.K C/\Meth X.K C m g/\fs.lookup m=none/\
   ∀ s1,Inv X pins σ H1 s1->wpAny (model X.prog X.w) X.A (callWith pos (.ref g) [.ref a] (backTo pos (starEach args X.env)) (backToKw pos (keywordEach [] X.env))) Q X.xe s1)
  (ht:eval (.Call (.Attribute e m apos) args [] pos) X.env=(do
   let ov <-eval e X.env
   standAt apos.atName
   let (f,first) <-holding [ov] (getMethod ov m pl)
   callWith pos f first (backTo pos (starEach args X.env)) (backToKw pos (keywordEach [] X.env)))):
  wpAny (model X.prog X.w) X.A (eval (.Call (.Attribute e m apos) args [] pos) X.env) Q X.xe s:=by
 refine PySem.W.methodCall_KW (pl:=pl) (thn (he pins s σ H _ I h) fun u s1 zz=>?_) ht;obtain ⟨x,H1,I1,rx,a,C,dx,fs,g,ex,ea,c,k,l,q⟩:=zz;subst ex;obtain rfl:u=Value.ref a:=rx;exact zfx I1 ea c k l (q s1 I1)
end
section
variable {X:Cx}{pins:List (Addr×Obj)}{σ:St}{H:Hp}{s:Shared}{A:Around}{E:Value->Shared->Prop}{Q:Value->Shared->Prop}{c:Value}{b:Bool}
inductive TyOf (K:PySem.W.Frag)(H:Hp):V->Value->Prop where
 |non:TyOf K H .non (.type "NoneType")
 |bl (x:Bool):TyOf K H (.bl x) (.type "bool")
 |int (i:Int):TyOf K H (.int i) (.type "int")
 |str (x:Str):TyOf K H (.str x) (.type "str")
 |flt (x:UInt64):TyOf K H (.flt x) (.type "float")
 |lst {a:Addr} {xs:List V} (e:H a=some (.lst xs)):TyOf K H (.ref a) (.type "list")
 |frz {a:Addr} {o:Obj} {xs:List V} (e:H a=some (.frz o (.lst xs))):TyOf K H (.ref a) (.type "list")
 |tup {a:Addr} {xs:List V} (e:H a=some (.tup xs)):TyOf K H (.ref a) (.type "tuple")
 |dK {a:Addr} {kvs:List (Key×V)} (e:H a=some (.dK kvs)):TyOf K H (.ref a) (.type "dict")
 |dT {a:Addr} {kvs:List (List Key×V)} (e:H a=some (.dT kvs)):TyOf K H (.ref a) (.type "dict")
 |ins {a C dx:Addr} {fs:List (Str×V)} (e:H a=some (.ins C dx fs)) (cl:Cls K C) (ha:PySem.W.findIn K (.ref C) "__class__"=some (some (.builtin "object.__class__")))
   (hn:PySem.W.specialIn K (.builtin "object.__class__") "__get__"=some (some (.builtin "getset_descriptor.__get__"))) (htk:PySem.W.takesIn K (.builtin "object.__class__")=some true)
   (hm:PySem.W.mroIn K C (.type "object")=some true):TyOf K H (.ref a) (.ref C)
theorem zbn {x:V}{u t:Value}(I:Inv X pins σ H s)(rx:RelV x u)(ty:TyOf X.K H x t)(e:PySem.W.kitOne X.K t c=some b)(h:∀ tk,Q (.bool b) {s with toks:=tk}):
  wpAny (model X.prog X.w) A (call (.builtin "isinstance") [u,c]) Q E s:=by
 cases ty with
 |non=>cases (show u=Value.none from rx);exact PySem.W.kia_one PySem.W.kitx_none I.kIn True.intro e (fun z=>nomatch z) h
 |bl y=>cases (show u=Value.bool y from rx);exact PySem.W.kia_one PySem.W.kitx_bool I.kIn True.intro e (fun z=>nomatch z) h
 |int i=>obtain ⟨t,q⟩:=(show ∃ t,u=Value.int i t from rx);cases q;exact PySem.W.kia_one PySem.W.kitx_int I.kIn True.intro e (fun z=>nomatch z) h
 |str y=>obtain ⟨t,q⟩:=(show ∃ t,u=Value.str y t from rx);cases q;exact PySem.W.kia_one PySem.W.kitx_str I.kIn True.intro e (fun z=>nomatch z) h
 |flt y=>obtain ⟨t,q⟩:=(show ∃ t,u=Value.float y t from rx);cases q;exact PySem.W.kia_one PySem.W.kitx_float I.kIn True.intro e (fun z=>nomatch z) h
 | @lst a xs ea=>
  cases (show u=Value.ref a from rx);obtain ⟨_,_,n,_,h1⟩:=(show ObjOk X.prog X.w H s.heap a (.lst xs) from I.hok a _ ea);exact PySem.W.kia_one PySem.W.kitx_list I.kIn ⟨_,h1,rfl⟩ e (fun z=>nomatch z) h
 | @frz a ob xs ea=>
  cases (show u=Value.ref a from rx);obtain ⟨_,_,_,n,_,h1⟩:=(show ObjOk X.prog X.w H s.heap a (.frz ob (.lst xs)) from I.hok a _ ea);exact PySem.W.kia_one PySem.W.kitx_list I.kIn ⟨_,h1,rfl⟩ e (fun z=>nomatch z) h
 | @tup a xs ea=>
  cases (show u=Value.ref a from rx);obtain ⟨_,_,_,p⟩:=(show ObjOk X.prog X.w H s.heap a (.tup xs) from I.hok a _ ea);obtain ⟨o,h1,h2,_⟩:=p;exact PySem.W.kia_one PySem.W.kitx_tuple I.kIn ⟨o,h1,h2⟩ e (fun z=>nomatch z) h
 | @dK a kvs ea=>
  cases (show u=Value.ref a from rx);obtain ⟨_,_,vs,_,p⟩:=(show ObjOk X.prog X.w H s.heap a (.dK kvs) from I.hok a _ ea);obtain ⟨o,es,ep,h1,h2,_⟩:=p;exact PySem.W.kia_one PySem.W.kitx_dict I.kIn ⟨o,h1,h2.1⟩ e (fun z=>nomatch z) h
 | @dT a kvs ea=>
  cases (show u=Value.ref a from rx);obtain ⟨_,_,xs,_,o,es,ep,h1,h2,_⟩:=(show ObjOk X.prog X.w H s.heap a (.dT kvs) from I.hok a _ ea);exact PySem.W.kia_one PySem.W.kitx_dict I.kIn ⟨o,h1,h2.1⟩ e (fun z=>nomatch z) h
 | @ins a C dx fs ea cl ha hn htk hm=>
  cases (show u=Value.ref a from rx);obtain ⟨mA,O,_⟩:=zfV I.hok ea;obtain ⟨od,J,_⟩:=O.look;exact PySem.W.kia_one (PySem.W.kitx_own (cl.get _) cl.hd ha hn htk hm) I.kIn J e (fun z=>nomatch z) h
end
end L2
namespace L2
open PySem PySem.Spec PyProof.Rows
structure Room (k:Nat)(A:Around):Prop where
 hd:A.handled=none
 dp:A.depth+3 * k+5<recursionLimit
 un:A.units+16 * k+200<cLine
theorem Room.mono {j k:Nat}{A:Around}(r:Room k A)(h:j<=k):Room j A:=⟨r.hd,by have:=r.dp;omega,by have:=r.un;omega⟩
theorem Room.deeper {k:Nat}{A:Around}(r:Room (k+1) A)(env:Env):Room k (A.deeper env):=
 ⟨r.hd,by have:=r.dp;show A.depth+1+3 * k+5<_;omega,by have:=r.un;show A.units+3+16 * k+200<_;omega⟩
theorem Room.in1 {k:Nat}{A:Around}(r:Room (k+1) A):Room k A.in1:=
 ⟨r.hd,by have:=r.dp;show A.depth+3 * k+5<_;omega,by have:=r.un;show A.units+1+16 * k+200<_;omega⟩
theorem Room.depth {k:Nat}{A:Around}(r:Room k A):A.depth<recursionLimit:=by have:=r.dp;omega
theorem Room.units {k:Nat}{A:Around}(r:Room k A):A.units+64<cLine:=by have:=r.un;omega
noncomputable def zkQ:TA:=fun _ H Q=>Q [] H
noncomputable def zkf (ta:TE)(tr:TA):TA:=fun σ H Q=>ta σ H fun x H1=>tr σ H1 fun xs H2=>Q (x::xs) H2
section
variable {X:Cx}{e:Expr}{es:List Expr}{te:TE}{t:TA}{pos:Pos}
theorem zbE:PA X [] zkQ:=fun _ _ _ _ H Q I h=>Calls.spliced_nil ⟨[],H,I,.nil,h⟩
theorem zaC (ha:PE X e te)(hr:PA X es t)(hs:starEach (e::es) X.env=(false,eval e X.env)::starEach es X.env:=by rfl):PA X (e::es) (zkf te t):=by
 intro pos pins s σ H Q I h;rw [hs];show wpAny _ _ (spliced ((false,eval e X.env)::backTo pos (starEach es X.env))) _ _ s;refine Calls.spliced_cons (thn (ha pins s σ H _ I h) fun u s1 zz=>?_);obtain ⟨x,H1,I1,r1,q1⟩:=zz;exact thn (hr pos pins s1 σ H1 _ I1 q1) fun us s2 ⟨xs,H2,I2,r2,q2⟩=>⟨x::xs,H2,I2,.cons r1 r2,q2⟩
noncomputable def zk9 (t:TA):TE:=fun σ H Q=>t σ H fun xs H1=>xs.length<=sizeLine/\∀ p,H1 p=none->Q (.ref p) (upd H1 p (.tup xs))
noncomputable def zla (t:TA):TE:=fun σ H Q=>t σ H fun xs H1=>xs.length<=sizeLine/\∀ p,H1 p=none->Q (.ref p) (upd H1 p (.lst xs))
theorem zhl {x1}(h:PA X es t):PE X (.Tuple es x1 pos) (zk9 t):=by
 intro pins s σ H Q I hq;refine wpAny_Tuple_spliced (thn (h pos pins s σ H _ I hq) fun us s1 ⟨xs,H1,I1,r,z,q⟩=>⟨by rw [<-r.length];exact z,?_⟩);have hf:H1 s1.heap.objs.size=none:=I1.hok.fresh (Nat.le_refl _);refine ⟨.ref s1.heap.objs.size,upd H1 s1.heap.objs.size (.tup xs),I1.laid (t':=s1.toks) (fun b u e=>Heap.get?_push_of_some _ e) (Nat.le_refl _) ?_,rfl,q _ hf⟩;exact ⟨z,us,r,⟨_,Heap.get?_push_size _ rfl,rfl,_,rfl⟩⟩
theorem zjb (h:PA X es t):PE X (.List es pos) (zla t):=by
 intro pins s σ H Q I hq;refine wpAny_List_spliced (thn (h pos pins s σ H _ I hq) fun us s1 ⟨xs,H1,I1,r,z,q⟩=>⟨by rw [<-r.length];exact z,?_⟩);have hf:H1 s1.heap.objs.size=none:=I1.hok.fresh (Nat.le_refl _);refine ⟨.ref s1.heap.objs.size,upd H1 s1.heap.objs.size (.lst xs),I1.laid (t':=s1.toks) (fun b u e=>Heap.get?_push_of_some _ e) (Nat.le_refl _) ?_,rfl,q _ hf⟩;exact ⟨z,us,0,r,Heap.get?_push_size _ rfl⟩
end
noncomputable abbrev Sp:=List V->Hp->VK->XK->Prop
noncomputable abbrev CXT:=List Env->Hp->Shared->XK->Value->Shared->Prop
structure Env0 (P:Program)(w:World)(K:PySem.W.Frag)(mg:Str->Option Value)(base:Heap)(A:Around)(outer:List Env)(s:Shared)(H:Hp):Prop where
 frames:A.frames=some outer
 mod:Mod K mg base
 bs:∀ b o,base.get? b=some o->s.heap.get? b=some o/\H b=none
 bsz:base.objs.size<=s.heap.objs.size
 funs:s.heap.FunFrames base outer
 frf:∀ b∈frs outer,H b=none
 hok:HOk P w H s.heap
 bare:AllBare s.gens
noncomputable def CE (outer:List Env)(P:Program)(w:World)(H:Hp)(s:Shared)(Q:VK)(u:Value)(s':Shared):Prop:=
 ∃ v H',s'.os=s.os/\AllBare s'.gens/\Un (frs outer) [] H H' s.heap s'.heap/\HOk P w H' s'.heap/\RelV v u/\Q v H'
noncomputable def CR (CX:CXT)(outer:List Env)(P:Program)(w:World)(H:Hp)(s:Shared)(Q:VK)(E:XK)(r:Result)(s':Shared):Prop:=
 match r with
 | .ok (.ret u)=>CE outer P w H s Q u s'
 | .ok _=>False
 | .error e=>CX outer H s E e s'
structure FnOk (P:Program)(w:World)(K:PySem.W.Frag)(mg:Str->Option Value)(base:Heap)(CX:CXT)(k:Nat)(f:Addr)(fd:FuncData)(ps:List Str)(sp:Sp):Prop where
 len:∀ vs H Q E,sp vs H Q E->vs.length=ps.length
 run:∀ (A:Around) (outer:List Env) (s:Shared) (H:Hp) (args:Args) (us:List Value) (vs:List V) (Q:VK) (E:XK),Room k A->Env0 P w K mg base A outer s H->BindsTo s fd args (ps.zip us)->Vals vs us->sp vs H Q E->
  codeAny (model P w) A (.call (.ref f) args) (CR CX outer P w H s Q E) s
theorem FnOk.mono {P:Program}{w:World}{K:PySem.W.Frag}{mg:Str->Option Value}{base:Heap}{CX:CXT}{j k:Nat}{f:Addr}{fd:FuncData}{ps:List Str}{sp:Sp}(F:FnOk P w K mg base CX j f fd ps sp)(h:j<=k):
  FnOk P w K mg base CX k f fd ps sp:=⟨F.len,fun A outer s H args us vs Q E hr=>F.run A outer s H args us vs Q E (hr.mono h)⟩
theorem Env0.in1 {P:Program}{w:World}{K:PySem.W.Frag}{mg:Str->Option Value}{base:Heap}{A:Around}{outer:List Env}{s:Shared}{H:Hp}(e:Env0 P w K mg base A outer s H):
  Env0 P w K mg base A.in1 outer s H:=⟨e.frames,e.mod,e.bs,e.bsz,e.funs,e.frf,e.hok,e.bare⟩
section
variable {X:Cx}{pins:List (Addr×Obj)}{σ:St}{H:Hp}{s s':Shared}
theorem Inv.env0 (I:Inv X pins σ H s):Env0 X.prog X.w X.K X.mg X.base X.A X.stack s H:=
 ⟨I.ok.frames,I.ok.mod,I.bs,Nat.le_trans I.ok.bsz I.sz,I.stack,I.stkFree,I.hok,I.bare⟩
theorem Inv.after {Q:VK}{u:Value}(I:Inv X pins σ H s)(h:CE X.stack X.prog X.w H s Q u s'):EP X pins σ Q u s':=by
 obtain ⟨v,H',os,bare,un,hok,r,q⟩:=h;obtain ⟨hh,g,d,t,os'⟩:=s';obtain rfl:os'=s.os:=os;exact ⟨v,H',I.call (h':=hh) (g':=g) (d':=d) (t':=t) (ch:=[]) un hok bare (fun b z=>absurd z (by simp)),r,q⟩
end
noncomputable def zjc (sp:Sp)(dvs:List V)(E:XK)(t:TA):TE:=fun σ H Q=>t σ H fun vs H1=>sp (vs++dvs) H1 Q E
noncomputable def Binds (K:PySem.W.Frag)(fd:FuncData)(ps:List Str)(ds:List Value):Prop:=
 ∀ (s:Shared) (us:List Value),K.In s.heap->(us++ds).length=ps.length->BindsTo s fd ⟨us,[]⟩ (ps.zip (us++ds))
theorem Binds.all {K:PySem.W.Frag}{fd:FuncData}{ps:List Str}(h:∀ us:List Value,us.length=ps.length->bindArgs fd ⟨us,[]⟩=pure (ps.zip us)):Binds K fd ps []:=fun s us _ hl=>by
 rw [List.append_nil] at hl ⊢;exact .of_eq (h us hl)
noncomputable def zdf (CX:CXT)(X:Cx)(E:XK):Prop:=∀ (pins:List (Addr×Obj)) (σ:St) (H:Hp) (s:Shared) (e:Value) (s':Shared),Inv X pins σ H s->CX X.stack H s E e s'->X.xe e s'
section
variable {X:Cx}{CX:CXT}{k:Nat}{f C:Addr}{fd:FuncData}{ps:List Str}{sp:Sp}{dvs:List V}{ds:List Value}{E:XK}{x m:Str}{p pos apos:Pos}{e o:Expr}{es:List Expr}{ta:TE}{t:TA}
theorem run_fn {pins:List (Addr×Obj)}{σ:St}{H:Hp}{s:Shared}{Q:VK}{us:List Value}{vs:List V}(F:FnOk X.prog X.w X.K X.mg X.base CX k f fd ps sp)(hr:Room k X.A)(hb:Binds X.K fd ps ds)(hd:Vals dvs ds)(hx:zdf CX X E)
  (I:Inv X pins σ H s)(r:Vals vs us)(h:sp (vs++dvs) H Q E):wpAny (model X.prog X.w) X.A (call (.ref f) us) (EP X pins σ Q) X.xe s:=by
 have r2:Vals (vs++dvs) (us++ds):=r.append hd;have hl:(us++ds).length=ps.length:=by rw [<-r2.length];exact F.len _ _ _ _ h
 refine wpAny_call (codeAny_mono (F.run X.A X.stack s H ⟨us,[]⟩ (us++ds) (vs++dvs) Q E hr I.env0 (hb s us I.kIn hl) r2 h) fun r s' hq=>?_);cases r with
 |error e=>exact hx pins σ H s e s' I hq
 |ok fl=>
  cases fl with
  |ret u=>exact I.after hq
  |next=>exact False.elim hq
  |brk=>exact False.elim hq
  |cont=>exact False.elim hq
theorem zeM (F:FnOk X.prog X.w X.K X.mg X.base CX k f fd ps sp)(hr:Room k X.A)(hg:Gl X x)(hm:X.mg x=some (.ref f))(hk:PySem.W.keepIn X.K (.ref f)=true)(hb:Binds X.K fd ps ds)(hd:Vals dvs ds)(hx:zdf CX X E)
  (ha:PA X (e::es) t)(hdb:(x==("__debug__":Str))=false:=by decide)(he:starEach (e::es) X.env=(false,eval e X.env)::starEach es X.env:=by rfl)(hpl:(backTo pos (starEach es X.env)).any (·.1)=false:=by rfl):
  PE X (.Call (.Name x p) (e::es) [] pos) (zjc sp dvs E t):=by
 intro pins s σ H Q I h;refine wpAny_Call_Name_kw (ld_glob I hg hm ?_ hdb);refine PySem.W.callWith_K (h₀:=X.base) I.ok.mod.kin hk (thn (ha pos pins s σ H _ I h) fun us s1 ⟨vs,H1,I1,r,q⟩=>⟨I1.kIn,?_⟩) he hpl;exact run_fn F hr hb hd hx I1 r q
theorem ze8 (F:FnOk X.prog X.w X.K X.mg X.base CX k f fd ps sp)(hr:Room k X.A)(hg:Gl X x)(hm:X.mg x=some (.ref f))(hk:PySem.W.keepIn X.K (.ref f)=true)(hb:Binds X.K fd ps ds)(hd:Vals dvs ds)(hx:zdf CX X E)
  (hdb:(x==("__debug__":Str))=false:=by decide):PE X (.Call (.Name x p) [] [] pos) (zjc sp dvs E zkQ):=by
 intro pins s σ H Q I h;refine wpAny_Call_Name_kw (ld_glob I hg hm ?_ hdb);exact PySem.W.callWith_K0 I.kIn hk (run_fn (us:=[]) F hr hb hd hx I .nil h)
end
section
variable {X:Cx}{CX:CXT}{k:Nat}{f C:Addr}{fd:FuncData}{ps ks:List Str}{sp:Sp}{E:XK}{x m:Str}{p pos apos kpos:Pos}{e o:Expr}{es:List Expr}{kws:List Keyword}{te ta:TE}{t tk:TA}{nm:Option Str}
variable {g:List Value->List Value->List Value}{gV:List V->List V->List V}
end
structure FnScope (N P:List Str)(sc:Scope):Prop where
 kind:sc.kind= .function
 co:sc.isCoroutine=false
 gen:sc.isGenerator=false
 nd:N.Nodup
 pre:N.take P.length=P
 par:∀ x∈P,sc.names.lookup x=some .local\/sc.names.lookup x=some .cell
 nofree:∀ y∈sc.names,y.2≠ .free
theorem zd0 {kindOf:Str->Option NameKind}{x:Str}:∀ {binds:List (Str×Value)} {m:Str->Option Value},(∀ v,(x,v)∉binds)->bindL kindOf binds m x=m x
 | [],_,_=>rfl
 | (n,v)::r,m,h=>by
  unfold bindL;rw [zd0 fun w hw=>h w (List.mem_cons_of_mem _ hw)];split
  ·have:x≠n:=by rintro rfl;exact h v List.mem_cons_self
   simp [this]
  ·rfl
theorem zd1 {kindOf:Str->Option NameKind}{x:Str}:∀ {binds:List (Str×Value)} {m:Str->Option Value},(∀ v,(x,v)∉binds)->bindC kindOf binds m x=m x
 | [],_,_=>rfl
 | (n,v)::r,m,h=>by
  unfold bindC;rw [zd1 fun w hw=>h w (List.mem_cons_of_mem _ hw)];split
  ·rfl
  ·have:x≠n:=by rintro rfl;exact h v List.mem_cons_self
   simp [this]
theorem zd2 {kindOf:Str->Option NameKind}{x:Str}{v:Value}:∀ {P:List Str} {vs:List Value} {i:Nat} {m:Str->Option Value},P.Nodup->P[i]? =some x->vs[i]? =some v->kindOf x=some .local->
  bindL kindOf (P.zip vs) m x=some v
 | [],_,_,_,_,h,_,_=>by simp at h
 |_::_,[],_,_,_,_,h,_=>by simp at h
 |p::P,w::vs,0,m,nd,h1,h2,hk=>by
  simp at h1 h2;subst h1;subst h2;show bindL kindOf ((p,w)::P.zip vs) m p=_;unfold bindL;rw [zd0 fun v hv=>(List.nodup_cons.mp nd).1 (List.of_mem_zip hv).1,if_pos hk];simp
 |p::P,w::vs,i+1,m,nd,h1,h2,hk=>by
  show bindL kindOf ((p,w)::P.zip vs) m x=_;unfold bindL;exact zd2 (i:=i) (List.nodup_cons.mp nd).2 (by simpa using h1) (by simpa using h2) hk
theorem zd3 {kindOf:Str->Option NameKind}{x:Str}{v:Value}:∀ {P:List Str} {vs:List Value} {i:Nat} {m:Str->Option Value},P.Nodup->P[i]? =some x->vs[i]? =some v->kindOf x≠some .local->
  bindC kindOf (P.zip vs) m x=some v
 | [],_,_,_,_,h,_,_=>by simp at h
 |_::_,[],_,_,_,_,h,_=>by simp at h
 |p::P,w::vs,0,m,nd,h1,h2,hk=>by
  simp at h1 h2;subst h1;subst h2;show bindC kindOf ((p,w)::P.zip vs) m p=_;unfold bindC;rw [zd1 fun v hv=>(List.nodup_cons.mp nd).1 (List.of_mem_zip hv).1,if_neg hk];simp
 |p::P,w::vs,i+1,m,nd,h1,h2,hk=>by
  show bindC kindOf ((p,w)::P.zip vs) m x=_;unfold bindC;exact zd3 (i:=i) (List.nodup_cons.mp nd).2 (by simpa using h1) (by simpa using h2) hk
noncomputable def zcr (N:List Str)(vs:List V):St:=vs.map some++List.replicate (N.length - vs.length) none
noncomputable def zd4 (CX:CXT)(P:Program)(w:World)(K:PySem.W.Frag)(mg:Str->Option Value)(base:Heap)(N:List Str)(qual:Str)(scope:Scope)(f:Addr)(cd:Value)(A:Around)(outer:List Env)(s:Shared)(H:Hp)(E:XK):Cx where
 prog:=P
 w:=w
 K:=K
 mg:=mg
 base:=base
 A:=A.deeper (envOfC qual scope s.heap.objs.size f cd)
 N:=N
 s₀:=s
 H₀:=H
 env:=envOfC qual scope s.heap.objs.size f cd
 outer:=outer
 stack:=envOfC qual scope s.heap.objs.size f cd::outer
 ex:=[]
 calm:=true
 fn:=fun _=>true
 pn:=[]
 xe:=fun e s'=>wpAny (model P w) (A.deeper (envOfC qual scope s.heap.objs.size f cd)) (leaving (envOfC qual scope s.heap.objs.size f cd) e) (fun _ s''=>CX outer H s E e s'') (fun e' s''=>CX outer H s E e' s'') s'
theorem ze9 {sc:Scope}{n:Nat}{x:Str}(h:sc.names.lookup x=some .cell):∃ c,(cellsFrom n sc.names []).lookup x=some c:=by
 have q:=PySem.W.cellsFrom_some sc.names n [] (.inl h);exact Option.isSome_iff_exists.mp q
theorem zfW {CX:CXT}{P:Program}{w:World}{K:PySem.W.Frag}{mg:Str->Option Value}{base:Heap}{N ps:List Str}{qual:Str}{scope:Scope}{f:Addr}{cd:Value}{A:Around}{outer:List Env}{s s1:Shared}{H:Hp}{E:XK}{us:List Value}{vs:List V}
  (S:FnScope N ps scope)(hd:A.handled=none)(e0:Env0 P w K mg base A outer s H)(hl:vs.length=ps.length)(r:Vals vs us)
  (x:InCallC s s.heap.objs.size (bindL (envOfC qual scope s.heap.objs.size f cd).kindOf (ps.zip us) fun _=>none) (cellsFrom (s.heap.objs.size+1) scope.names []) (bindC (envOfC qual scope s.heap.objs.size f cd).kindOf (ps.zip us) fun _=>none) s1):
  Inv (zd4 CX P w K mg base N qual scope f cd A outer s H E) [] (zcr N vs) H s1:=by
 have hpl:ps.length<=N.length:=by have:=congrArg List.length S.pre;rw [List.length_take] at this;omega
 obtain ⟨h1,tk,rfl,hk⟩:=x.done;have noA:∀ b:Addr,b∉(zd4 CX P w K mg base N qual scope f cd A outer s H E).ex:=fun b z=>absurd (show b∈([]:List Addr) from z) (by simp)
 refine ⟨⟨e0.mod,S.kind,rfl,rfl,Nat.le_refl _,fun y z c h1 h2=>?_,fun y hy=>?_,fun y c _ h=>?_,fun _=>hd,Around.frames_deeper e0.frames,.inr ⟨rfl,rfl⟩,fun b z=>absurd z (noA b),e0.bs,e0.bsz,fun b _ _=>noA b,fun b z=>absurd z (noA b),e0.funs,e0.frf⟩,
  rfl,e0.bare,Un.kept hk,⟨_,x.toInCall.ns,fun i y v h1 h2 h3=>?_⟩,fun y c h=>⟨_,x.cell y c h⟩,e0.hok.fresh (Nat.le_refl _),fun y c h=>?_,fun p hp=>absurd (show p∈([]:List (Addr×Obj)) from hp) (by simp),e0.hok.kept hk,?_⟩
 ·exact name_of_addr x.apart (PySem.mem_of_lookup h1) (PySem.mem_of_lookup h2)
 ·have hy:scope.names.lookup y=some .cell\/scope.names.lookup y=some .free:=hy;rcases hy with hy|hy
  ·exact ze9 hy
  ·exact absurd rfl (S.nofree _ (PySem.mem_of_lookup hy))
 ·exact Nat.le_of_lt (x.above y c (PySem.mem_of_lookup h))
 ·have hi:i<vs.length:=by
   unfold zcr at h2;by_cases hi:i<vs.length
   ·exact hi
   ·rw [List.getElem?_append_right (by simpa using hi)] at h2;rw [List.getElem?_replicate] at h2;split at h2<;>cases h2
  have ha:vs[i]? =some v:=by
   unfold zcr at h2;rw [List.getElem?_append_left (by simpa using hi),List.getElem?_map] at h2;cases e:vs[i]? with
   |none=>rw [e] at h2;cases h2
   |some a=>rw [e] at h2;cases h2;rfl
  obtain ⟨u,hu,rv⟩:=r.get ha;have hp:ps[i]? =some y:=by
   rw [<-S.pre,List.getElem?_take_of_lt (by omega)];exact h1
  have ndP:ps.Nodup:=by rw [<-S.pre];exact S.nd.sublist (List.take_sublist _ _)
  refine ⟨u,rv,?_⟩;rcases S.par y (List.mem_of_getElem? hp) with k|k
  ·exact .inl ⟨k,zd2 ndP hp hu k⟩
  ·obtain ⟨c,e⟩:=ze9 (n:=s.heap.objs.size+1) k;refine .inr ⟨.inl k,c,e,?_⟩;have q:=x.cell y c e;rw [zd3 ndP hp hu (by show scope.names.lookup y≠_;rw [k];decide)] at q;exact q
 ·exact e0.hok.fresh (Nat.le_of_lt (x.above y c (PySem.mem_of_lookup h)))
 ·unfold zcr;show _=N.length
  rw [List.length_append,List.length_map,List.length_replicate];omega
theorem zjd {CX:CXT}{P:Program}{w:World}{K:PySem.W.Frag}{mg:Str->Option Value}{base:Heap}{k:Nat}{f:Addr}{name qual:Str}{params:Arguments}{body:List Stmt}{scope:Scope}{dV kV doc pm cdv ct oc:Value}{an od:Option Addr}
  {osl:Array (Option Value)}{N ps:List Str}{sp:Sp}(lk:K.lookup f=some ⟨oc,od,.func (PySem.W.fnOf name qual params body scope dV kV doc pm an cdv ct),osl⟩)(hcd:PySem.W.codeIn K cdv qual=true)(S:FnScope N ps scope)
  (len:∀ vs H Q E,sp vs H Q E->vs.length=ps.length)
  (hbody:∀ (A:Around) (outer:List Env) (s:Shared) (H:Hp) (vs:List V) (Q:VK) (E:XK),Room k (A.deeper (envOfC qual scope s.heap.objs.size f cdv))->sp vs H Q E->
   ∃ t,PSs (zd4 CX P w K mg base N qual scope f cdv A outer s H E) body t/\t {nx:=fun _ H'=>Q .non H',rt:=Q} (zcr N vs) H):
  FnOk P w K mg base CX (k+1) f (PySem.W.fnOf name qual params body scope dV kV doc pm an cdv ct) ps sp:=by
 refine ⟨len,fun A outer s H args us vs Q E hr e0 hb r hsp=>?_⟩;have hl:=len _ _ _ _ hsp;have KX:K.In s.heap:=e0.mod.kin.keeps fun b o e=>(e0.bs b o e).1;have lim:s.heap.NoLimit:=e0.mod.nolimit.keeps fun b o e=>(e0.bs b o e).1;have hkind:∀ y∈ps.zip us,scope.names.lookup y.1=some .local\/(scope.names.lookup y.1=some .cell/\((cellsFrom (s.heap.objs.size+1) scope.names []).lookup y.1).isSome=true):=fun ⟨n,v⟩ hy=>by
  rcases S.par n (List.of_mem_zip hy).1 with q|q
  ·exact .inl q
  ·exact .inr ⟨q,PySem.W.cellsFrom_some _ _ _ (.inl q)⟩
 refine codeAny_call_function hr.depth (KX _ _ lk) rfl S.co S.gen rfl (PySem.W.codeRec_of KX hcd) (hb _ _ _ _ ?_);refine wpAny_newFunctionEnv_cells S.kind hkind fun env he s1 x=>?_;subst he;refine ⟨lim.keeps x.toInCall.keep,codeAny_func ?_⟩;obtain ⟨t,ht,hq⟩:=hbody A outer s H vs Q E (hr.deeper _) hsp;have I:Inv (zd4 CX P w K mg base N qual scope f cdv A outer s H E) [] (zcr N vs) H s1:=zfW S hr.hd e0 hl r x;refine wpAny_mono (ht [] s1 (zcr N vs) H _ I hq) (fun fl s' hs=>?_) fun e s' hs=>hs
 have fin:∀ {σ':St} {H':Hp} {v:V} {u:Value},Inv (zd4 CX P w K mg base N qual scope f cdv A outer s H E) [] σ' H' s'->RelV v u->Q v H'->CE outer P w H s Q u s':=
  fun {σ' H' v u} J rv q=>⟨v,H',J.os,J.bare,J.base,J.hok,rv,q⟩
 cases fl with
 |ret u=>
  obtain ⟨v,σ',H',J,rv,q⟩:=hs;exact fin J rv q
 |next=>
  obtain ⟨σ',H',J,q⟩:=hs;exact fin (v:=V.non) (u:=Value.none) J rfl q
 |brk=>
  obtain ⟨_,_,_,q⟩:=hs;exact False.elim q
 |cont=>
  obtain ⟨_,_,_,q⟩:=hs;exact False.elim q
end L2
namespace L2
open PySem PySem.Spec PyProof.Rows
section
variable {X:Cx}{x:Str}{p pos:Pos}{e:Expr}{es:List Expr}{t:TA}{id T:String}{r:List V->Hp->VK->Prop}
noncomputable def tCB (r:List V->Hp->VK->Prop)(t:TA):TE:=fun σ H Q=>t σ H fun vs H1=>r vs H1 Q
theorem zbz (hc:CallR X (.builtin id) r)(hg:Gl X x)(hm:X.mg x=none)(hv:bootBuiltins x=some (.builtin id))(ha:PA X (e::es) t)(hn:x≠"__name__":=by decide)(hdb:(x==("__debug__":Str))=false:=by decide)
  (he:starEach (e::es) X.env=(false,eval e X.env)::starEach es X.env:=by rfl)(hpl:(backTo pos (starEach es X.env)).any (·.1)=false:=by rfl):PE X (.Call (.Name x p) (e::es) [] pos) (tCB r t):=by
 intro pins s σ H Q I h;refine wpAny_Call_Name_kw (ld_blt I hg hm hv ?_ hn hdb);exact PyProof.Rows.callWith_builtin1 (thn (ha pos pins s σ H _ I h) fun us s1 ⟨vs,H1,I1,r1,q1⟩=>hc pins s1 σ H1 vs us Q I1 r1 q1) he hpl
end
end L2
namespace HT
open PySem PyProof.Rows
section
open PySem.SeqAt
open PySem.AutoSeq1 (wpAny_loadPart')
open PySem.MeetsSeq PySem.MeetsSeq2 PySem.MeetsSeq3
end
section
variable {prog:Program}{w:World}{A:Around}{E:Value->Shared->Prop}{s:Shared}
noncomputable def sIx (n d:Nat):Option Int->Nat
 |none=>d
 |some v=>if v<0 then (v+(n:Int)).toNat else min v.toNat n
theorem sIx_none (n d:Nat):sIx n d none=d:=rfl
theorem sIx_nat (n d k:Nat):sIx n d (some (k:Int))=min k n:=by
 show (if (k:Int)<0 then ((k:Int)+(n:Int)).toNat else min (k:Int).toNat n)=min k n;rw [if_neg (by omega),Int.toNat_natCast]
end
end HT
namespace L2
open PySem PySem.Spec PyProof.Rows
noncomputable abbrev TO:=St->Hp->(Option Int->Hp->Prop)->Prop
noncomputable def PO (X:Cx)(e:Option Expr)(t:TO):Prop:=
 ∀ (pins:List (Addr×Obj)) (s:Shared) (σ:St) (H:Hp) (Q:Option Int->Hp->Prop),Inv X pins σ H s->t σ H Q->
  wpAny (model X.prog X.w) X.A (evalPart e X.env) (fun u s'=>∃ o H',Inv X pins σ H' s'/\IsPart u o/\Q o H') X.xe s
noncomputable def zhL:TO:=fun _ H Q=>Q none H
noncomputable def zkg (t:TE):TO:=fun σ H Q=>t σ H fun x H1=>∃ i,x= .int i/\Q (some i) H1
section
variable {X:Cx}{e:Expr}{te:TE}{lo hi:Option Expr}{tl th:TO}{pos p2:Pos}
theorem zhM:PO X none zhL:=by
 intro pins s σ H Q I h;rw [evalPart_none];exact wpAny_pure ⟨none,H,I,.none,h⟩
theorem zhN (h:PE X e te):PO X (some e) (zkg te):=by
 intro pins s σ H Q I hw;rw [evalPart_some];refine thn (h pins s σ H _ I hw) fun u s1 zz=>?_;obtain ⟨x,H1,I1,r1,q1⟩:=zz;obtain ⟨i,rfl,q⟩:=q1;obtain ⟨t,rfl⟩:=r1;exact ⟨some i,H1,I1,.int i t,q⟩
noncomputable def SlR (X:Cx)(r:V->Option Int->Option Int->Hp->VK->Prop):Prop:=
 ∀ (pins:List (Addr×Obj)) (s:Shared) (σ:St) (H:Hp) (x:V) (v vl vu:Value) (lo hi:Option Int) (sl:Addr) (Q:VK),Inv X pins σ H s->RelV x v->s.heap.IsSliceOf sl vl vu .none->IsPart vl lo->IsPart vu hi->r x lo hi H Q->
  ∃ T id,typeLookup (.type T) "__getitem__"=pure (some (.builtin id))/\s.TypeIs v T/\wpAny (model X.prog X.w) X.A (getItem v (.ref sl)) (EP X pins σ Q) X.xe s
theorem SlR.or {r r':V->Option Int->Option Int->Hp->VK->Prop}(h:SlR X r)(h':SlR X r'):SlR X (fun x lo hi H Q=>r x lo hi H Q\/r' x lo hi H Q):=by
 intro pins s σ H x v vl vu lo hi sl Q I rx hs pl pu q;rcases q with q|q
 ·exact h pins s σ H x v vl vu lo hi sl Q I rx hs pl pu q
 ·exact h' pins s σ H x v vl vu lo hi sl Q I rx hs pl pu q
noncomputable def tSl (r:V->Option Int->Option Int->Hp->VK->Prop)(te:TE)(tl th:TO):TE:=fun σ H Q=>te σ H fun x H1=>tl σ H1 fun l H2=>th σ H2 fun u H3=>r x l u H3 Q
theorem zfa {r:V->Option Int->Option Int->Hp->VK->Prop}(hr:SlR X r)(he:PE X e te)(hl:PO X lo tl)(hu:PO X hi th):PE X (.Subscript e (.Slice lo hi none p2) pos) (tSl r te tl th):=by
 intro pins s σ H Q I h;refine Subscript_ (thn (he pins s σ H _ I h) fun v s1 zz=>?_);obtain ⟨x,H1,I1,r1,q1⟩:=zz;refine wpAny_Slice (thn (hl pins s1 σ H1 _ I1 q1) fun vl s2 ⟨l,H2,I2,pl,q2⟩=>thn (hu pins s2 σ H2 _ I2 q2) fun vu s3 zz=>?_);obtain ⟨u,H3,I3,pu,q3⟩:=zz;rw [evalPart_none];refine wpAny_pure ?_;have I4:Inv X pins σ H3 {s3 with heap:=s3.heap.push {cls:=.type "slice",data:=.fields #[vl,vu,.none]}}:=I3.kept (t':=s3.toks) fun b ob q=>Heap.get?_push_of_some _ q;obtain ⟨T,id,hT,ht,hg⟩:=hr pins {s3 with heap:=s3.heap.push {cls:=.type "slice",data:=.fields #[vl,vu,.none]}} σ H3 x v vl vu l u s3.heap.objs.size Q I4 r1 (Heap.IsSliceOf.new ..) pl pu q3;show wpAny (model X.prog X.w) X.A (subscriptTail e (.Slice lo hi none p2) v (.ref s3.heap.objs.size)) (EP X pins σ Q) X.xe {s3 with heap:=s3.heap.push {cls:=.type "slice",data:=.fields #[vl,vu,.none]}};exact tail_any (ops:=[.ref s3.heap.objs.size,v]) ht hT hg (by with_unfolding_all rfl)
noncomputable def zje (xs:List V)(lo hi:Option Int):List V:=(xs.drop (HT.sIx xs.length 0 lo)).take (HT.sIx xs.length xs.length hi - HT.sIx xs.length 0 lo)
theorem zeN (xs:List V)(lo hi:Option Int):(zje xs lo hi).length<=xs.length:=by
 unfold zje;rw [List.length_take,List.length_drop];omega
end
end L2
namespace L2
open PySem PySem.Spec PyProof.Rows
noncomputable def ixN (n:Nat)(i:Int):Option Nat:=if 0<=i then (if i<n then some i.toNat else none) else if -(n:Int)<=i then some (i+n).toNat else none
noncomputable def atI {α:Type}(xs:List α)(i:Int):Option α:=(ixN xs.length i).bind fun j=>xs[j]?
theorem zeO {n:Nat}{i:Int}{j:Nat}(h:ixN n i=some j):seqIndex? i n=some j/\j<n/\ -(n:Int)<=i/\i<n:=by
 unfold ixN at h;by_cases h0:0<=i
 ·rw [if_pos h0] at h;by_cases h1:i<n
  ·rw [if_pos h1] at h;have e:i.toNat=j:=Option.some.inj h;exact ⟨by rw [seqIndex_of h0 h1,e],by omega,by omega,h1⟩
  ·rw [if_neg h1] at h;cases h
 ·rw [if_neg h0] at h;by_cases h1: -(n:Int)<=i
  ·rw [if_pos h1] at h;have e:(i+n).toNat=j:=Option.some.inj h;exact ⟨by rw [seqIndex_neg (by omega) h1,e],by omega,h1,by omega⟩
  ·rw [if_neg h1] at h;cases h
theorem zeP {α:Type}{xs:List α}{i:Int}{v:α}(h:atI xs i=some v):∃ j,seqIndex? i xs.length=some j/\xs[j]? =some v/\j<xs.length/\ -(xs.length:Int)<=i/\i<xs.length:=by
 unfold atI at h;cases e:ixN xs.length i with
 |none=>rw [e] at h;cases h
 |some j=>
  rw [e] at h;obtain ⟨h1,h2,h3,h4⟩:=zeO e;exact ⟨j,h1,h,h2,h3,h4⟩
noncomputable def zeQ (b:Expr):Prop:=∀ o i,subscripted b false o i=operate [o,i] (getItem o i)
noncomputable def IxR (X:Cx)(r:R2):Prop:=
 ∀ (value slice:Expr) (pins:List (Addr×Obj)) (s:Shared) (σ:St) (H:Hp) (x y:V) (v u:Value) (Q:VK),Inv X pins σ H s->RelV x v->RelV y u->r x y H Q->
  subscripted slice false v u=operate [v,u] (getItem v u)->wpAny (model X.prog X.w) X.A (subscriptTail value slice v u) (EP X pins σ Q) X.xe s
noncomputable def MtR (X:Cx)(id:String)(r:V->List V->Hp->VK->Prop):Prop:=
 ∀ (pins:List (Addr×Obj)) (s:Shared) (σ:St) (H:Hp) (x:V) (xs:List V) (v:Value) (us:List Value) (Q:VK),Inv X pins σ H s->RelV x v->Vals xs us->r x xs H Q->
  wpAny (model X.prog X.w) X.A (call (.builtin id) (v::us)) (EP X pins σ Q) X.xe s
section
variable {X:Cx}{a b:Expr}{ta tb:TE}{pos:Pos}
theorem IxR.or {r r':R2}(h:IxR X r)(h':IxR X r'):IxR X (fun x y H Q=>r x y H Q\/r' x y H Q):=by
 intro value slice pins s σ H x y v u Q I rx ry q hs;rcases q with q|q
 ·exact h value slice pins s σ H x y v u Q I rx ry q hs
 ·exact h' value slice pins s σ H x y v u Q I rx ry q hs
theorem MtR.or {id:String}{r r':V->List V->Hp->VK->Prop}(h:MtR X id r)(h':MtR X id r'):MtR X id (fun x xs H Q=>r x xs H Q\/r' x xs H Q):=by
 intro pins s σ H x xs v us Q I rx rs q;rcases q with q|q
 ·exact h pins s σ H x xs v us Q I rx rs q
 ·exact h' pins s σ H x xs v us Q I rx rs q
theorem zjf {r:R2}(hr:IxR X r)(ha:PE X a ta)(hb:PE X b tb)(hs:zeQ b):PE X (.Subscript a b pos) (tOp r ta tb):=by
 intro pins s σ H Q I h;exact Subscript_ (binT ha hb I h fun v u s2 x y H2 I2 rx ry q=>hr a b pins s2 σ H2 x y v u Q I2 rx ry q (hs _ _))
noncomputable def zkR (K:PySem.W.Frag):R2:=fun x y H Q=>∃ p xs i v,x= .ref p/\y= .int i/\SqL K H p xs/\atI xs i=some v/\Q v H
noncomputable def zkS (K:PySem.W.Frag):R2:=fun x y H Q=>∃ p xs i v,x= .ref p/\y= .int i/\SqT K H p xs/\atI xs i=some v/\Q v H
noncomputable def zkT:R2:=fun x y H Q=>∃ z i c,x= .str z/\y= .int i/\z.length<=sizeLine/\atI z.cps.toList i=some c/\Q (.str ⟨#[c]⟩) H
theorem ix_list:IxR X (zkR X.K):=by
 intro value slice pins s σ H x y v u Q I rx ry h hs;obtain ⟨p,xs,i,z,rfl,rfl,hq,he,q⟩:=h;cases rx;obtain ⟨t,rfl⟩:=ry;obtain ⟨its,r,pl,hz⟩:=I.list hq;obtain ⟨j,h1,h2,h3,h4,h5⟩:=zeP he;obtain ⟨w,ew,rw'⟩:=r.get h2;have hl:=r.length;have hn:=zde;have fin:EP X pins σ Q w s:=⟨z,H,I,rw',q⟩;by_cases h0:0<=i
 ·have hj:i.toNat=j:=by
   rw [seqIndex_of h0 h5] at h1;exact Option.some.inj h1
  exact item_listR pl.isList h0 (by omega) (by rw [hj];simpa using ew) fin hs
 ·have hj:(i+(its.toArray.size:Int)).toNat=j:=by
   rw [seqIndex_neg (by omega) h4] at h1;rw [List.size_toArray,<-hl];exact Option.some.inj h1
  exact subscriptTail_builtinR (x:=w) pl.isList.typeIs slot_list_getitem.lookup
   (wpAny_getItem_list_neg (Q:=fun r s'=>r=w/\EP X pins σ Q r s') pl.isList (by omega) (by rw [List.size_toArray]<;>omega) (by omega) (by rw [hj];simpa using ew) ⟨rfl,fin⟩) hs
theorem zjg:IxR X (zkS X.K):=by
 intro value slice pins s σ H x y v u Q I rx ry h hs;obtain ⟨p,xs,i,z,rfl,rfl,hq,he,q⟩:=h;cases rx;obtain ⟨t,rfl⟩:=ry;obtain ⟨its,r,pl,hz⟩:=I.tuple hq;obtain ⟨j,h1,h2,h3,h4,h5⟩:=zeP he;obtain ⟨w,ew,rw'⟩:=r.get h2;have hl:=r.length;have hn:=zde;have fin:EP X pins σ Q w s:=⟨z,H,I,rw',q⟩
 exact subscriptTail_builtinR (x:=w) pl.typeIs slot_tuple_getitem.lookup
  (getItem_tuple (j:=j) (Q:=fun r s'=>r=w/\EP X pins σ Q r s') pl (by omega) (by omega) (by rw [List.size_toArray,<-hl];exact h1) (by simpa using ew) ⟨rfl,fin⟩) hs
theorem zjh:IxR X zkT:=by
 intro value slice pins s σ H x y v u Q I rx ry h hs;obtain ⟨z,i,c,rfl,rfl,hz,he,q⟩:=h;obtain ⟨t,rfl⟩:=rx;obtain ⟨t',rfl⟩:=ry;obtain ⟨j,h1,h2,h3,h4,h5⟩:=zeP he;have hl:z.cps.toList.length=z.length:=by simp [Str.length]
 rw [hl] at h1 h4 h5;have hn:=zde;exact tail_any (typeIs_str s z t) slot_str_getitem.lookup (getItem_str (c:=c) (by
  have e1:decide (i< -(2 ^ 63:Int))=false:=decide_eq_false (by omega);have e2:decide (i>=2 ^ 63)=false:=decide_eq_false (by omega);rw [e1,e2,Bool.or_false]) (by rw [h1];simpa using h2) ⟨.str ⟨#[c]⟩,H,I.tok _,⟨_,rfl⟩,q⟩) hs
theorem zfy (its:List Value)(n j:Nat)(u:Value):Obj.mapSeq (·.setIfInBounds j u) {cls:=.type "list",data:=.seq its.toArray n}= {cls:=.type "list",data:=.seq (its.set j u).toArray n}:=by
 simp [Obj.mapSeq]
theorem Inv.lst {pins:List (Addr×Obj)}{σ:St}{H:Hp}{s:Shared}{p:Addr}{xs:List V}(I:Inv X pins σ H s)(h:H p=some (.lst xs)):
  ∃ (its:List Value) (n:Nat),Vals xs its/\s.heap.get? p=some {cls:=.type "list",data:=.seq its.toArray n}/\xs.length<=sizeLine:=by
 obtain ⟨z,its,n,r,e⟩:=I.hok p _ h;exact ⟨its,n,r,e,z⟩
theorem Inv.lstUpd {pins:List (Addr×Obj)}{σ:St}{H:Hp}{s:Shared}{p:Addr}{xs ys:List V}{its its':List Value}{n n':Nat}{f:Obj->Obj}(I:Inv X pins σ H s)(h:H p=some (.lst xs))
  (ho:s.heap.get? p=some {cls:=.type "list",data:=.seq its.toArray n})(hf:f {cls:=.type "list",data:=.seq its.toArray n}= {cls:=.type "list",data:=.seq its'.toArray n'})(r:Vals ys its')(hz:ys.length<=sizeLine)(t:Nat):
  Inv X pins σ (upd H p (.lst ys)) {s with heap:=s.heap.update p f,toks:=t}:=by
 have e:(s.heap.update p f).get? p=some {cls:=.type "list",data:=.seq its'.toArray n'}:=by
  rw [Heap.get?_update_self f ho (by rw [hf]<;>rfl),hf]
 refine I.write (x:=p) (e:=p) (by rw [h];trivial) (.inl rfl) (fun b u hb q=>(Heap.get?_update_other _ _ (Ne.symm hb)).trans q) ⟨_,e⟩ ?_;exact ⟨hz,its',n',r,e⟩
noncomputable def zkh:V->V->V->Hp->(Hp->Prop)->Prop:=fun o i v H Q=>∃ p xs k j,o= .ref p/\i= .int k/\H p=some (.lst xs)/\ixN xs.length k=some j/\Q (upd H p (.lst (xs.set j v)))
theorem zgN:zkP X zkh:=by
 intro pins s σ H o i v ov iv u Q I ro ri rv h;obtain ⟨p,xs,k,j,rfl,rfl,hp,hj,q⟩:=h;cases ro;obtain ⟨t,rfl⟩:=ri;obtain ⟨its,n,r,ho,hz⟩:=I.lst hp;obtain ⟨h1,h2,h3,h4⟩:=zeO hj;have hl:=r.length;have hn:=zde
 have I':Inv X pins σ (upd H p (.lst (xs.set j v))) {s with heap:=s.heap.update p (Obj.mapSeq (·.setIfInBounds j u))}:=
  I.lstUpd hp ho (zfy its n j u) (r.set rv j) (by rw [List.length_set];exact hz) s.toks
 by_cases h0:0<=k
 ·have hk:k.toNat=j:=by
   rw [seqIndex_of h0 h4] at h1;exact Option.some.inj h1
  exact PySem.W.ki_setAt ho h0 (by omega) (by rw [List.size_toArray,<-hl];exact h4) (by rw [hk];exact ⟨_,I',q⟩)
 ·have hk:(k+(its.toArray.size:Int)).toNat=j:=by
   rw [seqIndex_neg (by omega) h3] at h1;rw [List.size_toArray,<-hl];exact Option.some.inj h1
  exact PySem.W.ki_setBack ho (by omega) (by rw [List.size_toArray,<-hl];exact h3) (by omega) (by rw [hk];exact ⟨_,I',q⟩)
theorem zd5 (lo hi:Option Int)(n:Nat):(sliceBounds lo hi none n).1=((HT.sIx n 0 lo:Nat):Int)/\(sliceBounds lo hi none n).2.1=((HT.sIx n n hi:Nat):Int)/\(sliceBounds lo hi none n).2.2=1:=by
 refine ⟨?_,?_,rfl⟩
 ·cases lo with
  |none=>simp [sliceBounds,HT.sIx]
  |some i=>
   simp only [sliceBounds,HT.sIx,Option.getD_none,show (1:Int)>0 by decide,if_true];by_cases h:i<0
   ·simp only [h,if_true]<;>omega
   ·simp only [h,if_false]<;>omega
 ·cases hi with
  |none=>simp [sliceBounds,HT.sIx]
  |some i=>
   simp only [sliceBounds,HT.sIx,Option.getD_none,show (1:Int)>0 by decide,if_true];by_cases h:i<0
   ·simp only [h,if_true]<;>omega
   ·simp only [h,if_false]<;>omega
theorem zdn (its:List Value)(lo hi:Option Int):slicePick its.toArray lo hi none=((its.drop (HT.sIx its.length 0 lo)).take (HT.sIx its.length its.length hi - HT.sIx its.length 0 lo)).toArray:=by
 obtain ⟨h1,h2,h3⟩:=zd5 lo hi its.toArray.size;unfold slicePick;rw [h1,h2,h3];simp only [sliceRange_one,pick_run,List.size_toArray]<;>rfl
noncomputable def zlb (K:PySem.W.Frag):V->Option Int->Option Int->Hp->VK->Prop:=fun x lo hi H Q=>∃ a xs,x= .ref a/\SqL K H a xs/\∀ p,H p=none->Q (.ref p) (upd H p (.lst (zje xs lo hi)))
theorem zhO:SlR X (zlb X.K):=by
 intro pins s σ H x v vl vu lo hi sl Q I rx hs pl pu h;obtain ⟨a,xs,rfl,hx,q⟩:=h;cases rx;obtain ⟨its,r,ht,hz⟩:=I.list hx;have hlen:=r.length;refine ⟨"list",_,slot_list_getitem.lookup,ht.isList.typeIs,?_⟩;refine wpAny_getItem_list_slice ht.isList hs pl pu .none (by simp) ?_ (by rw [List.size_toArray]<;>omega);rw [zdn,<-hlen];refine ⟨.ref s.heap.objs.size,_,I.laid (t':=s.toks) (o:=.lst (zje xs lo hi)) (fun b ob q=>Heap.get?_push_of_some _ q) (Nat.le_refl _) ?_,rfl,q _ (I.hok.fresh (Nat.le_refl _))⟩;exact ⟨Nat.le_trans (zeN xs lo hi) hz,_,0,(r.drop (HT.sIx xs.length 0 lo)).take (HT.sIx xs.length xs.length hi - HT.sIx xs.length 0 lo),Heap.get?_push_size _ rfl⟩
theorem zd6:CallR X (.builtin "len") (fun xs H Q=>∃ p ys,xs=[.ref p]/\(SqL X.K H p ys\/SqT X.K H p ys)/\Q (.int ys.length) H):=by
 intro pins s σ H xs us Q I r h;obtain ⟨p,ys,rfl,hq,q⟩:=h;obtain ⟨u,rfl,rx⟩:=zhK r;cases rx;have hn:=zde;rcases hq with hq|hq
 ·obtain ⟨its,r',pl,hz⟩:=I.list hq;have hlen:=r'.length;exact Calls.call_len_list pl.isList (by simp only [List.size_toArray]<;>omega) ⟨.int ys.length,H,I.tok _,⟨s.toks+1,by rw [List.size_toArray,hlen]⟩,q⟩
 ·obtain ⟨its,r',pl,hz⟩:=I.tuple hq;have hlen:=r'.length;exact len_tuple pl (by simp only [List.size_toArray]<;>omega) ⟨.int ys.length,H,I.tok _,⟨s.toks+1,by rw [List.size_toArray,hlen]⟩,q⟩
theorem zd7:CallR X (.builtin "len") (fun xs H Q=>∃ z,xs=[.str z]/\z.length<=sizeLine/\Q (.int z.length) H):=by
 intro pins s σ H xs us Q I r h;obtain ⟨z,rfl,hz,q⟩:=h;obtain ⟨u,rfl,t,rfl⟩:=zhK r;have hn:=zde;exact len_str (by omega) ⟨.int z.length,H,I.tok _,⟨_,rfl⟩,q⟩
theorem CallR.or {f:Value}{r r':List V->Hp->VK->Prop}(h:CallR X f r)(h':CallR X f r'):CallR X f (fun xs H Q=>r xs H Q\/r' xs H Q):=by
 intro pins s σ H xs us Q I rs q;rcases q with q|q
 ·exact h pins s σ H xs us Q I rs q
 ·exact h' pins s σ H xs us Q I rs q
noncomputable def tyV (K:PySem.W.Frag)(T:String)(x:V)(H:Hp):Prop:=match x with
 | .str _=>T="str"
 | .int _=>T="int"
 | .ref p=>(T="list"/\∃ xs,SqL K H p xs)\/(T="tuple"/\∃ o,K.lookup p=some o/\o.cls= .type "tuple"/\o.dict=none)\/
   (T="dict"/\((∃ kvs,H p=some (.dK kvs))\/∃ kvs,H p=some (.dT kvs)))\/(T="set"/\∃ S n,H p=some (.set S n))
 |_=>False
theorem zhm {pins:List (Addr×Obj)}{σ:St}{H:Hp}{s:Shared}{T:String}{x:V}{v:Value}(I:Inv X pins σ H s)(r:RelV x v)(ty:tyV X.K T x H):
  s.TypeIs v T/\∀ a,v= .ref a->∃ ob,s.heap.get? a=some ob/\ob.dict=none:=by
 cases x with
 |str z=>
  obtain ⟨t,rfl⟩:=r;cases (show T="str" from ty);exact ⟨typeIs_str s z t,fun _ e=>nomatch e⟩
 |int i=>
  obtain ⟨t,rfl⟩:=r;cases (show T="int" from ty);exact ⟨typeIs_int s i t,fun _ e=>nomatch e⟩
 |ref p=>
  cases r;rcases ty with ⟨rfl,xs,hq⟩|⟨rfl,o,hk,hc,hd⟩|⟨rfl,hk⟩|⟨rfl,S,n,hk⟩
  ·obtain ⟨its,_,pl,_⟩:=I.list hq;refine ⟨pl.isList.typeIs,fun a e=>?_⟩;cases e;obtain ⟨o,n,e,c,hd,_⟩:=pl;exact ⟨o,e,hd⟩
  ·refine ⟨⟨o,I.kIn p o hk,hc⟩,fun a e=>?_⟩;cases e;exact ⟨o,I.kIn _ o hk,hd⟩
  ·have z:∃ o,s.heap.get? p=some o/\o.ExactDict:=by
    rcases hk with ⟨kvs,hk⟩|⟨kvs,hk⟩
    ·obtain ⟨_,_,_,_,o,_,_,e,ex,_⟩:=I.hok p _ hk;exact ⟨o,e,ex⟩
    ·obtain ⟨_,_,_,_,o,_,_,e,ex,_⟩:=I.hok p _ hk;exact ⟨o,e,ex⟩
   obtain ⟨o,e,ex⟩:=z;refine ⟨⟨o,e,ex.1⟩,fun a e2=>?_⟩;cases e2;exact ⟨o,e,ex.2.1⟩
  ·obtain ⟨o,_,_,_,e,ex,_⟩:=I.hok p _ hk;refine ⟨⟨o,e,ex.1⟩,fun a e2=>?_⟩;cases e2;exact ⟨o,e,ex.2.1⟩
 |_=>exact False.elim ty
noncomputable def zlc (K:PySem.W.Frag)(T:String)(r:V->List V->Hp->VK->Prop)(to:TE):TE:=fun σ H Q=>to σ H fun x H1=>tyV K T x H1/\r x [] H1 Q
noncomputable def tBM (K:PySem.W.Frag)(T:String)(r:V->List V->Hp->VK->Prop)(to:TE)(t:TA):TE:=fun σ H Q=>to σ H fun x H1=>tyV K T x H1/\t σ H1 fun xs H2=>r x xs H2 Q
variable {o e:Expr}{es:List Expr}{to:TE}{t:TA}{name:Str}{apos cpos:Pos}{T id:String}{r:V->List V->Hp->VK->Prop}
theorem zji (pa:PlainAttrs T)(slot:Slot T name id)(hty:typeOf (.builtin id)=pure (.type "method_descriptor"))(hm:MtR X id r)(ho:PE X o to)
  (hbase:attributeBase o name X.env (eval o X.env)=eval o X.env:=by rfl)(hline:(apos.endLine==cpos.line)=true:=by rfl):PE X (.Call (.Attribute o name apos) [] [] cpos) (zlc X.K T r to):=by
 intro pins s σ H Q I h;refine wpAny_Call_method0_late hbase hline (thn (ho pins s σ H _ I h) fun v s1 zz=>?_);obtain ⟨x,H1,I1,r1,ty,q1⟩:=zz;obtain ⟨h1,h2⟩:=zhm I1 r1 ty;exact ⟨T,id,pa,slot,hty,h1,h2,Calls.callWith_builtin rfl (PySem.evalArgs_none (hm pins s1 σ H1 x [] v [] Q I1 r1 .nil q1))⟩
theorem zgO (pa:PlainAttrs T)(slot:Slot T name id)(hty:typeOf (.builtin id)=pure (.type "method_descriptor"))(hm:MtR X id r)(ho:PE X o to)(ha:PA X (e::es) t)
  (hbase:attributeBase o name X.env (eval o X.env)=eval o X.env:=by rfl)
  (hfew:((backTo cpos (starEach (e::es) X.env)).all (fun x=> !x.1)&&(backToKw cpos (keywordEach [] X.env)).all (fun x=>x.1.isSome)
   &&decide ((e::es).length+([]:List Keyword).length+(if ([]:List Keyword).isEmpty then 0 else 1)<30))=true:=by rfl)
  (hline:(apos.endLine==cpos.line)=true:=by rfl)(hs:starEach (e::es) X.env=(false,eval e X.env)::starEach es X.env:=by rfl)(hplain:(backTo cpos (starEach es X.env)).any (·.1)=false:=by rfl):
  PE X (.Call (.Attribute o name apos) (e::es) [] cpos) (tBM X.K T r to t):=by
 intro pins s σ H Q I h;refine wpAny_Call_method_late hbase hfew hline rfl (thn (ho pins s σ H _ I h) fun v s1 zz=>?_);obtain ⟨x,H1,I1,r1,ty,q1⟩:=zz;obtain ⟨h1,h2⟩:=zhm I1 r1 ty;refine ⟨T,id,pa,slot,hty,h1,h2,?_⟩;have hA:=ha cpos pins s1 σ H1 _ I1 q1;rw [hs] at hA ⊢;refine Calls.callWith_builtin (by show (false||(backTo cpos (starEach es X.env)).any (·.1))=false;rw [hplain]<;>rfl) (Calls.evalArgs_plain ?_);exact thn hA fun us s2 ⟨vs,H2,I2,r2,q2⟩=>hm pins s2 σ H2 x vs v us Q I2 r1 r2 q2
end
end L2
namespace L2
open PySem PySem.Spec PyProof.Rows
noncomputable def MtM (X:Cx)(id:String)(r:V->List V->Hp->VK->Prop):Prop:=
 ∀ (pins:List (Addr×Obj)) (s:Shared) (σ:St) (H:Hp) (x:V) (xs:List V) (v:Value) (us:List Value) (Q:VK),Inv X pins σ H s->RelV x v->Vals xs us->r x xs H Q->
  wpAny (model X.prog X.w) X.A (call (.builtin id) (v::us)) (EP X pins σ Q) X.xe s
theorem Vals.one:∀ {x:V} {us:List Value},Vals [x] us->∃ u,us=[u]/\RelV x u
 :=by
 intro x us h;cases h with
 |cons r t=>
  cases t;exact ⟨_,rfl,r⟩
theorem Vals.two:∀ {x y:V} {us:List Value},Vals [x,y] us->∃ u v,us=[u,v]/\RelV x u/\RelV y v
 :=by
 intro x y us h;cases h with
 |cons r t=>
  cases t with
  |cons q t=>
   cases t;exact ⟨_,_,rfl,r,q⟩
theorem Vals.dropLast {xs:List V}{us:List Value}(h:Vals xs us):Vals xs.dropLast us.dropLast:=by
 induction h with
 |nil=>exact .nil
 |cons r t ih=>
  cases t with
  |nil=>exact .nil
  |cons q t'=>exact .cons r ih
theorem Vals.eraseIdx:∀ {xs:List V} {us:List Value} (i:Nat),Vals xs us->Vals (xs.eraseIdx i) (us.eraseIdx i)
 |_,_,_,.nil=>.nil
 |_,_,0,.cons _ t=>t
 |_,_,i+1,.cons r t=>.cons r (Vals.eraseIdx i t)
theorem Vals.reverse {xs:List V}{us:List Value}(h:Vals xs us):Vals xs.reverse us.reverse:=by
 induction h with
 |nil=>exact .nil
 |cons r t ih=>rw [List.reverse_cons,List.reverse_cons];exact Vals.append ih (.cons r .nil)
theorem Vals.rep {xs:List V}{us:List Value}(h:Vals xs us):∀ k:Nat,Vals (List.replicate k xs).flatten (List.replicate k us).flatten
 |0=>.nil
 |k+1=>by
  rw [List.replicate_succ,List.replicate_succ,List.flatten_cons,List.flatten_cons];exact Vals.append h (Vals.rep h k)
theorem zd8 {α:Type}:∀ (l:List α) (i:Nat),(l.eraseIdx i).length<=l.length
 | [],_=>Nat.le_refl _
 |_::_,0=>Nat.le_succ _
 |_::r,i+1=>Nat.succ_le_succ (zd8 r i)
section
variable {X:Cx}{pins:List (Addr×Obj)}{σ:St}{H:Hp}{s:Shared}{l b:Addr}{xs ys zs:List V}
theorem Inv.lset {its its':List Value}{n:Nat}{f:Array Value->Array Value}{t':Nat}(I:Inv X pins σ H s)(hH:H l=some (.lst xs))
  (e:s.heap.get? l=some {cls:=.type "list",data:=.seq its.toArray n})(hf:f its.toArray=its'.toArray)(hv:Vals ys its')(hz:ys.length<=sizeLine):
  Inv X pins σ (upd H l (.lst ys)) {s with heap:=s.heap.update l (Obj.mapSeq f),toks:=t'}:=by
 have q:=PySem.IsL.update e f;rw [hf] at q;refine I.write (x:=l) (e:=l) (by rw [hH];exact trivial) (.inl rfl) (fun b' u hb hu=>(Heap.get?_update_other s.heap (Obj.mapSeq f) (Ne.symm hb)).trans hu) ⟨_,q⟩ ?_;exact ⟨hz,its',_,hv,q⟩
theorem Inv.lnew {its:List Value}{t':Nat}(I:Inv X pins σ H s)(hv:Vals ys its)(hz:ys.length<=sizeLine):
  Inv X pins σ (upd H s.heap.objs.size (.lst ys)) {s with heap:=s.heap.push {cls:=.type "list",data:=.seq its.toArray},toks:=t'}:=
 I.laid (fun _ _ q=>Heap.get?_push_of_some _ q) (Nat.le_refl _) ⟨hz,its,0,hv,Heap.get?_push_size _ rfl⟩
theorem Inv.fresh (I:Inv X pins σ H s):H s.heap.objs.size=none:=I.hok.fresh (Nat.le_refl _)
theorem Inv.lstM (I:Inv X pins σ H s)(hH:H l=some (.lst xs)):xs.length<=sizeLine/\∃ (its:List Value) (n:Nat),Vals xs its/\xs.length=its.length/\s.heap.get? l=some {cls:=.type "list",data:=.seq its.toArray n}:=by
 obtain ⟨z,its,n,r,e⟩:=I.hok l _ hH;exact ⟨z,its,n,r,r.length,e⟩
end
section
variable {X:Cx}
noncomputable def zhP:V->List V->Hp->VK->Prop:=fun x vs H Q=>∃ l xs y,x= .ref l/\vs=[y]/\H l=some (.lst xs)/\xs.length<sizeLine/\Q .non (upd H l (.lst (xs++[y])))
theorem zfX:MtM X "list.append" zhP:=by
 intro pins s σ H x vs v us Q I rx rv h;obtain ⟨l,xs,y,rfl,rfl,hH,hz,q⟩:=h;cases rx;obtain ⟨u,rfl,ru⟩:=rv.one;obtain ⟨z,its,n,r,hl,e⟩:=I.lstM hH;refine call_meets F.slot_list_append ⟨_,e,rfl⟩ F.entry_list_append (F.args_list_append_2 _ _) (PySem.list_append l its.toArray n u (by rw [List.size_toArray];omega)) ⟨e,?_⟩;refine ⟨.non,_,I.lset (its':=its++[u]) hH e (by simp) (r.append (.cons ru .nil)) ?_,rfl,q⟩;rw [List.length_append,List.length_singleton];omega
noncomputable def zjj:V->List V->Hp->VK->Prop:=fun x vs H Q=>∃ l xs i k y,x= .ref l/\vs=[.int i]/\H l=some (.lst xs)/\ -(2 ^ 63)<=i/\i<2 ^ 63/\seqIndex? i xs.length=some k/\xs[k]? =some y/\Q y (upd H l (.lst (xs.eraseIdx k)))
theorem zgP:MtM X "list.pop" zjj:=by
 intro pins s σ H x vs v us Q I rx rv h;obtain ⟨l,xs,i,k,y,rfl,rfl,hH,h1,h2,hk,hy,q⟩:=h;cases rx;obtain ⟨u,rfl,ru⟩:=rv.one;obtain ⟨t,rfl⟩:=ru;obtain ⟨z,its,n,r,hl,e⟩:=I.lstM hH;obtain ⟨w,hw,rw'⟩:=r.get hy
 refine call_meets F.slot_list_pop ⟨_,e,rfl⟩ F.entry_list_pop (F.args_list_pop_2 _ _)
  (MeetsSeq.list_pop_at l its.toArray n i t k w (fitsIndex_both h1 h2) (by rw [List.size_toArray,<-hl];exact hk) (by rw [<-Array.getElem?_toList];exact hw) (by rw [List.size_toArray];omega)) ⟨e,?_⟩
 refine ⟨y,_,I.lset (its':=its.eraseIdx k) hH e ?_ (r.eraseIdx k) ?_,rw',q⟩
 ·show its.toArray.eraseIdxIfInBounds k=(its.eraseIdx k).toArray
  rw [List.eraseIdxIfInBounds_toArray]
 ·have:=zd8 xs k;omega
end
section
variable {prog:Program}{w:World}{A:Around}{E:Value->Shared->Prop}{s:Shared}
set_option maxRecDepth 100000 in
end
section
variable {X:Cx}
end
end L2
namespace Att
open PySem PySem.W PySem.Calls PyProof.Rows
theorem zcB {P:Params}{h:Heap}:∀ (ns:List Int) (vs:List Value),WellAll P h vs (ns.map WData.int)->IntsAre vs ns:=by
 intro ns
 induction ns with
 |nil=>
  intro vs w;rw [List.map_nil] at w;cases w;exact .nil
 |cons n ns ih=>
  intro vs w;rw [List.map_cons] at w;cases w with
  |cons a b=>
   cases a;exact .cons _ _ (ih _ b)
theorem zd9 {l:OpenLaw}{n:Nat}(hn:l.most=some n){P:Params}{h:Heap}{args:List WData}{vals:List Value}
  (hpre:l.row.toRowW.claim.pre args=true)(hwl:WellAll P h vals args):
  ∃ a vs ns,vals=[Value.ref a]/\args=[WData.list (ns.map WData.int)]/\h.get? a=some {cls:=.type "list",data:=.seq vs.toArray}/\IntsAre vs ns/\ns.length<=n:=by
 have hsh:WShape.hasAll [] args [.list .int]=true:=(pre_splitW hpre).1;have hc:l.pre.holds [] {args:=args}=true:=(pre_splitW hpre).2;obtain ⟨d,r,rfl,h1,h2⟩:=hasAllW_cons hsh;obtain rfl:=hasAllW_nil h2;obtain ⟨xs,rfl,h3⟩:=hasW_list h1;obtain ⟨ns,rfl⟩:=items_int h3;have hlen:ns.length<=n:=by
  unfold OpenLaw.pre at hc;have h4:(WTm.not (.lt (.lit (.int (n:Int))) (.len (.arg 0)))).holds [] {args:=[.list (ns.map .int)]}=true:=by
   have h4:=(holds_andW hc).1;rw [hn] at h4;exact h4
  have h5:=condW_of h4 (w_not (w_lt w_lit (w_len_list (w_arg rfl))));rw [List.length_map] at h5;refine Nat.le_of_not_lt fun q=>?_;have q':(n:Int)<((ns.length:Nat):Int):=by omega
  first
   | (rw [decide_eq_true q'] at h5;exact absurd h5 (by decide))
   | (simp at h5;omega)
 cases hwl with
 |cons w1 w2=>
  cases w2;cases w1 with
  |list ho hall=>exact ⟨_,_,ns,rfl,rfl,ho,zcB ns _ hall,hlen⟩
theorem zea (l:OpenLaw)(args:List WData):l.row.toRowW.claim.post args (.bool true) args=true:=
 postW_of (r:=l.row.toRowW) (X:=(true==true))
  (show WShape.has [] (.bool true) .bool=true by first|rfl|decide|simp [WShape.has,WShape.arms,WShape.armsAll])
  (show (WTm.eq .res (.lit (.bool true))).value [] {args:=args,res:=some (.bool true),after:=args}=some (.bool (true==true)) from w_eq_bool (w_res rfl) w_lit) rfl
theorem attach_call {l:OpenLaw}{n:Nat}{q:Program}{loose:List Str}{XP:(Str->Option Value)->Heap->Prop}{YP:World->Heap->Prop}{d:DefRec}
  (hn:l.most=some n)(hdf:d.params.defaults=[])
  (call:∀ (w:World) (s₀ s₁:Shared) (mg mb:Str->Option Value) (fa:Addr) (o:Obj) (pm cd doc:Value) (a:Addr) (vs:List Value) (ns:List Int),
   Ground q loose [] XP w s₀ mg mb s₁.heap->YP w s₁.heap->
   s₁.heap.get? fa=some o->o.data= .func (docDef d.name d.params d.body d.scope pm cd doc)->s₁.heap.CodeRec cd d.name->mg d.name=some (.ref fa)->
   s₁.heap.get? a=some {cls:=.type "list",data:=.seq vs.toArray}->IntsAre vs ns->ns.length<=n->s₁.gens= #[]->
   codeAny (model l.prog w) callerA (.call (.ref fa) ⟨[.ref a],[]⟩) (fun r s'=>r= .ok (.ret (.bool true))/\OldK s₁.heap s'.heap/\s'.os=s₁.os/\AllBare s'.gens) s₁):
  WalkO q loose XP YP l.row.toRowW d [] (fun f vs=>PySem.call f vs):=by
 intro w s₀ s₁ mg mb G Y fa o pm cd doc dV kV ho hd hcd hD hmg hg args vals as hpre hlay hrd hwl hlo;obtain rfl:dV= .none:=Dflts.none hD hdf;obtain rfl:kV= .none:=Dflts.noKw hD;obtain ⟨a,vs,ns,rfl,rfl,hobj,hints,hlen⟩:=zd9 hn hpre hwl;refine enter_call (codeAny_mono (call w s₀ s₁ mg mb fa o pm cd doc a vs ns G Y ho (fd_plain hd) hcd hmg hobj hints hlen hg) fun r s' hq=>?_);obtain ⟨rfl,h2,h3,h4⟩:=hq;exact ⟨.inl ⟨.bool true,.bool true,[],rfl,fun _=>rfl,.bool true,zea l _,fun _=>⟨List.Pairwise.nil,fun _ hm=>(nomatch hm)⟩⟩,h2,h3,h4⟩
section
variable {prog:Program}{w:World}{A:Around}{E:Value->Shared->Prop}{s:Shared}{K:Frag}
noncomputable def zkU (h:Heap)(L d:Addr):List (Addr×Obj):=(List.range h.objs.size).filterMap fun a=>if a=L\/a=d then none else (h.get? a).map fun o=>(a,o)
end
end Att
namespace L2
open PySem PySem.Spec PyProof.Rows
theorem zfY:∀ {vs:List Value} {ns:List Int},IntsAre vs ns->Vals (ns.map V.int) vs
 :=by
 intro vs ns h
 induction h with
 |nil=>exact .nil
 |cons n t h ih=>exact .cons ⟨t,rfl⟩ ih
noncomputable def zki (H:Hp):Prop:=∀ b,H b=none\/∃ o xs,H b=some (.frz o (.lst xs))
theorem zfb {P:Program}{w:World}{K:PySem.W.Frag}{mg mb:Str->Option Value}{CX:CXT}{k:Nat}{fa a:Addr}{fd:FuncData}{x:Str}{sp:Sp}{s₁:Shared}{vs:List Value}{ns:List Int}
  (KX:K.In s₁.heap)(hns:s₁.heap.Ns mainGlobals mg)(hb:s₁.heap.Ns builtinsNs mb)(hbb:∀ x:Str,x≠"__name__"->mb x=bootBuiltins x)(hlim:s₁.heap.NoLimit)(hg:s₁.gens= #[])
  (ha:s₁.heap.get? a=some {cls:=.type "list",data:=.seq vs.toArray})(hi:IntsAre vs ns)(hl:ns.length<=sizeLine)(hr:Room k callerA)
  (F:∀ base:Heap,K.In base->base.Ns mainGlobals mg->FnOk P w K mg base CX k fa fd [x] sp)(hbind:∀ (s:Shared) (u:Value),BindsTo s fd ⟨[u],[]⟩ [(x,u)])
  (hsp:∀ H:Hp,zki H->SqL K H a (ns.map V.int)->sp [.ref a] H (fun v _=>v= .bl true) fun _ _ _=>False)
  (hCX:∀ H e s',CX [] H s₁ (fun _ _ _=>False) e s'->False):
  codeAny (model P w) callerA (.call (.ref fa) ⟨[.ref a],[]⟩) (fun r s'=>r= .ok (.ret (.bool true))/\OldK s₁.heap s'.heap/\s'.os=s₁.os/\AllBare s'.gens) s₁:=by
 have rv:=zfY hi;have lenV:=hi.length
 have core:∀ H:Hp,zki H->SqL K H a (ns.map V.int)->HOk P w H s₁.heap->(∀ b,H b≠none->b=a)->(H a≠none->K.lookup a=none)->
   codeAny (model P w) callerA (.call (.ref fa) ⟨[.ref a],[]⟩) (fun r s'=>r= .ok (.ret (.bool true))/\OldK s₁.heap s'.heap/\s'.os=s₁.os/\AllBare s'.gens) s₁:=by
  intro H hO hS hok hA hK;have base_of:∀ {b:Addr} {o:Obj},s₁.heap.get? b=some o->H b=none->(zgH s₁.heap H).get? b=some o:=fun e n=>zgI e n;have noA:∀ {b:Addr} {o:Obj} {es:Array DictEntry} {ep:Nat},s₁.heap.get? b=some o->o.data= .dict es ep->H b=none:=fun {b o es ep} e d=>by
   cases q:H b with
   |none=>rfl
   |some u=>
    have e':b=a:=hA b (by rw [q];simp);subst e';rw [ha] at e;cases e;have d':Data.seq vs.toArray _=Data.dict es ep:=d;cases d'
  have nsK:∀ {b:Addr} {m:Str->Option Value},s₁.heap.Ns b m->(zgH s₁.heap H).Ns b m:=fun {b m} ⟨o,es,ep,e,d,r⟩=>⟨o,es,ep,base_of e (noA e d),d,r⟩;have hKb:K.In (zgH s₁.heap H):=fun b o e=>base_of (KX b o e) (by
   cases q:H b with
   |none=>rfl
   |some u=>
    have e':b=a:=hA b (by rw [q];simp);subst e';rw [hK (by rw [q];simp)] at e;cases e)
  have hM:Mod K mg (zgH s₁.heap H):=⟨hKb,nsK hns,⟨mb,nsK hb,hbb⟩,let ⟨mc,h1,h2⟩:=hlim;⟨mc,nsK h1,h2⟩⟩;have e0:Env0 P w K mg (zgH s₁.heap H) callerA [] s₁ H:=⟨rfl,hM,fun b o e=>zhE e,Nat.le_of_eq (zfM _ _),trivial,fun b hb=>absurd (show b∈([]:List Addr) from hb) (by simp),hok,.of_eq hg⟩;refine codeAny_mono ((F _ hKb (nsK hns)).run callerA [] s₁ H ⟨[.ref a],[]⟩ [.ref a] [.ref a] _ _ hr e0 (hbind s₁ (.ref a)) (.cons rfl .nil) (hsp H hO hS)) fun r s' h=>?_;cases r with
  |error e=>exact (hCX H e s' h).elim
  |ok fl=>
   cases fl with
   |next=>exact False.elim h
   |brk=>exact False.elim h
   |cont=>exact False.elim h
   |ret u=>
    obtain ⟨v,H',os,bare,un,hok',r',q⟩:=h;have q':v= .bl true:=q;subst q';obtain rfl:u=Value.bool true:=r';refine ⟨rfl,OldK.of_keep fun b o e=>?_,os,bare⟩;cases q:H b with
    |none=>exact un.keep b o e q (by intro z;exact absurd (show b∈([]:List Addr) from z) (by simp)) (by simp)
    |some u=>
     rcases hO b with z|⟨ob,xs,z⟩
     ·rw [q] at z;cases z
     ·have z2:=un.frzs b ob _ z;obtain ⟨e1,_⟩:=hok b _ z;obtain ⟨e2,_⟩:=hok' b _ z2;rw [e] at e1;cases e1;exact e2
 cases hk:K.lookup a with
 |some o=>
  have e:=KX a o hk;rw [ha] at e;cases e;refine core (fun _=>none) (fun _=>.inl rfl) (.inr ⟨_,vs.toArray,_,hk,rfl,rfl,rfl,by rw [List.size_toArray,lenV];exact hl,by simpa using rv⟩) (fun b u z=>by have z':(none:Option HO)=some u:=z;cases z') (fun b z=>absurd rfl z) fun z=>absurd rfl z
 |none=>
  refine core (fun b=>if b=a then some (.frz {cls:=.type "list",data:=.seq vs.toArray} (.lst (ns.map V.int))) else none) (fun b=>?_) (.inl (.inr ⟨{cls:=.type "list",data:=.seq vs.toArray},if_pos rfl⟩)) (fun b u z=>?_) (fun b z=>?_) fun _=>hk
  ·by_cases hb:b=a
   ·exact .inr ⟨_,_,if_pos hb⟩
   ·exact .inl (if_neg hb)
  ·by_cases hb:b=a
   ·have z':=(if_pos hb).symm.trans z;cases z';subst hb;exact ⟨ha,by rw [List.length_map];exact hl,vs,_,rv,ha⟩
   ·have z':=(if_neg hb).symm.trans z;cases z'
  ·by_cases hb:b=a
   ·exact hb
   ·exact absurd (if_neg hb) z
end L2
namespace L2
open PySem PySem.Spec PyProof.Rows
noncomputable abbrev KOf {K:PySem.W.Frag}{h:Heap}(_:K.In h):PySem.W.Frag:=K
theorem zkj {l:PySem.W.OpenLaw}{n k:Nat}{q:Program}{loose:List Str}{XP:(Str->Option Value)->Heap->Prop}{YP:World->Heap->Prop}{d:DefRec}{K:Params->PySem.W.Frag}{CX:World->CXT}{sp:World->Sp}{x:Str}
  (hn:l.most=some n)(hn2:n<=sizeLine)(hdf:d.params.defaults=[])(hr:Room k callerA)
  (hY:∀ (w:World) (h:Heap),YP w h->(K w.params).In h)
  (F:∀ (w:World) (mg:Str->Option Value) (fa:Addr) (h:Heap),(K w.params).In h->h.Ns mainGlobals mg->mg d.name=some (.ref fa)->
   ∃ fd:FuncData,(∀ (s:Shared) (u:Value),BindsTo s fd ⟨[u],[]⟩ [(x,u)])/\
    ∀ base:Heap,(K w.params).In base->base.Ns mainGlobals mg->FnOk l.prog w (K w.params) mg base (CX w) k fa fd [x] (sp w))
  (hsp:∀ (w:World) (H:Hp) (a:Addr) (ns:List Int),ns.length<=n->zki H->SqL (K w.params) H a (ns.map V.int)->sp w [.ref a] H (fun v _=>v= .bl true) fun _ _ _=>False)
  (hCX:∀ (w:World) (H:Hp) (s:Shared) (e:Value) (s':Shared),CX w [] H s (fun _ _ _=>False) e s'->False):
  PySem.W.WalkO q loose XP YP l.row.toRowW d [] (fun f vs=>PySem.call f vs):=by
 refine Att.attach_call hn hdf fun w s₀ s₁ mg mb fa o pm cd doc a vs ns G Y ho hd hcd hmg hobj hints hlen hg=>?_;have KX:=hY w _ Y;obtain ⟨fd,hb,hF⟩:=F w mg fa _ KX G.T.g hmg;exact zfb KX G.T.g G.T.b G.T.builtins G.T.nolimit hg hobj hints (Nat.le_trans hlen hn2) hr hF hb (fun H hO hS=>hsp w H a ns hlen hO hS) fun H e s'=>hCX w H s₁ e s'
end L2
namespace L2
open PySem PySem.Spec PyProof.Rows
noncomputable def zao (s:Stmt):Arguments:=match s with
 | .FunctionDef _ a _ _ _ _ _ _ _ _=>a
 |_=>{posonlyargs:=[],args:=[],vararg:=none,kwonlyargs:=[],kw_defaults:=[],kwarg:=none,defaults:=[]}
noncomputable def zai (s:Stmt):List Stmt:=match s with
 | .FunctionDef _ _ b _ _ _ _ _ _ _=>b
 |_=>[]
noncomputable def zaa (s:Stmt):Scope:=match s with
 | .FunctionDef _ _ _ _ _ _ sc _ _ _=>sc
 |_=>{kind:=.function,names:=[],isGenerator:=false,isCoroutine:=false}
noncomputable abbrev CX0:CXT:=fun _ _ _ _ _ _=>False
noncomputable abbrev E0:XK:=fun _ _ _=>False
theorem zfZ {X:Cx}:zdf CX0 X E0:=fun _ _ _ _ _ _ _ h=>h.elim
structure Fun (K:PySem.W.Frag)(x qual:Str)(st:Stmt)(f:Addr)(fd:FuncData):Prop where
 ex:∃ (oc:Value) (od:Option Addr) (kV doc pm:Value) (an:Option Addr) (cdv ct:Value) (osl:Array (Option Value)),
  fd=PySem.W.fnOf x qual (zao st) (zai st) (zaa st) .none kV doc pm an cdv ct/\K.lookup f=some ⟨oc,od,.func fd,osl⟩/\PySem.W.codeIn K cdv qual=true
 kp:PySem.W.keepIn K (.ref f)=true
section
variable {P:Program}{w:World}{K:PySem.W.Frag}{mg:Str->Option Value}{base:Heap}
theorem Fun.ok {x qual:Str}{st:Stmt}{f:Addr}{fd:FuncData}{N ps:List Str}{k:Nat}{sp:Sp}(F:Fun K x qual st f fd)(S:FnScope N ps (zaa st))(len:∀ vs H Q E,sp vs H Q E->vs.length=ps.length)
  (hbody:∀ (cdv:Value) (A:Around) (outer:List Env) (s:Shared) (H:Hp) (vs:List V) (Q:VK) (E:XK),Room k (A.deeper (envOfC qual (zaa st) s.heap.objs.size f cdv))->sp vs H Q E->
   ∃ t,PSs (zd4 CX0 P w K mg base N qual (zaa st) f cdv A outer s H E).nox (zai st) t/\t {nx:=fun _ H'=>Q .non H',rt:=Q} (zcr N vs) H):FnOk P w K mg base CX0 (k+1) f fd ps sp:=by
 obtain ⟨oc,od,kV,doc,pm,an,cdv,ct,osl,rfl,lk,hcd⟩:=F.ex;refine zjd lk hcd S len fun A outer s H vs Q E hr hsp=>?_;obtain ⟨t,h,q⟩:=hbody cdv A outer s H vs Q E hr hsp;exact ⟨t,h.nox,q⟩
theorem Fun.binds {x qual:Str}{st:Stmt}{f:Addr}{fd:FuncData}{ps:List Str}(F:Fun K x qual st f fd)
  (h:∀ (kV doc pm:Value) (an:Option Addr) (cdv ct:Value) (us:List Value),us.length=ps.length->bindArgs (PySem.W.fnOf x qual (zao st) (zai st) (zaa st) .none kV doc pm an cdv ct) ⟨us,[]⟩=pure (ps.zip us)):Binds K fd ps []:=by
 obtain ⟨oc,od,kV,doc,pm,an,cdv,ct,osl,rfl,lk,hcd⟩:=F.ex;exact .all (h kV doc pm an cdv ct)
theorem zaS {x qual:Str}{st:Stmt}{f:Addr}{oc:Value}{od an:Option Addr}{osl:Array (Option Value)}{kV doc pm cdv ct:Value}(l:K.lookup f=some ⟨oc,od,.func (PySem.W.fnOf x qual (zao st) (zai st) (zaa st) .none kV doc pm an cdv ct),osl⟩)
  (c:PySem.W.codeIn K cdv qual=true)(k:PySem.W.keepIn K (.ref f)=true):Fun K x qual st f (PySem.W.fnOf x qual (zao st) (zai st) (zaa st) .none kV doc pm an cdv ct):=⟨⟨oc,od,kV,doc,pm,an,cdv,ct,osl,rfl,l,c⟩,k⟩
end
section
variable {X:Cx}
end
theorem zkV {A B:Prop}(h:B):if false=true then A else B:=by
 rw [if_neg Bool.false_ne_true];exact h
noncomputable def Same (H H':Hp):Prop:=∀ b o,H b=some o->H' b=some o
theorem Same.refl (H:Hp):Same H H:=fun _ _ h=>h
theorem Same.trans {H H1 H2:Hp}(a:Same H H1)(b:Same H1 H2):Same H H2:=fun c o h=>b c o (a c o h)
theorem Same.free {H H':Hp}(e:Same H H'){l:Addr}(h:H' l=Option.none):H l=Option.none:=by
 cases q:H l with
 |none=>rfl
 |some o=>
  rw [e l o q] at h;cases h
theorem Same.seq {K:PySem.W.Frag}{H H':Hp}{a:Addr}{xs:List V}(e:Same H H')(h:SqL K H a xs):SqL K H' a xs:=by
 rcases h with (h|⟨o,h⟩)|h
 ·exact .inl (.inl (e _ _ h))
 ·exact .inl (.inr ⟨o,e _ _ h⟩)
 ·exact .inr h
end L2
set_option autoImplicit false
set_option maxHeartbeats 4000000
namespace L2
open PySem PySem.Spec PyProof.Rows
section
variable {κ:Type}[DecidableEq κ]
noncomputable def ziJ (kvs:List (κ×V))(k:κ):Option V:=(kvs.find? fun kv=>decide (kv.1=k)).map (·.2)
noncomputable def zkW (kvs:List (κ×V))(k:κ)(v:V):List (κ×V):=
 if (kvs.any fun kv=>decide (kv.1=k))=true then kvs.map (fun kv=>if kv.1=k then (kv.1,v) else kv) else kvs++[(k,v)]
noncomputable def zjk (kvs:List (κ×V))(k:κ):List (κ×V):=kvs.filter fun kv=>decide (kv.1≠k)
theorem zgQ {p:κ×V}{r:List (κ×V)}{k:κ}(e:p.1=k):ziJ (p::r) k=some p.2:=by simp [ziJ,List.find?_cons,e]
theorem zgR {p:κ×V}{r:List (κ×V)}{k:κ}(e:¬ p.1=k):ziJ (p::r) k=ziJ r k:=by simp [ziJ,List.find?_cons,e]
theorem RelO.getD {o:Option V}{u:Option Value}{d:V}{d':Value}(r:RelO o u)(rd:RelV d d'):RelV (o.getD d) (u.getD d'):=by
 cases o with
 |none=>cases u with
  |none=>exact rd
  |some _=>exact (show False from r).elim
 |some _=>cases u with
  |none=>exact (show False from r).elim
  |some _=>exact r
theorem KV.val {kvs:List (κ×V)}{vs:List (κ×Value)}(r:KV kvs vs)(k:κ):RelO (ziJ kvs k) (valueAt vs k):=by
 unfold KV at r
 induction r with
 |nil=>exact True.intro
 | @cons p q ps qs h t ih=>
  obtain ⟨h1,h2⟩:=h;by_cases e:p.1=k
  ·have e':q.1=k:=h1.symm.trans e;have b:valueAt (q::qs) k=some q.2:=by simp [valueAt,List.find?_cons,e']
   rw [zgQ e,b];exact h2
  ·have e':¬ q.1=k:=fun z=>e (h1.trans z);have b:valueAt (q::qs) k=valueAt qs k:=by simp [valueAt,List.find?_cons,e']
   rw [zgR e,b];exact ih
theorem KV.any {kvs:List (κ×V)}{vs:List (κ×Value)}(r:KV kvs vs)(k:κ):(kvs.any fun kv=>decide (kv.1=k))=vs.any fun kv=>decide (kv.1=k):=by
 unfold KV at r
 induction r with
 |nil=>rfl
 |cons h t ih=>rw [List.any_cons,List.any_cons,ih,h.1]
theorem KV.repl {kvs:List (κ×V)}{vs:List (κ×Value)}(r:KV kvs vs)(k:κ){y:V}{u:Value}(ry:RelV y u):
  KV (kvs.map fun kv=>if kv.1=k then (kv.1,y) else kv) (vs.map fun kv=>if kv.1=k then (kv.1,u) else kv):=by
 unfold KV at r ⊢
 induction r with
 |nil=>exact .nil
 | @cons p q ps qs h t ih=>
  rw [List.map_cons,List.map_cons];refine .cons ?_ ih;obtain ⟨h1,h2⟩:=h;by_cases e:p.1=k
  ·rw [if_pos e,if_pos (h1.symm.trans e)];exact ⟨h1,ry⟩
  ·rw [if_neg e,if_neg (fun z=>e (h1.trans z))];exact ⟨h1,h2⟩
theorem KV.put {kvs:List (κ×V)}{vs:List (κ×Value)}(r:KV kvs vs)(k:κ){y:V}{u:Value}(ry:RelV y u):KV (zkW kvs k y) (stored vs k u):=by
 unfold zkW stored;rw [r.any k];by_cases e:(vs.any fun kv=>decide (kv.1=k))=true
 ·rw [if_pos e,if_pos e];exact r.repl k ry
 ·rw [if_neg e,if_neg e];exact Paired.snoc r ⟨rfl,ry⟩
theorem KV.drop {kvs:List (κ×V)}{vs:List (κ×Value)}(r:KV kvs vs)(k:κ):KV (zjk kvs k) (without vs k):=by
 unfold KV at r ⊢;unfold zjk without
 induction r with
 |nil=>exact .nil
 | @cons p q ps qs h t ih=>
  obtain ⟨h1,h2⟩:=h;rw [List.filter_cons,List.filter_cons];by_cases e:p.1=k
  ·have a:¬ decide (p.1≠k)=true:=by simp [e]
   have b:¬ decide (q.1≠k)=true:=by simp [h1.symm.trans e]
   rw [if_neg a,if_neg b];exact ih
  ·have e':¬ q.1=k:=fun z=>e (h1.trans z);have a:decide (p.1≠k)=true:=by simp [e]
   have b:decide (q.1≠k)=true:=by simp [e']
   rw [if_pos a,if_pos b];exact .cons ⟨h1,h2⟩ ih
theorem KV.length {kvs:List (κ×V)}{vs:List (κ×Value)}(r:KV kvs vs):kvs.length=vs.length:=Paired.length r
end
section
variable {P:Program}{w:World}{H:Hp}{h:Heap}{a:Addr}
end
section
variable {X:Cx}{pins:List (Addr×Obj)}{σ:St}{H:Hp}{s:Shared}{a:Addr}{y v:V}{u r:Value}{o:Option V}{A:Around}{E:Value->Shared->Prop}
end
section
variable {X:Cx}{pins:List (Addr×Obj)}{σ:St}{H:Hp}{s:Shared}{a:Addr}{kvs:List (Key×V)}{k:Key}{u:Value}{A:Around}{E:Value->Shared->Prop}
end
section
variable {X:Cx}{o i e value:Expr}{pos pos' tpos:Pos}{td ty tv:TE}
end
section
variable {X:Cx}{pos:Pos}
end
end L2
namespace L2
open PySem PySem.Spec PyProof.Rows
noncomputable def zld (ks:List Int):Int:=reduceHash (Builtin.Tuple.tupleHashOf (ks.map hashInt))
noncomputable abbrev RwT:=List (List Int×Addr×Value)
noncomputable def zle (a:Addr)(xs:RwT)(h:Heap):Prop:=
 (a==sysModules)=false/\xs.length<=sizeLine/\(xs.map (·.1)).Nodup/\∃ o es ep,h.get? a=some o/\o.ExactDict/\o.data= .dict es ep/\es.toList=xs.map fun x=>⟨zld x.1,.ref x.2.1,x.2.2⟩
theorem items_int {P:Program}{w:World}:∀ {ks:List Int} {us:List Value},Vals (ks.map V.int) us->ItemsAre (intKind P w) ks us
 | [],_,r=>by cases r;exact .nil
 |k::ks,_,r=>by
  rw [List.map_cons] at r;cases r with
  |cons h t=>
   obtain ⟨tk,rfl⟩:=h;exact .cons (by show Value.isInt k (.int k tk)=true;simp [Value.isInt]) (items_int t)
section
variable {X:Cx}{pins:List (Addr×Obj)}{σ:St}{H:Hp}{s:Shared}{a b:Addr}{xs:RwT}{ks:List Int}{A:Around}{E:Value->Shared->Prop}
end
section
variable {X:Cx}{o i e value:Expr}{pos pos' tpos:Pos}{td ty tv tk:TE}
end
section
variable {prog:Program}{w:World}{A:Around}{E:Value->Shared->Prop}{s:Shared}{d:Addr}{es:Array DictEntry}{ep:Nat}
end
section
variable {prog:Program}{w:World}{A:Around}{E:Value->Shared->Prop}{s:Shared}{d o:Addr}{xs ys:RwT}{ks:List Int}
end
section
variable {prog:Program}{w:World}{A:Around}{E:Value->Shared->Prop}{s:Shared}{d o:Addr}{xs ys:RwT}{ks:List Int}
end
section
variable {X:Cx}{o e:Expr}{to:TE}{t:TA}{apos cpos:Pos}
end
end L2
namespace L2
open PySem PySem.Spec PyProof.Rows
noncomputable abbrev noX:Value->Shared->Prop:=fun _ _=>False
section
variable {prog:Program}{w:World}{A:Around}{R:Result->Shared->Prop}{s:Shared}
noncomputable def zbM (ifs:List Expr)(env:Env):Sem Bool:=
 forIn ifs true fun c r=>if r=true then do let ok <-isTrue c env (eval c env);pure (ForInStep.yield ok) else pure (ForInStep.yield r)
theorem zhQ {elt tg iter:Expr}{ifs:List Expr}{sc:Scope}{pos:Pos}{it acc:Value}{env:Env}(I:Nat->Shared->Prop)
  (turn:∀ n s,I n s->wpAny (model prog w) A (pyNext it) (fun r s1=>match r with
   |none=>R (.ok .next) s1
   |some v=>wpAny (model prog w) A (letOwnedTupleGo tg it v) (fun _ s2=>wpAny (model prog w) A (assign tg env v) (fun _ s3=>
     wpAny (model prog w) A (zbM ifs env) (fun ok s4=>
      if ok=true then wpAny (model prog w) A (eval elt env) (fun x s5=>wpAny (model prog w) A (call (.builtin "list.append") [acc,x]) (fun _ s6=>∃ m,m<n/\I m s6) noX s5) noX s4
      else ∃ m,m<n/\I m s4) noX s3) noX s2) noX s1) noX s)
  (n:Nat)(h:I n s):codeAny (model prog w) A (.compLoop (.ListComp elt [⟨tg,iter,ifs,0⟩] sc pos) 0 it acc env) R s:=by
 refine codeAny_loop rfl I (fun n s hI=>?_) n h;show wpAny _ A ((compTurn (.ListComp elt [⟨tg,iter,ifs,0⟩] sc pos) 0 it acc env).onRaise (fun x=>do noteFrame x env;theTreesLotGoes x)) _ _ s
 refine wpAny_noted ?_;rw [compTurn_list];refine wpAny_bind (wpAny_standAt (wpAny_bind (wpAny_mono (turn n s hI) (fun r s1 h1=>?_) fun _ _ z=>False.elim z)));cases r with
 |none=>exact wpAny_pure h1
 |some v=>
  refine wpAny_bind (wpAny_mono h1 (fun _ s2 h2=>?_) fun _ _ z=>False.elim z);refine wpAny_bind (wpAny_mono h2 (fun _ s3 h3=>wpAny_bind (wpAny_mono h3 (fun ok s4 h4=>?_) fun _ _ z=>False.elim z)) fun _ _ z=>False.elim z);cases ok with
  |false=>exact wpAny_pure ⟨rfl,h4⟩
  |true=>
   exact wpAny_bind (wpAny_bind (wpAny_mono h4 (fun x s5 h5=>wpAny_bind (wpAny_mono h5 (fun _ s6 h6=>wpAny_pure (wpAny_pure ⟨rfl,h6⟩)) fun _ _ z=>False.elim z)) fun _ _ z=>False.elim z))
theorem zcC {env:Env}{Q:Bool->Shared->Prop}{E:Value->Shared->Prop}(h:Q true s):wpAny (model prog w) A (zbM [] env) Q E s:=wpAny_tests_nil h
end
noncomputable def zbV (env:Env):List (Str×NameKind)->List (Str×Addr)->List (Str×Addr)
 | [],acc=>acc
 | (n,k)::r,acc=>if k== .free then zbV env r ((n,(env.cells.lookup n).getD 0)::acc) else zbV env r acc
theorem zcD {env:Env}:∀ (names:List (Str×NameKind)) (acc:List (Str×Addr)),(∀ p∈names,p.2= .free->(env.cells.lookup p.1).isSome=true)->
  (forIn names acc fun (x:Str×NameKind) (cs:List (Str×Addr))=>(if x.2== .free then do let a <-cellOf env x.1;pure (ForInStep.yield ((x.1,a)::cs)) else pure (ForInStep.yield cs):Sem _))=pure (zbV env names acc)
 | [],acc,_=>by rw [List.forIn_nil];rfl
 | (n,k)::r,acc,h=>by
  have hr:∀ p∈r,p.2= .free->(env.cells.lookup p.1).isSome=true:=fun p hp=>h p (List.mem_cons_of_mem _ hp);rw [List.forIn_cons];unfold zbV;by_cases hk:(k==NameKind.free)=true
  ·have hs:=h (n,k) List.mem_cons_self (by simpa using hk);obtain ⟨c,hc⟩:=Option.isSome_iff_exists.mp hs;have hc':env.cells.lookup n=some c:=hc;simp only [hk,if_true];have e1:cellOf env n=pure c:=by unfold cellOf;rw [hc']
   rw [e1,hc'];exact zcD r _ hr
  ·simp only [hk,if_false];exact zcD r _ hr
theorem zbW {scope:Scope}{env:Env}(h:∀ p∈scope.names,p.2= .free->(env.cells.lookup p.1).isSome=true):closureFor scope env=pure (zbV env scope.names []):=by
 have e:=zcD (env:=env) scope.names [] h;unfold closureFor;show (forIn scope.names [] _ >>= fun cs=>pure cs)=_
 exact (congrArg (fun t=>t >>= fun cs=>pure cs) e)
theorem zcE {env:Env}:∀ {names:List (Str×NameKind)} {acc:List (Str×Addr)} {p:Str×Addr},p∈zbV env names acc->p∈acc\/((p.1,NameKind.free)∈names/\p.2=(env.cells.lookup p.1).getD 0)
 | [],_,_,h=>.inl h
 | (n,k)::r,acc,p,h=>by
  unfold zbV at h;split at h
  ·rename_i hk;have hk':k= .free:=by simpa using hk
   rcases zcE h with h|⟨h1,h2⟩
   ·rcases List.mem_cons.mp h with e|h
    ·subst e;subst hk';exact .inr ⟨List.mem_cons_self,rfl⟩
    ·exact .inl h
   ·exact .inr ⟨List.mem_cons_of_mem _ h1,h2⟩
  ·rcases zcE h with h|⟨h1,h2⟩
   ·exact .inl h
   ·exact .inr ⟨List.mem_cons_of_mem _ h1,h2⟩
theorem closL_look {env:Env}{n:Str}{c:Addr}(hc:env.cells.lookup n=some c):∀ {names:List (Str×NameKind)} {acc:List (Str×Addr)},((n,NameKind.free)∈names\/acc.lookup n=some c)->(zbV env names acc).lookup n=some c
 | [],acc,h=>by
  rcases h with h|h
  ·exact absurd h (by simp)
  ·exact h
 | (m,k)::r,acc,h=>by
  unfold zbV;split
  ·rename_i hk;have hk':k= .free:=by simpa using hk
   refine closL_look hc ?_;by_cases hm:n=m
   ·subst hm;exact .inr (by rw [List.lookup_cons,beq_self_eq_true,hc];rfl)
   ·rcases h with h|h
    ·rcases List.mem_cons.mp h with e|h
     ·exact absurd (congrArg Prod.fst e) hm
     ·exact .inl h
    ·exact .inr (by rw [List.lookup_cons,beq_eq_false_iff_ne.mpr hm];exact h)
  ·rename_i hk;refine closL_look hc ?_;rcases h with h|h
   ·rcases List.mem_cons.mp h with e|h
    ·have:k= .free:=(congrArg Prod.snd e).symm;exact absurd (by simp [this]) hk
    ·exact .inl h
   ·exact .inr h
theorem zaX:∀ (names:List (Str×NameKind)) (n:Nat) (acc:List (Str×Addr)),cellsFrom n names acc=cellsFrom n names []++acc
 | [],_,_=>rfl
 | (m,k)::r,n,acc=>by
  unfold cellsFrom;split
  ·rw [zaX r _ ((m,n)::acc),zaX r _ [(m,n)],List.append_assoc];rfl
  ·exact zaX r n acc
theorem zaY:∀ {names:List (Str×NameKind)} {n:Nat} {acc:List (Str×Addr)} {p:Str×Addr},p∈cellsFrom n names acc->p∈acc\/(p.1,NameKind.cell)∈names
 | [],_,_,_,h=>.inl h
 | (m,k)::r,n,acc,p,h=>by
  unfold cellsFrom at h;split at h
  ·rename_i hk;have hk':k= .cell:=by simpa using hk
   rcases zaY h with h|h
   ·rcases List.mem_cons.mp h with e|h
    ·subst e;subst hk';exact .inr List.mem_cons_self
    ·exact .inl h
   ·exact .inr (List.mem_cons_of_mem _ h)
  ·rcases zaY h with h|h
   ·exact .inl h
   ·exact .inr (List.mem_cons_of_mem _ h)
theorem zbd {α:Type}{x:Str}:∀ {l l':List (Str×α)},(l++l').lookup x=(l.lookup x).or (l'.lookup x)
 | [],_=>rfl
 | (n,v)::r,l'=>by
  rw [List.cons_append,List.lookup_cons,List.lookup_cons];cases x==n
  ·exact zbd
  ·rfl
theorem zbF {α:Type}{x:Str}:∀ {l:List (Str×α)},(∀ v,(x,v)∉l)->l.lookup x=none
 | [],_=>rfl
 | (n,v)::r,h=>by
  rw [List.lookup_cons];have hn:(x==n)=false:=beq_eq_false_iff_ne.mpr fun e=>h v (by rw [e];exact List.mem_cons_self);rw [hn];exact zbF fun u hu=>h u (List.mem_cons_of_mem _ hu)
theorem zaM {α:Type}{x:Str}{v:α}:∀ {l:List (Str×α)},(l.map (·.1)).Nodup->(x,v)∈l->l.lookup x=some v
 | [],_,h=>absurd h (by simp)
 | (n,u)::r,nd,h=>by
  rw [List.map_cons,List.nodup_cons] at nd;rw [List.lookup_cons];rcases List.mem_cons.mp h with e|h
  ·cases e;rw [beq_self_eq_true]
  ·have hn:(x==n)=false:=beq_eq_false_iff_ne.mpr fun e=>nd.1 (by rw [<-e];exact List.mem_map.mpr ⟨(x,v),h,rfl⟩);rw [hn];exact zaM nd.2 h
theorem zfz {M:Model}{A:Around}{E:Value->Shared->Prop}{s:Shared}{scope:Scope}{globals:Addr}{clos:List (Str×Addr)}{qual:Str}{env:Env}{Q:Env->Shared->Prop}
  (hQ:Q {scope,locals:=s.heap.objs.size,globals,cells:=cellsFrom (s.heap.objs.size+1) scope.names clos,qual,func:=none,code:=env.code,frame:=env.frame,builtins:=env.builtins}
   {s with heap:=pushCells (s.heap.push {cls:=.type "dict",data:=.dict #[]}) scope.names}):
  wpAny M A (newFunctionEnv scope globals clos [] qual none .none (some env)) Q E s:=by
 simp only [newFunctionEnv,Option.isSome_some,if_true];refine wpAny_bind (wpAny_alloc ?_);refine wpAny_bind (wpAny_layCells _ (fun name kind cells=>by cases hkc:kind==NameKind.cell<;>simp [hkc]) _ _ _ _ ?_);rw [show ({s with heap:=s.heap.push {cls:=.type "dict",data:=.dict #[]}}:Shared).heap.objs.size=s.heap.objs.size+1 from Heap.size_push ..];exact wpAny_bind (wpAny_pure (wpAny_pure hQ))
end L2
namespace L2
open PySem PySem.Spec PyProof.Rows
noncomputable def zfc:List Str->Bool
 | []=>true
 |x::r=> !(r.any fun y=>y==x)&&zfc r
theorem zeb:∀ {l:List Str},zfc l=true->l.Nodup
 | [],_=>List.nodup_nil
 |x::r,h=>by
  unfold zfc at h;rw [Bool.and_eq_true] at h;refine List.nodup_cons.mpr ⟨fun hx=>?_,zeb h.2⟩;have h1:=h.1;rw [Bool.not_eq_true',List.any_eq_false] at h1;exact h1 x hx (beq_self_eq_true x)
noncomputable def zce (R NX:List Str)(inner outer:List (Str×NameKind)):Bool:=
 zfc (inner.map (·.1))&&(inner.all fun p=>p.2 != .free||outer.lookup p.1==some .cell||outer.lookup p.1==some .free)&&R.length==NX.length&&
  ((R.zip NX).all fun p=>match inner.lookup p.1 with
   |some .local=>false
   |some .cell=>false
   |some .free=>p.1==p.2
   |_=>true)
structure CompOk (R NX:List Str)(inner outer:List (Str×NameKind)):Prop where
 nd:(inner.map (·.1)).Nodup
 fr:∀ n,(n,NameKind.free)∈inner->outer.lookup n=some .cell\/outer.lookup n=some .free
 len:R.length=NX.length
 at':∀ (i:Nat) (x:Str),R[i]? =some x->(inner.lookup x=some .local->False)/\(inner.lookup x=some .cell->False)/\(inner.lookup x=some .free->NX[i]? =some x)
theorem zdg {R NX:List Str}{inner outer:List (Str×NameKind)}(h:zce R NX inner outer=true):CompOk R NX inner outer:=by
 unfold zce at h;simp only [Bool.and_eq_true] at h;obtain ⟨⟨⟨h1,h2⟩,h3⟩,h4⟩:=h;have hl:R.length=NX.length:=by simpa using h3
 refine ⟨zeb h1,fun n hn=>?_,hl,fun i x hx=>?_⟩
 ·have:=List.all_eq_true.mp h2 _ hn;simp only [Bool.or_eq_true] at this;rcases this with (z|z)|z
  ·simp at z
  ·exact .inl (by simpa using z)
  ·exact .inr (by simpa using z)
 ·have hi:i<R.length:=(List.getElem?_eq_some_iff.mp hx).1;have hi':i<NX.length:=by omega
  have hz:(R.zip NX)[i]? =some (x,NX[i]):=by
   rw [List.getElem?_zip_eq_some];exact ⟨hx,List.getElem?_eq_getElem hi'⟩
  have:=List.all_eq_true.mp h4 _ (List.mem_of_getElem? hz);dsimp only at this;refine ⟨fun e=>?_,fun e=>?_,fun e=>?_⟩
  ·rw [e] at this;cases this
  ·rw [e] at this;cases this
  ·rw [e] at this;have e2:x=NX[i]:=by simpa using this
   rw [List.getElem?_eq_getElem hi',<-e2]
noncomputable def cxC (X:Cx)(N:List Str)(scope:Scope)(fp:List Addr)(L:Addr)(s:Shared)(H:Hp):Cx where
 prog:=X.prog
 w:=X.w
 K:=X.K
 mg:=X.mg
 base:=X.base
 A:=X.A
 N:=N
 s₀:=s
 H₀:=H
 env:=compEnvC scope (cellsFrom (L+1) scope.names (zbV X.env scope.names [])) L X.env
 outer:=X.stack
 stack:=X.stack
 ex:=fp
 fn:=fun x=>scope.names.lookup x==some .cell
 calm:=X.calm
 pn:=[]
 xe:=noX
theorem zbo {scope:Scope}{env:Env}{x:Str}:(relabel scope env).names.lookup x=match scope.names.lookup x with
  |some .free=>if (env.scope.kind== .function&&env.kindOf x==some .cell)=true then some .cell else some .free
  |k=>k:=by
 unfold relabel;dsimp only;generalize scope.names=l
 induction l with
 |nil=>rfl
 |cons p r ih=>
  obtain ⟨n,k⟩:=p;rw [List.map_cons];by_cases hx:x=n
  ·subst hx;cases k<;>simp [List.lookup_cons]<;>split<;>simp_all
  ·have hb:(x==n)=false:=beq_eq_false_iff_ne.mpr hx;have e1:List.lookup x ((n,k)::r)=List.lookup x r:=by rw [List.lookup_cons,hb]
   rw [e1,<-ih];dsimp only;split<;>rw [List.lookup_cons,hb]
theorem n1 {a b:Nat}(h1:b+1+1<=a)(h2:a<b):False:=by omega
theorem n2 {a b:Nat}(h1:b+1+1<=a):b<=a:=by omega
theorem n3 {a b c:Nat}(h1:b+1+1<=a)(h2:c<b):a≠c:=by omega
theorem n4 {a b c:Nat}(h1:a<b)(h2:b<=c)(h3:c<=a):False:=by omega
theorem n5 {a b:Nat}(h1:a<b):a≠b+1:=by omega
section
variable {X:Cx}{pins:List (Addr×Obj)}{σ:St}{H:Hp}{s:Shared}
theorem Inv.closHas (I:Inv X pins σ H s){names:List (Str×NameKind)}(fr:∀ n,(n,NameKind.free)∈names->X.env.scope.names.lookup n=some .cell\/X.env.scope.names.lookup n=some .free):
  ∀ p∈names,p.2= .free->(X.env.cells.lookup p.1).isSome=true:=fun p hp e=>by
 obtain ⟨n,k⟩:=p;have e':k= .free:=e;subst e';obtain ⟨c,hc⟩:=I.ok.has n (fr n hp);rw [hc];rfl
theorem Inv.comp {R N tn:List Str}{scope:Scope}{fp:List Addr}{D:Addr}{lo:Obj}{h1:Heap}{tk:Nat}(I:Inv X pins σ H s)(hk:scope.kind= .function)(C:CompOk R X.N scope.names X.env.scope.names)(hN:N=tn++R)
  (hfp:∀ b∈fp,zgD X pins H b/\b<s.heap.objs.size)(hD:D=s.heap.objs.size)(hlo:∀ v,lo.data≠ .cell v)
  (hh:h1=pushCells ((s.heap.push lo).push {cls:=.type "dict",data:=.dict #[]}) scope.names)(hfl:lo.isFreed=false):
  Inv (cxC X N scope fp (D+1) s H) [(D,lo)] (List.replicate tn.length none++σ) H {s with heap:=h1,toks:=tk}:=by
 subst hD;have sz1:(s.heap.push lo).objs.size=s.heap.objs.size+1:=Heap.size_push ..;have sz2:((s.heap.push lo).push {cls:=.type "dict",data:=.dict #[]}).objs.size=s.heap.objs.size+1+1:=by rw [Heap.size_push,sz1]
 have k1:∀ b o,s.heap.get? b=some o->h1.get? b=some o:=fun b o e=>by
  rw [hh];exact pushCells_keeps _ _ _ _ (Heap.get?_push_of_some _ (Heap.get?_push_of_some _ e))
 have own:=cellsFrom_ok scope.names ((s.heap.push lo).push {cls:=.type "dict",data:=.dict #[]}) (s.heap.objs.size+1+1) [] ⟨fun _ _ hm=>(nomatch hm),List.Pairwise.nil⟩ (Nat.le_of_eq sz2.symm);rw [<-hh,sz2] at own;have hcl:(cxC X N scope fp (s.heap.objs.size+1) s H).env.cells=cellsFrom (s.heap.objs.size+1+1) scope.names []++zbV X.env scope.names []:=zaX ..;have cells:∀ x c,(cxC X N scope fp (s.heap.objs.size+1) s H).env.cells.lookup x=some c->((x,c)∈cellsFrom (s.heap.objs.size+1+1) scope.names []/\scope.names.lookup x=some .cell)\/(X.env.cells.lookup x=some c/\scope.names.lookup x=some .free):=fun x c e=>by
  rw [hcl,zbd] at e;cases q:(cellsFrom (s.heap.objs.size+1+1) scope.names []).lookup x with
  |some c'=>
   rw [q] at e;have e':c'=c:=Option.some.inj e;subst e';have m:=PySem.mem_of_lookup q;refine .inl ⟨m,?_⟩;rcases zaY m with z|z
   ·exact absurd z (by simp)
   ·exact zaM C.nd z
  |none=>
   rw [q] at e;have e':(zbV X.env scope.names []).lookup x=some c:=e;rcases zcE (PySem.mem_of_lookup e') with z|⟨z1,z2⟩
   ·exact absurd z (by simp)
   ·obtain ⟨c2,hc2⟩:=I.ok.has x (C.fr x z1);rw [hc2] at z2;have z2':c=c2:=z2;subst z2';exact .inr ⟨hc2,zaM C.nd z1⟩
 have lookC:∀ x c,scope.names.lookup x=some .free->X.env.cells.lookup x=some c->(cxC X N scope fp (s.heap.objs.size+1) s H).env.cells.lookup x=some c:=fun x c e1 e2=>by
  rw [hcl,zbd,zbF fun v hv=>?_]
  ·exact closL_look e2 (.inl (PySem.mem_of_lookup e1))
  ·rcases zaY hv with z|z
   ·exact absurd z (by simp)
   ·rw [zaM C.nd z] at e1;cases e1
 have kindEq:∀ x,(cxC X N scope fp (s.heap.objs.size+1) s H).env.kindOf x=(relabel scope X.env).names.lookup x:=fun _=>rfl;have kfree:∀ x,((cxC X N scope fp (s.heap.objs.size+1) s H).env.kindOf x=some .cell\/(cxC X N scope fp (s.heap.objs.size+1) s H).env.kindOf x=some .free)->scope.names.lookup x=some .cell\/scope.names.lookup x=some .free:=fun x e=>by
  rw [kindEq,zbo] at e
  revert e
  cases scope.names.lookup x with
  |none=>intro e;rcases e with e|e<;>cases e
  |some k=>cases k<;>intro e<;>first|exact .inl rfl|exact .inr rfl| (rcases e with e|e<;>cases e)
 have oldc:∀ x c,X.env.cells.lookup x=some c->c<s.heap.objs.size:=fun x c e=>by obtain ⟨v,q⟩:=I.cell x c e;exact q.lt
 have ownc:∀ x c,(x,c)∈cellsFrom (s.heap.objs.size+1+1) scope.names []->s.heap.objs.size+1+1<=c:=fun x c m=>(own.empty x c m).2;have nsL:h1.Ns (s.heap.objs.size+1) (fun _=>none):=by
  rw [hh];have q:=(Heap.Ns.new (s.heap.push lo) (.type "dict"));rw [sz1] at q;exact q.keeps (pushCells_keeps _ _)
 have fresh:∀ b,s.heap.objs.size<=b->H b=none:=fun b hb=>I.hok.fresh hb
 refine ⟨⟨I.ok.mod,?_,?_,?_,Nat.le_succ _,fun x y c e1 e2=>?_,fun x hx=>?_,fun x c hf e=>?_,I.ok.hd,I.ok.frames,.inl rfl,fun b hb=>⟨?_,fun x c e=>?_⟩,I.bs,Nat.le_trans I.ok.bsz I.sz,fun b o e hb=>?_,fun b hb=>?_,I.stack,I.stkFree⟩,
  rfl,I.bare,Un.kept k1,⟨_,nsL,fun i x v e1 e2 e3=>?_⟩,fun x c e=>?_,fresh _ (Nat.le_succ _),fun x c e=>?_,fun p hp=>?_,I.hok.kept k1,?_⟩
 ·exact hk
 ·exact I.ok.glob
 ·exact I.ok.blt
 ·rcases cells x c e1 with ⟨m1,_⟩|⟨m1,_⟩<;>rcases cells y c e2 with ⟨m2,_⟩|⟨m2,_⟩
  ·exact name_of_addr own.apart m1 m2
  ·exact (n1 (ownc x c m1) (oldc y c m2)).elim
  ·exact (n1 (ownc y c m2) (oldc x c m1)).elim
  ·exact I.ok.inj x y c m1 m2
 ·rcases kfree x hx with z|z
  ·obtain ⟨c,hc⟩:=Option.isSome_iff_exists.mp (PySem.W.cellsFrom_some scope.names (s.heap.objs.size+1+1) (zbV X.env scope.names []) (.inl z));exact ⟨c,hc⟩
  ·obtain ⟨c,hc⟩:=I.ok.has x (C.fr x (PySem.mem_of_lookup z));exact ⟨c,lookC x c z hc⟩
 ·rcases cells x c e with ⟨m1,_⟩|⟨_,m1⟩
  ·exact n2 (ownc x c m1)
  ·have hf':(scope.names.lookup x==some NameKind.cell)=true:=hf;rw [m1] at hf';cases hf'
 ·exact n5 (hfp b hb).2
 ·rcases cells x c e with ⟨m1,_⟩|⟨m1,_⟩
  ·exact n3 (ownc x c m1) (hfp b hb).2
  ·exact (hfp b hb).1.2.2.2.2.1 x c m1
 ·-- an object of the base is no iterator of ours
  obtain ⟨f0,f1,f2,f3,_⟩:=(hfp b hb).1;rcases f3 with z|z
  ·exact I.ok.noex b o e z
  ·exact n4 (Heap.lt_size e) I.ok.bsz z
 ·obtain ⟨f0,f1,f2,f3,_⟩:=(hfp b hb).1;intro z;rcases List.mem_cons.mp (I.stkSub b z) with e|e
  ·exact f1 e
  ·exact f2 e
 ·-- the names around
  have hi:tn.length<=i:=by
   by_cases hlt:i<tn.length
   ·rw [List.getElem?_append_left (by simpa using hlt),List.getElem?_replicate] at e2;split at e2<;>cases e2
   ·omega
  rw [List.getElem?_append_right (by simpa using hi),List.length_replicate] at e2;have e1':R[i - tn.length]? =some x:=by
   have e1'':N[i]? =some x:=e1;rw [hN,List.getElem?_append_right hi] at e1'';exact e1''
  obtain ⟨c1,c2,c3⟩:=C.at' _ x e1';have hfr:scope.names.lookup x=some .free:=by
   have e3':(relabel scope X.env).names.lookup x=some .local\/(relabel scope X.env).names.lookup x=some .cell\/(relabel scope X.env).names.lookup x=some .free:=e3;rw [zbo] at e3'
   revert c1 c2 e3'
   cases scope.names.lookup x with
   |none=>intro _ _ e;rcases e with e|e|e<;>cases e
   |some k=>cases k<;>intro c1 c2 e<;>first|rfl|exact absurd rfl c1|exact absurd rfl c2| (rcases e with e|e|e<;>cases e)
  have hX:=c3 hfr;obtain ⟨m,hn,hl⟩:=I.loc;have kX:=C.fr x (PySem.mem_of_lookup hfr);obtain ⟨u,r,l⟩:=hl _ x v hX e2 (kX.elim (fun z=>.inr (.inl z)) fun z=>.inr (.inr z));refine ⟨u,r,.inr ⟨?_,?_⟩⟩
  ·show (relabel scope X.env).names.lookup x=some .cell\/(relabel scope X.env).names.lookup x=some .free
   rw [zbo,hfr];dsimp only;split
   ·exact .inl rfl
   ·exact .inr rfl
  ·rcases l with ⟨l,_⟩|⟨_,c,hc,z⟩
   ·have l':X.env.scope.names.lookup x=some .local:=l;rcases kX with z|z<;>rw [z] at l'<;>cases l'
   ·exact ⟨c,lookC x c hfr hc,z.keeps k1⟩
 ·rcases cells x c e with ⟨m1,_⟩|⟨m1,_⟩
  ·exact ⟨none,(own.empty x c m1).1⟩
  ·obtain ⟨v,z⟩:=I.cell x c m1;exact ⟨v,z.keeps k1⟩
 ·rcases cells x c e with ⟨m1,_⟩|⟨m1,_⟩
  ·exact fresh c (n2 (ownc x c m1))
  ·exact I.freeC x c m1
 ·have hp':p∈[(s.heap.objs.size,lo)]:=hp;rw [List.mem_singleton] at hp';subst hp';refine ⟨?_,fresh _ (Nat.le_refl _),?_,?_,hlo⟩
  ·show h1.get? s.heap.objs.size=some lo
   rw [hh];exact pushCells_keeps _ _ _ _ (Heap.get?_push_of_some _ (Heap.get?_push_size _ hfl))
  ·show s.heap.objs.size≠s.heap.objs.size+1
   omega
  ·show s.heap.objs.size∉frs X.stack
   intro z;rcases List.mem_cons.mp (I.stkSub _ z) with e|e
   ·exact absurd I.lt (by rw [<-e];exact Nat.lt_irrefl _)
   ·exact I.nofs (Nat.le_refl _) e
 ·show (List.replicate tn.length none++σ).length=N.length
  rw [hN,List.length_append,List.length_replicate,List.length_append,I.len,C.len]
end
end L2
namespace L2
open PySem PySem.Spec PyProof.Rows
noncomputable def PCl (X:Cx)(ifs:List Expr)(t:TT):Prop:=
 ∀ (pins:List (Addr×Obj)) (s:Shared) (σ:St) (H:Hp) (Q:Bool->Hp->Prop),Inv X pins σ H s->t σ H Q->wpAny (model X.prog X.w) X.A (zbM ifs X.env) (TP X pins σ Q) X.xe s
noncomputable def zkk:TT:=fun _ H Q=>Q true H
theorem zhR {X:Cx}:PCl X [] zkk:=fun _ _ _ H _ I h=>zcC ⟨H,I,h⟩
noncomputable def zhS (wi:TI)(k:Nat)(g:TG)(tc:TT)(te:TE):TE:=fun σ H Q=>wi σ H fun J H1=>∃ W:Nat->Nat->List V->Hp->Prop,(∃ m,W 0 m [] H1)/\∀ i m ys H,W i m ys H->
 (J.stop i H/\ys.length<=sizeLine/\∀ p,H p=none->Q (.ref p) (upd H p (.lst ys)))\/
 (J.go i H/\ys.length<=sizeLine/\∃ N:List V->Hp->Prop,(∀ ys' H',N ys' H'->∃ m',m'<m/\W (i+1) m' ys' H')/\∀ x H',J.yld i H x H'->
  g x (List.replicate k none++σ) H' fun σ2 H2=>(σ2.drop k=σ/\σ2.length=k+σ.length)/\tc σ2 H2 fun b H3=>if b=true then te σ2 H3 fun y H4=>N (ys++[y]) H4 else N ys H3)
noncomputable abbrev zfd (its:List Value)(n:Nat):Obj:={cls:=.type "list",data:=.seq its.toArray n}
section
variable {X:Cx}{pins:List (Addr×Obj)}{σ:St}{H:Hp}{s:Shared}
theorem Inv.compDone {N:List Str}{scope:Scope}{fp:List Addr}{σ':St}{H':Hp}{s':Shared}{h':Heap}{its:List Value}{n:Nat}{ys:List V}(I:Inv X pins σ H s)(hfp:∀ b∈fp,zgD X pins H b)
  (I':Inv (cxC X N scope fp (s.heap.objs.size+1) s H) [(s.heap.objs.size,zfd its n)] σ' H' s')(r:Vals ys its)(hz:ys.length<=sizeLine)(hs:Heap.SameBut (s.heap.objs.size+1) s'.heap h'):
  H' s.heap.objs.size=none/\Inv X pins σ (upd H' s.heap.objs.size (.lst ys)) {s' with heap:=h'}:=by
 obtain ⟨p1,p2,p3,p4,p5⟩:=I'.pin (s.heap.objs.size,zfd its n) (by simp);have p1:s'.heap.get? s.heap.objs.size=some (zfd its n):=p1;have p2:H' s.heap.objs.size=none:=p2;have fL:H' (s.heap.objs.size+1)=none:=I'.free;have eD:h'.get? s.heap.objs.size=some (zfd its n):=(hs.2 _ (Nat.ne_of_lt (Nat.lt_succ_self _))).trans p1;have neD:∀ b o,s.heap.get? b=some o->b≠s.heap.objs.size:=fun b o e=>Nat.ne_of_lt (Heap.lt_size e);have neL:∀ b o,s.heap.get? b=some o->b≠s.heap.objs.size+1:=fun b o e=>Nat.ne_of_lt (Nat.lt_succ_of_lt (Heap.lt_size e));have neT:∀ b u,H b=some u->b≠s.heap.objs.size:=fun b u e=>zan e I.fresh;have B:Un (frs X.stack) fp H H' s.heap s'.heap:=I'.base;refine ⟨p2,I.call' (s':={s' with heap:=h'}) (ch:=fp) I'.os ⟨fun b o e n hb hx=>?_,fun b o e n hb hx=>?_,fun b o e n hx=>?_,fun b o e hx=>?_,fun b xs e=>?_,fun b o u e=>?_,fun b ps e=>?_⟩ (fun b u e=>?_) I'.bare fun b hb=>?_⟩
 ·exact (hs.2 b (neL b o e)).trans (B.keep b o e n hb hx)
 ·obtain ⟨sl,q⟩:=B.slot b o e n hb hx;exact ⟨sl,(hs.2 b (neL b o e)).trans q⟩
 ·rw [upd_ne (neD b o e)];exact B.free b o e n hx
 ·obtain ⟨o',q⟩:=B.there b o e hx;exact ⟨o',(hs.2 b (neL b o e)).trans q⟩
 ·rw [upd_ne (neT b _ e)];exact B.tups b xs e
 ·rw [upd_ne (neT b _ e)];exact B.frzs b o u e
 ·rw [upd_ne (neT b _ e)];exact B.tbls b ps e
 ·by_cases hb:b=s.heap.objs.size
  ·subst hb;rw [zas] at e;cases e;exact ⟨hz,its,n,r,eD⟩
  ·rw [upd_ne hb] at e;refine (I'.hok b u e).stay (fun c v hc q=>(hs.2 c ?_).trans q) (fun c q=>?_) fun c xs q=>?_
   ·rcases hc with z|z
    ·rw [z];exact zan e fL
    ·exact zan z fL
   ·rw [upd_ne (zan q p2)];exact q
   ·rw [upd_ne (zan q p2)];exact q
 ·obtain ⟨f0,f1,f2,f3,f4,f5⟩:=hfp b hb;exact ⟨f3,f1,f4,f5⟩
theorem zfe {N R tn:List Str}{scope:Scope}{pos:Pos}{tg elt iter:Expr}{ifs:List Expr}{g:TG}{tc:TT}{te:TE}{fp:List Addr}{it:Addr}{st:Nat->Heap->Prop}{J:It}{RR:Value->Addr->Result->Shared->Prop}{E:Value->Shared->Prop}
  {Q:VK}(hc:X.calm=true)(hk:scope.kind= .function)(C:CompOk R X.N scope.names X.env.scope.names)(hN:N=tn++R)
  (hg:∀ fp L s H,PG (cxC X N scope fp L s H) tg g)(ht:∀ fp L s H,PCl (cxC X N scope fp L s H) ifs tc)(he:∀ fp L s H,PE (cxC X N scope fp L s H) elt te)
  (I:Inv X pins σ H s)(T:Turn X.prog X.w X.K tg J fp it st)(st0:st 0 s.heap)(f0:∀ b∈fp,zgD X pins H b)
  (W:Nat->Nat->List V->Hp->Prop)(m0:Nat)(w0:W 0 m0 [] H)
  (turn:∀ i m ys H,W i m ys H->
   (J.stop i H/\ys.length<=sizeLine/\∀ p,H p=none->Q (.ref p) (upd H p (.lst ys)))\/
   (J.go i H/\ys.length<=sizeLine/\∃ N:List V->Hp->Prop,(∀ ys' H',N ys' H'->∃ m',m'<m/\W (i+1) m' ys' H')/\∀ x H',J.yld i H x H'->
    g x (List.replicate tn.length none++σ) H' fun σ2 H2=>(σ2.drop tn.length=σ/\σ2.length=tn.length+σ.length)/\tc σ2 H2 fun b H3=>if b=true then te σ2 H3 fun y H4=>N (ys++[y]) H4 else N ys H3))
  (hRR:∀ s' m,s'.heap.Ns (s.heap.objs.size+1) m->(∀ h',Heap.SameBut (s.heap.objs.size+1) s'.heap h'->∃ H',Inv X pins σ H' {s' with heap:=h'}/\H' (s.heap.objs.size+1)=none/\Q (.ref s.heap.objs.size) H')->RR (.ref s.heap.objs.size) (s.heap.objs.size+1) (.ok .next) s'):
  wpAny (model X.prog X.w) X.A (newList []) (fun acc s₃=>wpAny (model X.prog X.w) X.A (newFunctionEnv scope X.env.globals (zbV X.env scope.names []) [] X.env.qual none .none (some X.env)) (fun cenv s₄=>
   codeAny (model X.prog X.w) X.A (.compStart (.ListComp elt [⟨tg,iter,ifs,0⟩] scope pos) 0 (.ref it) acc {cenv with scope:=relabel scope X.env}) (RR acc cenv.locals) s₄) E s₃) E s:=by
 refine wpAny_newObj_type (zfz ?_);have sz1:(s.heap.push {cls:=.type "list",dict:=none,data:=.seq ([]:List Value).toArray}).objs.size=s.heap.objs.size+1:=Heap.size_push ..;dsimp only;rw [sz1];have hlt:∀ b∈fp,b<s.heap.objs.size:=fun b hb=>by obtain ⟨o,e,_⟩:=T.obj _ _ st0 b hb;exact Heap.lt_size e
 have I1:=Inv.comp (tn:=tn) (lo:=zfd [] 0) (tk:=s.toks) I hk C hN (fun b hb=>⟨f0 b hb,hlt b hb⟩) rfl (fun v z=>by cases z) rfl rfl;have stat:∀ {H':Hp} {q:List (Addr×Obj)},(∀ p∈q,s.heap.objs.size<=p.1)->(∀ b∈fp,H' b=none)->∀ b∈fp,zgD (cxC X N scope fp (s.heap.objs.size+1) s H) q H' b:=fun {H' q} hq hn b hb=>by
  obtain ⟨g0,g1,g2,g3,g4,g5⟩:=f0 b hb;refine ⟨hn b hb,Nat.ne_of_lt (Nat.lt_succ_of_lt (hlt b hb)),fun z=>?_,.inl hb,(I1.ok.exf b hb).2,fun p hp z=>?_⟩
  ·rcases List.mem_cons.mp (I.stkSub b z) with e|e
   ·exact g1 e
   ·exact g2 e
  ·have:=hq p hp;rw [z] at this;exact absurd (hlt b hb) (Nat.not_lt.mpr this)
 have onlyD:∀ {its:List Value} {n:Nat},∀ p∈[(s.heap.objs.size,zfd its n)],s.heap.objs.size<=p.1:=fun {its n} p hp=>by
  rw [List.mem_singleton] at hp;subst hp;exact Nat.le_refl _
 have run:∀ s3:Shared,s3= {s with heap:=pushCells ((s.heap.push (zfd [] 0)).push {cls:=.type "dict",data:=.dict #[]}) scope.names}->
   codeAny (model X.prog X.w) X.A (.compLoop (.ListComp elt [⟨tg,iter,ifs,0⟩] scope pos) 0 (.ref it) (.ref s.heap.objs.size) (cxC X N scope fp (s.heap.objs.size+1) s H).env) (RR (.ref s.heap.objs.size) (s.heap.objs.size+1)) s3:=by
  rintro s3 rfl
  refine zhQ (fun n s'=>∃ i ys σ' H' its nn,Inv (cxC X N scope fp (s.heap.objs.size+1) s H) [(s.heap.objs.size,zfd its nn)] σ' H' s'/\Vals ys its/\st i s'.heap/\(∀ b∈fp,H' b=none)/\σ'=List.replicate tn.length none++σ/\W i n ys H') ?_ m0
   ⟨0,[],_,H,[],0,I1,.nil,T.keep _ _ _ st0 (fun b hb o e=>pushCells_keeps _ _ _ _ (Heap.get?_push_of_some _ (Heap.get?_push_of_some _ e))),fun b hb=>(f0 b hb).1,rfl,w0⟩
  rintro n s4 ⟨i,ys,σ4,H4,its,nn,I4,r4,st4,fr4,rfl,w4⟩;rcases turn i n ys H4 w4 with ⟨stop,hz,q⟩|⟨go,hz,N4,hN4,step⟩
  ·refine thn (T.done (cxC X N scope fp (s.heap.objs.size+1) s H) rfl rfl rfl hc i _ s4 _ H4 noX I4 (stat onlyD fr4) st4 stop) fun rr s5 ⟨hr,I5⟩=>?_;subst hr;obtain ⟨m,hn,_⟩:=id I5.loc;refine hRR s5 m hn fun h' hs=>?_;obtain ⟨hD,I6⟩:=Inv.compDone I f0 I5 r4 hz hs;exact ⟨_,I6,(upd_ne (Nat.ne_of_gt (Nat.lt_succ_self _))).trans I5.free,q _ hD⟩
  ·refine thn (T.item (cxC X N scope fp (s.heap.objs.size+1) s H) rfl rfl rfl hc i _ s4 _ H4 noX I4 (stat onlyD fr4) st4 go) fun rr s5 ⟨u,hr,h5⟩=>?_;subst hr;refine thn h5 fun _ s6 zz=>?_;obtain ⟨x,H6,I6,r6,y6,st6,fr6⟩:=zz;have I6':=I6.pinned (stat onlyD fr6) (T.obj _ _ st6);refine thn (hg fp _ s H _ s6 _ H6 x u _ I6' r6 (step x H6 y6)) fun _ s7 ⟨σ7,H7,I7,⟨d7,l7⟩,q7⟩=>?_;refine thn (ht fp _ s H _ s7 σ7 H7 _ I7 q7) fun ok s8 zz=>?_;obtain ⟨H8,I8,q8⟩:=zz
   have again:∀ {q:List (Addr×Obj)} {s9:Shared} {H9:Hp} {its9:List Value} {nn9:Nat} {ys9:List V},Inv (cxC X N scope fp (s.heap.objs.size+1) s H) ([(s.heap.objs.size,zfd its9 nn9)]++pinsAt fp s6.heap) σ7 H9 s9->Vals ys9 its9->N4 ys9 H9->
     ∃ m,m<n/\∃ i ys σ' H' its nn,Inv (cxC X N scope fp (s.heap.objs.size+1) s H) [(s.heap.objs.size,zfd its nn)] σ' H' s9/\Vals ys its/\st i s9.heap/\(∀ b∈fp,H' b=none)/\σ'=List.replicate tn.length none++σ/\W i m ys H':=fun {q s9 H9 its9 nn9 ys9} I9 r9 n9=>by
    obtain ⟨m',hm,w9⟩:=hN4 ys9 H9 n9;refine ⟨m',hm,i+1,ys9,_,H9,its9,nn9,I9.unpinned.weak ?_ ?_,r9,T.keep _ _ _ st6 fun b hb o e=>(I9.pin (b,o) (List.mem_append_right _ (List.mem_append_right _ (zby hb e)))).1,fun b hb=>?_,rfl,w9⟩
    ·rw [List.length_append,List.length_replicate,l7]
    ·intro j v e;by_cases hj:j<tn.length
     ·rw [List.getElem?_append_left (by simpa using hj),List.getElem?_replicate] at e;split at e<;>cases e
     ·rw [List.getElem?_append_right (by simpa using Nat.le_of_not_lt hj),List.length_replicate,<-d7,List.getElem?_drop] at e;rw [<-e];congr 1;omega
    ·obtain ⟨o,e,d⟩:=T.obj _ _ st6 b hb;exact (I9.pin (b,o) (List.mem_append_right _ (List.mem_append_right _ (zby hb e)))).2.1
   cases ok with
   |false=>exact again (q:=[]) I8 r4 q8
   |true=>
    refine thn (he fp _ s H _ s8 σ7 H8 _ I8 q8) fun v s9 zz=>?_;obtain ⟨y,H9,I9,r9,q9⟩:=zz;have pl:s9.heap.PlainList s.heap.objs.size its.toArray:=⟨nn,(I9.pin (s.heap.objs.size,zfd its nn) (by simp)).1⟩;have len4:=r4.length;refine wpAny_list_append_plain (hsz:=by rw [List.size_toArray,<-len4];exact hz) pl fun h' ⟨nn',e'⟩ sb=>?_;obtain ⟨z1,z2,z3,z4,z5⟩:=I9.pin (s.heap.objs.size,zfd its nn) (by simp);have neD:∀ p∈pinsAt fp s6.heap,p.1≠s.heap.objs.size:=fun p hp z=>by
     have:=hlt p.1 (zdZ hp).1;rw [z] at this;exact absurd this (Nat.lt_irrefl _)
    have Ia:Inv (cxC X N scope fp (s.heap.objs.size+1) s H) (pinsAt fp s6.heap) σ7 H9 s9:=I9.pins_of fun p hp=>I9.pin p (List.mem_append_right _ (List.mem_append_right _ hp))
    have Ib:Inv (cxC X N scope fp (s.heap.objs.size+1) s H) (pinsAt fp s6.heap) σ7 H9 {s9 with heap:=h'}:=Ia.turned (t':=s9.toks) (it:=s.heap.objs.size) (fun b o hb e=>(sb.2 b hb).trans e) z2 z3 (.inr (Nat.le_refl _))
     (fun x c e z=>by
      obtain ⟨v',oc,ho,hd⟩:=Ia.cell x c e;rw [z] at ho;have z1':s9.heap.get? s.heap.objs.size=some (zfd its nn):=z1;rw [z1'] at ho;have ho':=Option.some.inj ho;rw [<-ho'] at hd;cases hd) (fun p hp=>neD p hp)
    refine again (q:=[]) (its9:=its++[v]) (nn9:=nn') (Ib.pins_of fun p hp=>?_) (r4.append (.cons r9 .nil)) q9;rcases List.mem_append.mp hp with hp|hp
    ·rw [List.mem_singleton] at hp;subst hp;refine ⟨?_,z2,z3,z4,fun v z=>by cases z⟩;show h'.get? s.heap.objs.size=some (zfd (its++[v]) nn')
     rw [e'];simp
    ·exact Ib.pin p (List.mem_append_right _ hp)
 exact codeAny_compStart_list (run _ rfl) (T.self _ 0 _ _ _ (T.keep _ _ _ st0 (fun b hb o e=>pushCells_keeps _ _ _ _ (Heap.get?_push_of_some _ (Heap.get?_push_of_some _ e)))) (run _ rfl))
end
section
variable {X:Cx}{N R tn:List Str}{scope:Scope}{pos:Pos}{tg elt iter:Expr}{ifs:List Expr}{wi:TI}{g:TG}{tc:TT}{te:TE}
theorem zec {R NX:List Str}{inner outer:List (Str×NameKind)}(C:CompOk R NX inner outer):∀ x∈inner,x.2= .local->inner.lookup x.1=some .local:=fun x hx e=>by
 obtain ⟨n,k⟩:=x;have e':k= .local:=e;subst e';exact zaM C.nd hx
theorem zhT (hc:X.calm=true)(hi:PI X tg iter wi)(hN:N=tn++R)(hch:zce R X.N scope.names X.env.scope.names=true)
  (hg:∀ fp L s H,PG (cxC X N scope fp L s H) tg g)(ht:∀ fp L s H,PCl (cxC X N scope fp L s H) ifs tc)(he:∀ fp L s H,PE (cxC X N scope fp L s H) elt te)
  (hk:scope.kind= .function:=by rfl)(hs:∀ x,foldedSetIterable iter X.env x=pure x:=by intro _;rfl):PE X (.ListComp elt [⟨tg,iter,ifs,0⟩] scope pos) (zhS wi tn.length g tc te):=by
 intro pins s σ H Q I h;have C:=zdg hch;rw [eval_ListComp];refine wpAny_comprehension_free (use:=none) rfl hs (zbW (I.closHas C.fr)) hk (zec C) (thn (hi pins s σ H _ I h) fun v s1 h1=>thn h1 fun itv s2 h2=>?_);obtain ⟨it,fp,st,J,H2,e,I2,T,st2,f2,W,⟨m0,w0⟩,turn⟩:=h2;subst e;refine zfe (Q:=Q) (RR:=fun acc C=>compPost (model X.prog X.w) X.A X.xe none (EP X pins σ Q) acc C) hc hk C hN hg ht he I2 T st2 f2 W m0 w0 turn fun s' m hn q=>?_;exact ⟨m,hn,fun h' hs'=>let ⟨H',I',_,q'⟩:=q h' hs';⟨.ref s2.heap.objs.size,H',I',rfl,q'⟩⟩
theorem zhU {i:Nat}{y:Str}{py spos:Pos}(hc:X.calm=true)(hX:X.N.Nodup)(hy:X.N[i]? =some y)(hl:Loc X.env.scope y)(hi:PI X tg iter wi)(hN:N=tn++R)(hch:zce R X.N scope.names X.env.scope.names=true)
  (hg:∀ fp L s H,PG (cxC X N scope fp L s H) tg g)(ht:∀ fp L s H,PCl (cxC X N scope fp L s H) ifs tc)(he:∀ fp L s H,PE (cxC X N scope fp L s H) elt te)
  (hsw:swapsWith (.ListComp elt [⟨tg,iter,ifs,0⟩] scope pos) (some (.Name y py)) spos.line X.env=pure true:=by rfl)
  (hf:X.fn y=true\/X.env.scope.names.lookup y=some .local:=by first|exact .inl rfl|exact .inr rfl|assumption)
  (hk:scope.kind= .function:=by rfl)(hs:∀ x,foldedSetIterable iter X.env x=pure x:=by intro _;rfl):PS X (.Assign [.Name y py] (.ListComp elt [⟨tg,iter,ifs,0⟩] scope pos) spos) (zkb (zhS wi tn.length g tc te) (zeJ i)):=by
 intro pins s σ H D I h;have C:=zdg hch;rw [exec_Assign_Name_used _ _ _ _ hsw];refine wpAny_bind (wpAny_standAt (wpAny_bind ?_));show wpAny _ X.A (do let _ <-comprehension (.ListComp elt [⟨tg,iter,ifs,0⟩] scope pos) scope X.env _ (newList []) false (eval iter X.env) (some (assign (.Name y py) X.env))) _ _ s
 refine wpAny_bind (wpAny_mono (wpAny_comprehension_free (use:=some (assign (.Name y py) X.env)) (Q:=fun _ s'=>SP X pins D .next s') rfl hs (zbW (I.closHas C.fr)) hk (zec C)
  (thn (hi pins s σ H _ I h) fun v s1 h1=>thn h1 fun itv s2 h2=>?_)) (fun _ s' hq=>wpAny_pure (wpAny_pure hq)) fun _ _ e=>e)
 obtain ⟨it,fp,st,J,H2,e,I2,T,st2,f2,W,⟨m0,w0⟩,turn⟩:=h2;subst e;refine zfe (Q:=fun x H'=>zeJ i x σ H' D.nx) (RR:=fun acc C=>compPost (model X.prog X.w) X.A X.xe (some (assign (.Name y py) X.env)) (fun _ s'=>SP X pins D .next s') acc C) hc hk C hN hg ht he I2 T st2 f2 W m0 w0 turn fun s' m hn q=>?_;obtain ⟨H3,I3,hH,q3⟩:=q s'.heap (Heap.SameBut.refl ..);have q3:D.nx (σ.set i (some (.ref s2.heap.objs.size))) H3:=q3;show wpAny _ X.A (assign (.Name y py) X.env (.ref s2.heap.objs.size)) _ _ s'
 refine wpAny_assign_Name (zdX (v:=.ref s2.heap.objs.size) I3 hX hy hl rfl (fun s4 I4 zz=>?_) hf);obtain ⟨a,sb,ha⟩:=zz;have below:∀ b o,s2.heap.get? b=some o->b<s2.heap.objs.size+1:=fun b o e=>Nat.lt_succ_of_lt (Heap.lt_size e);obtain ⟨m2,⟨oL,_,_,hoL,_⟩,_⟩:=id I2.loc;have aL:X.env.locals≠s2.heap.objs.size+1:=Nat.ne_of_lt (below _ _ hoL);have aC:∀ x c,X.env.cells.lookup x=some c->c≠s2.heap.objs.size+1:=fun x c e=>by
  obtain ⟨v,oc,ho,_⟩:=I2.cell x c e;exact Nat.ne_of_lt (below _ _ ho)
 have ne:s2.heap.objs.size+1≠a:=by
  rcases ha with z|z
  ·rw [z];exact Ne.symm aL
  ·exact Ne.symm (aC _ _ z)
 refine ⟨m,hn.sameBut sb ne,fun h' hs'=>⟨_,H3,I4.turned (t':=s4.toks) (it:=s2.heap.objs.size+1) (fun b o hb e=>(hs'.2 b hb).trans e) hH (Ne.symm aL) (.inr (Nat.le_trans I2.sz (Nat.le_succ _))) aC (fun p hp=>?_),q3⟩⟩;exact Nat.ne_of_lt (below _ _ (I2.pin p hp).1)
end
end L2
namespace VL
open PySem PySem.Spec PyProof.Rows L2
inductive D where
 |non|bl (b:Bool)|int (i:Int)|str (x:Str)|tup (xs:List D)|lst (xs:List D)
  |ins (c:Addr)
inductive FD where
 |non|int (i:Int)|tup (is:List Int)
 deriving DecidableEq
inductive Md where
 |sh|o1|ow
  |oa (a:Addr)
  |dw (t:Bool)(kvs:List (List Int×FD))|ds (t:Bool)(kvs:List (List Int×FD))
 deriving DecidableEq
noncomputable def zlf:Md->Bool
 | .ow=>true
 | .oa _=>true
 |_=>false
mutual
noncomputable def D.flat:D->Bool
 | .tup xs=>flats xs
 | .lst _=>false
 |_=>true
noncomputable def flats:List D->Bool
 | []=>true
 |x::r=>D.flat x&&flats r
end
mutual
noncomputable def Rep (K:PySem.W.Frag)(F H:Hp):D->V->Prop
 | .non,v=>v= .non
 | .bl b,v=>v= .bl b
 | .int i,v=>v= .int i
 | .str x,v=>v= .str x
 | .ins c,v=>∃ a dx,v= .ref a/\H a=some (.ins c dx [])
 | .tup xs,v=>∃ a vs,v= .ref a/\SqT K H a vs/\Reps K F H xs vs
 | .lst xs,v=>∃ a vs,v= .ref a/\SqL K F a vs/\Reps K F H xs vs
noncomputable def Reps (K:PySem.W.Frag)(F H:Hp):List D->List V->Prop
 | [],vs=>vs=[]
 |x::xs,vs=>∃ v r,vs=v::r/\Rep K F H x v/\Reps K F H xs r
end
mutual
noncomputable def RepD (K:PySem.W.Frag)(F H:Hp):D->V->List Addr->Prop
 | .non,v,os=>v= .non/\os=[]
 | .bl b,v,os=>v= .bl b/\os=[]
 | .int i,v,os=>v= .int i/\os=[]
 | .str x,v,os=>v= .str x/\os=[]
 | .ins c,v,os=>(∃ a dx,v= .ref a/\H a=some (.ins c dx []))/\os=[]
 | .tup xs,v,os=>∃ a vs,v= .ref a/\SqT K H a vs/\RepDs K F H xs vs os
 | .lst xs,v,os=>∃ a vs o,v= .ref a/\os=a::o/\H a=some (.lst vs)/\F a=none/\RepDs K F H xs vs o
noncomputable def RepDs (K:PySem.W.Frag)(F H:Hp):List D->List V->List Addr->Prop
 | [],vs,os=>vs=[]/\os=[]
 |x::xs,vs,os=>∃ v r o1 o2,vs=v::r/\os=o1++o2/\RepD K F H x v o1/\RepDs K F H xs r o2
end
noncomputable def RepM (K:PySem.W.Frag)(F H:Hp):Md->D->V->List Addr->Prop
 | .sh,d,v,os=>Rep K F H d v/\os=[]
 | .o1,d,v,os=>∃ xs a vs,d= .lst xs/\v= .ref a/\os=[a]/\H a=some (.lst vs)/\F a=none/\Reps K F H xs vs
 | .ow,d,v,os=>RepD K F H d v os
 | .oa a,d,v,os=>v= .ref a/\RepD K F H d v os
 | .dw _ _,_,_,_=>False
 | .ds _ _,_,_,_=>False
structure Tp (K:PySem.W.Frag)(H H':Hp):Prop where
 tup:∀ a vs,SqT K H a vs->SqT K H' a vs
 ins:∀ a c dx,H a=some (.ins c dx [])->H' a=some (.ins c dx [])
theorem Tp.trans {K:PySem.W.Frag}{H H' H'':Hp}(h:Tp K H H')(k:Tp K H' H''):Tp K H H'':=⟨fun a vs q=>k.tup a vs (h.tup a vs q),fun a c dx q=>k.ins a c dx (h.ins a c dx q)⟩
theorem Tp.of {K:PySem.W.Frag}{H H':Hp}(h:Same H H'):Tp K H H':=by
 refine ⟨fun a vs q=>?_,fun a c dx q=>h _ _ q⟩;rcases q with (q|⟨o,q⟩)|q
 ·exact .inl (.inl (h _ _ q))
 ·exact .inl (.inr ⟨o,h _ _ q⟩)
 ·exact .inr q
theorem Tp.updN {K:PySem.W.Frag}{H:Hp}{a:Addr}{u o:HO}(h:H a=some u)(n1:∀ xs,u≠ .tup xs)(n2:∀ x y,u≠ .frz x y)(n3:∀ c dx,u≠ .ins c dx []:=by intro c dx z;cases z):Tp K H (upd H a o):=by
 refine ⟨fun b ws q=>?_,fun b c dx q=>(upd_ne fun z=>n3 c dx (Option.some.inj (by rw [<-h,<-z];exact q))).trans q⟩;have ne:∀ z,H b=some z->u≠z->b≠a:=fun z e n y=>by
  rw [y,h] at e;exact n (Option.some.inj e)
 rcases q with (q|⟨o',q⟩)|q
 ·exact .inl (.inl (by rw [upd_ne (ne _ q (n1 _))];exact q))
 ·exact .inl (.inr ⟨o',by rw [upd_ne (ne _ q (n2 _ _))];exact q⟩)
 ·exact .inr q
theorem Tp.upd {K:PySem.W.Frag}{H:Hp}{a:Addr}{vs:List V}{o:HO}(h:H a=some (.lst vs)):Tp K H (upd H a o):=by
 refine ⟨fun b ws q=>?_,fun b c dx q=>(upd_ne fun z=>by rw [z,h] at q;cases q).trans q⟩;have ne:∀ u,H b=some u->(∀ zs,u≠ .lst zs)->b≠a:=fun u e n z=>by
  rw [z,h] at e;exact n vs (Option.some.inj e).symm
 rcases q with (q|⟨o',q⟩)|q
 ·exact .inl (.inl (by rw [upd_ne (ne _ q (by intro zs z;cases z))];exact q))
 ·exact .inl (.inr ⟨o',by rw [upd_ne (ne _ q (by intro zs z;cases z))];exact q⟩)
 ·exact .inr q
section
variable {K:PySem.W.Frag}
mutual
theorem Rep.mono {F F' H H':Hp}(hF:Same F F')(hT:Tp K H H'):∀ (d:D) (v:V),Rep K F H d v->Rep K F' H' d v
 | .non,_,h=>h
 | .bl _,_,h=>h
 | .int _,_,h=>h
 | .str _,_,h=>h
 | .ins c,v,h=>by
  unfold Rep at h ⊢;obtain ⟨a,dx,e,q⟩:=h;exact ⟨a,dx,e,hT.ins a c dx q⟩
 | .tup xs,v,h=>by
  unfold Rep at h ⊢;obtain ⟨a,vs,e,q,r⟩:=h;exact ⟨a,vs,e,hT.tup a vs q,Reps.mono hF hT xs vs r⟩
 | .lst xs,v,h=>by
  unfold Rep at h ⊢;obtain ⟨a,vs,e,q,r⟩:=h;exact ⟨a,vs,e,hF.seq q,Reps.mono hF hT xs vs r⟩
theorem Reps.mono {F F' H H':Hp}(hF:Same F F')(hT:Tp K H H'):∀ (xs:List D) (vs:List V),Reps K F H xs vs->Reps K F' H' xs vs
 | [],_,h=>h
 |x::xs,vs,h=>by
  unfold Reps at h ⊢;obtain ⟨v,r,e,a,b⟩:=h;exact ⟨v,r,e,Rep.mono hF hT x v a,Reps.mono hF hT xs r b⟩
end
mutual
theorem RepD.read {F H:Hp}:∀ (d:D) (v:V) (os:List Addr),RepD K F H d v os->Rep K H H d v
 | .non,_,_,h=>h.1
 | .bl _,_,_,h=>h.1
 | .int _,_,_,h=>h.1
 | .str _,_,_,h=>h.1
 | .ins c,v,os,h=>by unfold RepD at h;unfold Rep;exact h.1
 | .tup xs,v,os,h=>by
  unfold RepD at h;unfold Rep;obtain ⟨a,vs,e,q,r⟩:=h;exact ⟨a,vs,e,q,RepDs.read xs vs os r⟩
 | .lst xs,v,os,h=>by
  unfold RepD at h;unfold Rep;obtain ⟨a,vs,o,e,_,q,_,r⟩:=h;exact ⟨a,vs,e,SqL.of q,RepDs.read xs vs o r⟩
theorem RepDs.read {F H:Hp}:∀ (xs:List D) (vs:List V) (os:List Addr),RepDs K F H xs vs os->Reps K H H xs vs
 | [],_,_,h=>h.1
 |x::xs,vs,os,h=>by
  unfold RepDs at h;unfold Reps;obtain ⟨v,r,o1,o2,e,_,a,b⟩:=h;exact ⟨v,r,e,RepD.read x v o1 a,RepDs.read xs r o2 b⟩
end
mutual
theorem RepD.stay {F F' H H':Hp}(hT:Tp K H H'):∀ (d:D) (v:V) (os:List Addr),RepD K F H d v os->(∀ a∈os,H' a=H a/\F' a=none)->RepD K F' H' d v os
 | .non,_,_,h,_=>h
 | .bl _,_,_,h,_=>h
 | .int _,_,_,h,_=>h
 | .str _,_,_,h,_=>h
 | .ins c,v,os,h,_=>by
  unfold RepD at h ⊢;obtain ⟨⟨a,dx,e,q⟩,eo⟩:=h;exact ⟨⟨a,dx,e,hT.ins a c dx q⟩,eo⟩
 | .tup xs,v,os,h,k=>by
  unfold RepD at h ⊢;obtain ⟨a,vs,e,q,r⟩:=h;exact ⟨a,vs,e,hT.tup a vs q,RepDs.stay hT xs vs os r k⟩
 | .lst xs,v,os,h,k=>by
  unfold RepD at h ⊢;obtain ⟨a,vs,o,e,eo,q,f,r⟩:=h;subst eo;exact ⟨a,vs,o,e,rfl,(k a List.mem_cons_self).1.trans q,(k a List.mem_cons_self).2,RepDs.stay hT xs vs o r fun b hb=>k b (List.mem_cons_of_mem _ hb)⟩
theorem RepDs.stay {F F' H H':Hp}(hT:Tp K H H'):∀ (xs:List D) (vs:List V) (os:List Addr),RepDs K F H xs vs os->(∀ a∈os,H' a=H a/\F' a=none)->RepDs K F' H' xs vs os
 | [],_,_,h,_=>h
 |x::xs,vs,os,h,k=>by
  unfold RepDs at h ⊢;obtain ⟨v,r,o1,o2,e,eo,a,b⟩:=h;subst eo;exact ⟨v,r,o1,o2,e,rfl,RepD.stay hT x v o1 a fun c hc=>k c (List.mem_append_left _ hc),RepDs.stay hT xs r o2 b fun c hc=>k c (List.mem_append_right _ hc)⟩
end
mutual
theorem RepD.there {F H:Hp}:∀ (d:D) (v:V) (os:List Addr),RepD K F H d v os->∀ a∈os,F a=none/\∃ vs,H a=some (.lst vs)
 | .non,_,_,h=>by rw [h.2];simp
 | .bl _,_,_,h=>by rw [h.2];simp
 | .int _,_,_,h=>by rw [h.2];simp
 | .str _,_,_,h=>by rw [h.2];simp
 | .ins _,_,_,h=>by unfold RepD at h;rw [h.2];simp
 | .tup xs,v,os,h=>by
  unfold RepD at h;obtain ⟨a,vs,e,q,r⟩:=h;exact RepDs.there xs vs os r
 | .lst xs,v,os,h=>by
  unfold RepD at h;obtain ⟨a,vs,o,e,eo,q,f,r⟩:=h;subst eo;intro b hb;rcases List.mem_cons.mp hb with z|z
  ·subst z;exact ⟨f,vs,q⟩
  ·exact RepDs.there xs vs o r b z
theorem RepDs.there {F H:Hp}:∀ (xs:List D) (vs:List V) (os:List Addr),RepDs K F H xs vs os->∀ a∈os,F a=none/\∃ vs,H a=some (.lst vs)
 | [],_,_,h=>by rw [h.2];simp
 |x::xs,vs,os,h=>by
  unfold RepDs at h;obtain ⟨v,r,o1,o2,e,eo,a,b⟩:=h;subst eo;intro c hc;rcases List.mem_append.mp hc with z|z
  ·exact RepD.there x v o1 a c z
  ·exact RepDs.there xs r o2 b c z
end
mutual
theorem RepD.give {F F' H:Hp}:∀ (d:D) (v:V) (os:List Addr),RepD K F H d v os->(∀ a∈os,F' a=H a)->Rep K F' H d v
 | .non,_,_,h,_=>h.1
 | .bl _,_,_,h,_=>h.1
 | .int _,_,_,h,_=>h.1
 | .str _,_,_,h,_=>h.1
 | .ins c,v,os,h,_=>by unfold RepD at h;unfold Rep;exact h.1
 | .tup xs,v,os,h,k=>by
  unfold RepD at h;unfold Rep;obtain ⟨a,vs,e,q,r⟩:=h;exact ⟨a,vs,e,q,RepDs.give xs vs os r k⟩
 | .lst xs,v,os,h,k=>by
  unfold RepD at h;unfold Rep;obtain ⟨a,vs,o,e,eo,q,f,r⟩:=h;subst eo;exact ⟨a,vs,e,SqL.of ((k a List.mem_cons_self).trans q),RepDs.give xs vs o r fun b hb=>k b (List.mem_cons_of_mem _ hb)⟩
theorem RepDs.give {F F' H:Hp}:∀ (xs:List D) (vs:List V) (os:List Addr),RepDs K F H xs vs os->(∀ a∈os,F' a=H a)->Reps K F' H xs vs
 | [],_,_,h,_=>h.1
 |x::xs,vs,os,h,k=>by
  unfold RepDs at h;unfold Reps;obtain ⟨v,r,o1,o2,e,eo,a,b⟩:=h;subst eo;exact ⟨v,r,e,RepD.give x v o1 a fun c hc=>k c (List.mem_append_left _ hc),RepDs.give xs r o2 b fun c hc=>k c (List.mem_append_right _ hc)⟩
end
mutual
theorem Rep.own {F H F':Hp}:∀ (d:D) (v:V),Rep K F H d v->d.flat=true->RepD K F' H d v []
 | .non,_,h,_=>⟨h,rfl⟩
 | .bl _,_,h,_=>⟨h,rfl⟩
 | .int _,_,h,_=>⟨h,rfl⟩
 | .str _,_,h,_=>⟨h,rfl⟩
 | .ins c,v,h,_=>by unfold Rep at h;unfold RepD;exact ⟨h,rfl⟩
 | .tup xs,v,h,f=>by
  unfold Rep at h;unfold RepD;unfold D.flat at f;obtain ⟨a,vs,e,q,r⟩:=h;exact ⟨a,vs,e,q,Reps.own xs vs r f⟩
 | .lst xs,v,h,f=>by
  unfold D.flat at f;cases f
theorem Reps.own {F H F':Hp}:∀ (xs:List D) (vs:List V),Reps K F H xs vs->flats xs=true->RepDs K F' H xs vs []
 | [],_,h,_=>⟨h,rfl⟩
 |x::xs,vs,h,f=>by
  unfold Reps at h;unfold RepDs;unfold flats at f;rw [Bool.and_eq_true] at f;obtain ⟨v,r,e,a,b⟩:=h;exact ⟨v,r,[],[],e,rfl,Rep.own x v a f.1,Reps.own xs r b f.2⟩
end
mutual
theorem Rep.flatF {F H F':Hp}:∀ (d:D) (v:V),Rep K F H d v->d.flat=true->Rep K F' H d v
 | .non,_,h,_=>h
 | .bl _,_,h,_=>h
 | .int _,_,h,_=>h
 | .str _,_,h,_=>h
 | .ins c,v,h,_=>by unfold Rep at h ⊢;exact h
 | .tup xs,v,h,f=>by
  unfold Rep at h ⊢;unfold D.flat at f;obtain ⟨a,vs,e,q,r⟩:=h;exact ⟨a,vs,e,q,Reps.flatF xs vs r f⟩
 | .lst xs,v,h,f=>by
  unfold D.flat at f;cases f
theorem Reps.flatF {F H F':Hp}:∀ (xs:List D) (vs:List V),Reps K F H xs vs->flats xs=true->Reps K F' H xs vs
 | [],_,h,_=>h
 |x::xs,vs,h,f=>by
  unfold Reps at h ⊢;unfold flats at f;rw [Bool.and_eq_true] at f;obtain ⟨v,r,e,a,b⟩:=h;exact ⟨v,r,e,Rep.flatF x v a f.1,Reps.flatF xs r b f.2⟩
end
theorem RepM.read {F H:Hp}(hs:Same F H){m:Md}{d:D}{v:V}{os:List Addr}(h:RepM K F H m d v os):Rep K H H d v:=by
 cases m with
 |dw t k=>exact h.elim
 |ds t k=>exact h.elim
 |sh=>exact Rep.mono hs (Tp.of (Same.refl H)) d v h.1
 |ow=>exact RepD.read d v os h
 |oa a=>exact RepD.read d v os h.2
 |o1=>
  obtain ⟨xs,a,vs,rfl,rfl,rfl,q,f,r⟩:=h;unfold Rep;exact ⟨a,vs,rfl,SqL.of q,Reps.mono hs (Tp.of (Same.refl H)) xs vs r⟩
theorem RepM.stay {F F' H H':Hp}(hT:Tp K H H')(hF:Same F F'){m:Md}{d:D}{v:V}{os:List Addr}(h:RepM K F H m d v os)(k:∀ a∈os,H' a=H a/\F' a=none):RepM K F' H' m d v os:=by
 cases m with
 |dw t k=>exact h.elim
 |ds t k=>exact h.elim
 |sh=>exact ⟨Rep.mono hF hT d v h.1,h.2⟩
 |ow=>exact RepD.stay hT d v os h k
 |oa a=>exact ⟨h.1,RepD.stay hT d v os h.2 k⟩
 |o1=>
  obtain ⟨xs,a,vs,rfl,rfl,rfl,q,f,r⟩:=h;obtain ⟨k1,k2⟩:=k a List.mem_cons_self;exact ⟨xs,a,vs,rfl,rfl,rfl,k1.trans q,k2,Reps.mono hF hT xs vs r⟩
theorem RepM.there {F H:Hp}{m:Md}{d:D}{v:V}{os:List Addr}(h:RepM K F H m d v os):∀ a∈os,F a=none/\∃ vs,H a=some (.lst vs):=by
 cases m with
 |dw t k=>exact h.elim
 |ds t k=>exact h.elim
 |sh=>rw [h.2];simp
 |ow=>exact RepD.there d v os h
 |oa a=>exact RepD.there d v os h.2
 |o1=>
  obtain ⟨xs,a,vs,rfl,rfl,rfl,q,f,r⟩:=h;intro b hb;rw [List.mem_singleton] at hb;subst hb;exact ⟨f,vs,q⟩
theorem RepM.give {F F' H:Hp}(hF:Same F F'){m:Md}{d:D}{v:V}{os:List Addr}(h:RepM K F H m d v os)(k:∀ a∈os,F' a=H a):RepM K F' H .sh d v []:=by
 cases m with
 |dw t k=>exact h.elim
 |ds t k=>exact h.elim
 |sh=>exact ⟨Rep.mono hF (Tp.of (Same.refl H)) d v h.1,rfl⟩
 |ow=>exact ⟨RepD.give d v os h k,rfl⟩
 |oa a=>exact ⟨RepD.give d v os h.2 k,rfl⟩
 |o1=>
  obtain ⟨xs,a,vs,rfl,rfl,rfl,q,f,r⟩:=h;refine ⟨?_,rfl⟩;unfold Rep;exact ⟨a,vs,rfl,SqL.of ((k a List.mem_cons_self).trans q),Reps.mono hF (Tp.of (Same.refl H)) xs vs r⟩
end
noncomputable abbrev St:=L2.St
noncomputable abbrev LSt:=List (Option (Md×D))
noncomputable def RepF (K:PySem.W.Frag)(H:Hp):FD->V->Prop
 | .non,v=>v= .non
 | .int i,v=>v= .int i
 | .tup is,v=>∃ b,v= .ref b/\SqT K H b (is.map V.int)
noncomputable def DIn (K:PySem.W.Frag)(F H:Hp)(a:Addr):Bool->List (List Int×FD)->Prop
 |false,kvs=>∃ kv:List (Key×V),F a=some (.dK kv)/\Paired (fun (p:List Int×FD) (q:Key×V)=>(∃ i,p.1=[i]/\q.1=Sum.inl i)/\RepF K H p.2 q.2) kvs kv
 |true,kvs=>∃ xs:RwT,F a=some (.ext (zle a xs))/\Paired (fun (p:List Int×FD) (q:List Int×Addr×Value)=>p.1=q.1/\SqT K H q.2.1 (p.1.map V.int)/\∃ v,RelV v q.2.2/\RepF K H p.2 v) kvs xs
noncomputable def RepS (K:PySem.W.Frag)(F H:Hp):Md->D->V->List Addr->Prop
 | .dw t kvs,d,v,os=>d= .non/\∃ a,v= .ref a/\os=[a]/\F a=none/\DIn K H H a t kvs
 | .ds t kvs,d,v,os=>d= .non/\∃ a,v= .ref a/\os=[]/\DIn K F H a t kvs
 |m,d,v,os=>RepM K F H m d v os
noncomputable def ziK:Md->Bool
 | .dw _ _=>true
 | .ds _ _=>true
 |_=>false
section
variable {K:PySem.W.Frag}{F H F' H':Hp}{m:Md}{d:D}{v:V}{os:List Addr}
theorem RepF.mono (hT:Tp K H H'):∀ {f:FD} {v:V},RepF K H f v->RepF K H' f v
 | .non,_,h=>h
 | .int _,_,h=>h
 | .tup is,_,h=>let ⟨b,e,q⟩:=h;⟨b,e,hT.tup b _ q⟩
theorem DIn.mono {a:Addr}{t:Bool}{kvs:List (List Int×FD)}(hF:F' a=F a)(hT:Tp K H H')(h:DIn K F H a t kvs):DIn K F' H' a t kvs:=by
 cases t with
 |false=>obtain ⟨kv,e,r⟩:=h;exact ⟨kv,hF.trans e,Paired.mapP r fun p q z=>⟨z.1,z.2.mono hT⟩⟩
 |true=>obtain ⟨xs,e,r⟩:=h;exact ⟨xs,hF.trans e,Paired.mapP r fun p q z=>⟨z.1,hT.tup _ _ z.2.1,let ⟨v,rv,rf⟩:=z.2.2;⟨v,rv,rf.mono hT⟩⟩⟩
theorem DIn.some {a:Addr}{t:Bool}{kvs:List (List Int×FD)}(h:DIn K F H a t kvs):∃ o,F a=some o/\(∀ xs,o≠ .tup xs)/\(∀ xs,o≠ .lst xs)/\(∀ x y,o≠ .frz x y)/\∀ c dx,o≠ .ins c dx []:=by
 cases t with
 |false=>obtain ⟨kv,e,r⟩:=h;exact ⟨_,e,(fun _ z=>by cases z),(fun _ z=>by cases z),(fun _ _ z=>by cases z),(fun _ _ z=>by cases z)⟩
 |true=>obtain ⟨kv,e,r⟩:=h;exact ⟨_,e,(fun _ z=>by cases z),(fun _ z=>by cases z),(fun _ _ z=>by cases z),(fun _ _ z=>by cases z)⟩
theorem DIn.same {a:Addr}{t:Bool}{kvs:List (List Int×FD)}(hF:Same F F')(hT:Tp K H H')(h:DIn K F H a t kvs):DIn K F' H' a t kvs:=by
 obtain ⟨o,e,_⟩:=h.some;exact h.mono ((hF _ _ e).trans e.symm) hT
theorem RepS.of (h:RepM K F H m d v os):RepS K F H m d v os:=by
 cases m with
 |dw t k=>exact h.elim
 |ds t k=>exact h.elim
 |sh=>exact h
 |o1=>exact h
 |ow=>exact h
 |oa a=>exact h
theorem RepS.toM' (hm:ziK m=false\/d≠ .non)(h:RepS K F H m d v os):RepM K F H m d v os:=by
 cases m with
 |dw t k=>exact hm.elim (fun z=>by cases z) fun z=>(z h.1).elim
 |ds t k=>exact hm.elim (fun z=>by cases z) fun z=>(z h.1).elim
 |sh=>exact h
 |o1=>exact h
 |ow=>exact h
 |oa a=>exact h
theorem RepS.toMl {xs:List D}(h:RepS K F H m (.lst xs) v os):RepM K F H m (.lst xs) v os:=by
 cases m with
 |dw t k=>cases h.1
 |ds t k=>cases h.1
 |sh=>exact h
 |o1=>exact h
 |ow=>exact h
 |oa a=>exact h
theorem RepS.stay (hT:Tp K H H')(hF:Same F F')(h:RepS K F H m d v os)(k:∀ a∈os,H' a=H a/\F' a=none):RepS K F' H' m d v os:=by
 cases m with
 |dw t kvs=>
  obtain ⟨e,a,e1,e2,f,h⟩:=h;subst e2;obtain ⟨k1,k2⟩:=k a List.mem_cons_self;exact ⟨e,a,e1,rfl,k2,h.mono k1 hT⟩
 |ds t kvs=>
  obtain ⟨e,a,e1,e2,h⟩:=h;exact ⟨e,a,e1,e2,h.same hF hT⟩
 |sh=>exact RepM.stay (m:=.sh) hT hF h k
 |o1=>exact RepM.stay (m:=.o1) hT hF h k
 |ow=>exact RepM.stay (m:=.ow) hT hF h k
 |oa a=>exact RepM.stay (m:=.oa a) hT hF h k
theorem RepS.there (h:RepS K F H m d v os):∀ a∈os,F a=none/\∃ o,H a=some o/\(∀ xs,o≠ .tup xs)/\(∀ x y,o≠ .frz x y)/\∀ c dx,o≠ .ins c dx []:=by
 have lt:(∀ a∈os,F a=none/\∃ vs,H a=some (.lst vs))->∀ a∈os,F a=none/\∃ o,H a=some o/\(∀ xs,o≠ .tup xs)/\(∀ x y,o≠ .frz x y)/\∀ c dx,o≠ .ins c dx []:=fun z a ha=>by
  obtain ⟨f,vs,q⟩:=z a ha;exact ⟨f,_,q,(fun _ z=>by cases z),(fun _ _ z=>by cases z),(fun _ _ z=>by cases z)⟩
 cases m with
 |dw t kvs=>
  obtain ⟨e,a,e1,e2,f,h⟩:=h;intro b hb;rw [e2,List.mem_singleton] at hb;subst hb;obtain ⟨o,q,n1,_,n3⟩:=h.some;exact ⟨f,o,q,n1,n3⟩
 |ds t kvs=>obtain ⟨e,a,e1,e2,h⟩:=h;rw [e2];intro b hb;cases hb
 |sh=>exact lt (RepM.there (m:=.sh) h)
 |o1=>exact lt (RepM.there (m:=.o1) h)
 |ow=>exact lt (RepM.there (m:=.ow) h)
 |oa a=>exact lt (RepM.there (m:=.oa a) h)
end
structure OkO (K:PySem.W.Frag)(F H:Hp)(st:LSt)(σ:St)(O:Nat->List Addr):Prop where
 len:σ.length=st.length
 sub:Same F H
 rep:∀ (i:Nat) m d,st[i]? =some (some (m,d))->∃ v,σ[i]? =some (some v)/\RepS K F H m d v (O i)
 nd:∀ i,(O i).Nodup
 dj:∀ i j a,a∈O i->a∈O j->i=j
 emp:∀ (i:Nat),(∀ m d,st[i]? ≠some (some (m,d)))->O i=[]
noncomputable def Ok (K:PySem.W.Frag)(F H:Hp)(st:LSt)(σ:St):Prop:=∃ O,OkO K F H st σ O
structure Gr (F H F' H':Hp):Prop where
 same:Same H H'
 ff:∀ b o,H b=some o->F' b=F b
 sub:Same F' H'
theorem Gr.refl {F H:Hp}(h:Same F H):Gr F H F H:=⟨Same.refl _,fun _ _ _=>rfl,h⟩
theorem Gr.fsame {F H F' H':Hp}(g:Gr F H F' H')(hs:Same F H):Same F F':=fun b o e=>(g.ff b o (hs b o e)).trans e
theorem Gr.trans {F H F1 H1 F2 H2:Hp}(a:Gr F H F1 H1)(b:Gr F1 H1 F2 H2):Gr F H F2 H2:=
 ⟨a.same.trans b.same,fun c o e=>(b.ff c o (a.same c o e)).trans (a.ff c o e),b.sub⟩
theorem Gr.of {F H H':Hp}(hs:Same F H)(h:Same H H'):Gr F H F H':=⟨h,fun _ _ _=>rfl,hs.trans h⟩
section
variable {K:PySem.W.Frag}{F H F' H':Hp}{st:LSt}{σ:St}{O:Nat->List Addr}
theorem OkO.there (ok:OkO K F H st σ O){i:Nat}{a:Addr}(ha:a∈O i):F a=none/\∃ o,H a=some o:=by
 by_cases q:∃ m d,st[i]? =some (some (m,d))
 ·obtain ⟨m,d,q⟩:=q;obtain ⟨v,_,r⟩:=ok.rep i m d q;obtain ⟨f,o,q,_⟩:=r.there a ha;exact ⟨f,o,q⟩
 ·rw [ok.emp i fun m d e=>q ⟨m,d,e⟩] at ha;cases ha
theorem OkO.thereN (ok:OkO K F H st σ O){i:Nat}{a:Addr}(ha:a∈O i):∃ o,H a=some o/\(∀ xs,o≠ .tup xs)/\(∀ x y,o≠ .frz x y)/\∀ c dx,o≠ .ins c dx []:=by
 by_cases q:∃ m d,st[i]? =some (some (m,d))
 ·obtain ⟨m,d,q⟩:=q;obtain ⟨v,_,r⟩:=ok.rep i m d q;exact (r.there a ha).2
 ·rw [ok.emp i fun m d e=>q ⟨m,d,e⟩] at ha;cases ha
theorem OkO.repM (ok:OkO K F H st σ O)(i:Nat)(m:Md)(d:D)(e:st[i]? =some (some (m,d)))(hm:ziK m=false\/d≠ .non:=by first|exact .inl rfl|exact .inr (fun z=>by cases z)):∃ v,σ[i]? =some (some v)/\RepM K F H m d v (O i):=let ⟨v,e1,r⟩:=ok.rep i m d e;⟨v,e1,r.toM' hm⟩
theorem OkO.repL (ok:OkO K F H st σ O)(i:Nat)(m:Md)(xs:List D)(e:st[i]? =some (some (m,.lst xs))):∃ v,σ[i]? =some (some v)/\RepM K F H m (.lst xs) v (O i):=let ⟨v,e1,r⟩:=ok.rep i m _ e;⟨v,e1,r.toMl⟩
theorem OkO.stay (ok:OkO K F H st σ O)(hT:Tp K H H')(hF:Same F F')(hs:Same F' H')(k:∀ i,∀ a∈O i,H' a=H a/\F' a=none):OkO K F' H' st σ O:=
 ⟨ok.len,hs,fun i m d e=>let ⟨v,e1,r⟩:=ok.rep i m d e;⟨v,e1,r.stay hT hF (k i)⟩,ok.nd,ok.dj,ok.emp⟩
theorem OkO.grow (ok:OkO K F H st σ O)(g:Gr F H F' H'):OkO K F' H' st σ O:=ok.stay (Tp.of g.same) (g.fsame ok.sub) g.sub fun i a ha=>by
 obtain ⟨f,vs,q⟩:=ok.there ha;exact ⟨(g.same _ _ q).trans q.symm,(g.ff _ _ q).trans f⟩
theorem OkO.drop (ok:OkO K F H st σ O)(i:Nat):OkO K F H (st.set i none) σ fun j=>if j=i then [] else O j:=by
 have e0:∀ (j:Nat) m d,(st.set i none)[j]? =some (some (m,d))->j≠i/\st[j]? =some (some (m,d)):=fun j m d e=>by
  by_cases hj:j=i
  ·subst hj;rw [List.getElem?_set] at e;simp at e
  ·rw [List.getElem?_set_ne (Ne.symm hj)] at e;exact ⟨hj,e⟩
 refine ⟨by rw [List.length_set];exact ok.len,ok.sub,fun j m d e=>?_,fun j=>?_,fun j k a ha hb=>?_,fun j hj=>?_⟩
 ·obtain ⟨n,e⟩:=e0 j m d e;show ∃ v,σ[j]? =some (some v)/\RepS K F H m d v (if j=i then [] else O j)
  rw [if_neg n];exact ok.rep j m d e
 ·show (if j=i then [] else O j).Nodup
  split
  ·exact List.nodup_nil
  ·exact ok.nd j
 ·have ha:a∈(if j=i then [] else O j):=ha;have hb:a∈(if k=i then [] else O k):=hb;split at ha
  ·cases ha
  ·split at hb
   ·cases hb
   ·exact ok.dj j k a ha hb
 ·show (if j=i then [] else O j)=[]
  split
  ·rfl
  ·rename_i n;refine ok.emp j fun m d e=>hj m d ?_;rw [List.getElem?_set_ne (Ne.symm n)];exact e
theorem OkO.set (ok:OkO K F H st σ O){i:Nat}{m:Md}{d:D}{v:V}{os:List Addr}(hi:i<st.length)(r:RepS K F H m d v os)(nd:os.Nodup)(sep:∀ j,j≠i->∀ a∈os,a∉O j):
  OkO K F H (st.set i (some (m,d))) (σ.set i (some v)) fun j=>if j=i then os else O j:=by
 have hiσ:i<σ.length:=by rw [ok.len];exact hi
 refine ⟨by rw [List.length_set,List.length_set];exact ok.len,ok.sub,fun j m' d' e=>?_,fun j=>?_,fun j k a ha hb=>?_,fun j hj=>?_⟩
 ·show ∃ v',(σ.set i (some v))[j]? =some (some v')/\RepS K F H m' d' v' (if j=i then os else O j)
  by_cases hji:j=i
  ·subst hji;rw [List.getElem?_set_self hi] at e;have e':=Option.some.inj (Option.some.inj e);have e1:m=m':=congrArg Prod.fst e';have e2:d=d':=congrArg Prod.snd e';subst e1 e2;exact ⟨v,List.getElem?_set_self hiσ,by rw [if_pos rfl];exact r⟩
  ·rw [List.getElem?_set_ne (Ne.symm hji)] at e ⊢;rw [if_neg hji];exact ok.rep j m' d' e
 ·show (if j=i then os else O j).Nodup
  split
  ·exact nd
  ·exact ok.nd j
 ·have ha:a∈(if j=i then os else O j):=ha;have hb:a∈(if k=i then os else O k):=hb;by_cases hji:j=i
  ·rw [if_pos hji] at ha;by_cases hki:k=i
   ·rw [hji,hki]
   ·rw [if_neg hki] at hb;exact (sep k hki a ha hb).elim
  ·rw [if_neg hji] at ha;by_cases hki:k=i
   ·rw [if_pos hki] at hb;exact (sep j hji a hb ha).elim
   ·rw [if_neg hki] at hb;exact ok.dj j k a ha hb
 ·show (if j=i then os else O j)=[]
  by_cases hji:j=i
  ·subst hji;exact absurd (List.getElem?_set_self hi) (hj m d)
  ·rw [if_neg hji];refine ok.emp j fun m' d' e=>hj m' d' ?_;rw [List.getElem?_set_ne (Ne.symm hji)];exact e
theorem Ok.sub (ok:Ok K F H st σ):Same F H:=let ⟨_,o⟩:=ok;o.sub
theorem Ok.len (ok:Ok K F H st σ):σ.length=st.length:=let ⟨_,o⟩:=ok;o.len
theorem Ok.grow (ok:Ok K F H st σ)(g:Gr F H F' H'):Ok K F' H' st σ:=let ⟨O,o⟩:=ok;⟨O,o.grow g⟩
theorem Ok.same (ok:Ok K F H st σ)(h:Same H H'):Ok K F H' st σ:=ok.grow (Gr.of ok.sub h)
theorem Ok.get (ok:Ok K F H st σ){i:Nat}{m:Md}{d:D}(e:st[i]? =some (some (m,d)))(hm:ziK m=false\/d≠ .non:=by first|exact .inl rfl|exact .inr (fun z=>by cases z)):∃ v,σ[i]? =some (some v)/\Rep K H H d v:=by
 obtain ⟨O,o⟩:=ok;obtain ⟨v,e1,r⟩:=o.repM i m d e hm;exact ⟨v,e1,r.read o.sub⟩
theorem Ok.put {F₀ H₀:Hp}(ok:Ok K F₀ H₀ st σ)(g:Gr F₀ H₀ F H){i:Nat}{m:Md}{d:D}{v:V}{os:List Addr}(hi:i<st.length)(r:RepS K F H m d v os)(nd:os.Nodup)(new:∀ a∈os,H₀ a=none):Ok K F H (st.set i (some (m,d))) (σ.set i (some v)):=by
 obtain ⟨O,o⟩:=ok;refine ⟨_,(o.grow g).set hi r nd fun j _ a ha hb=>?_⟩;obtain ⟨_,vs,q⟩:=o.there hb;rw [new a ha] at q;cases q
end
noncomputable abbrev VE:=LSt->(D->Prop)->Prop
noncomputable abbrev VT:=LSt->(Bool->Prop)->Prop
noncomputable abbrev VAs:=LSt->(List D->Prop)->Prop
noncomputable abbrev VO:=LSt->(Md->D->Prop)->Prop
noncomputable def lB (K:PySem.W.Frag)(t:VE):TE:=fun σ H Q=>∃ F st Qd,Ok K F H st σ/\t st Qd/\∀ d,Qd d->∀ v H',Same H H'->Rep K H' H' d v->Q v H'
noncomputable def lT (K:PySem.W.Frag)(t:VT):TT:=fun σ H Q=>∃ F st Qd,Ok K F H st σ/\t st Qd/\∀ b,Qd b->∀ H',Same H H'->Q b H'
noncomputable def lA (K:PySem.W.Frag)(t:VAs):TA:=fun σ H Q=>∃ F st Qd,Ok K F H st σ/\t st Qd/\∀ ds,Qd ds->∀ vs H',Same H H'->Reps K H' H' ds vs->Q vs H'
noncomputable def lO (K:PySem.W.Frag)(t:VO):TE:=fun σ H Q=>∃ F st Qd,Ok K F H st σ/\t st Qd/\∀ m d,Qd m d->∀ v H' F' os,Gr F H F' H'->RepM K F' H' m d v os->os.Nodup->(∀ a∈os,H a=none)->Q v H'
noncomputable def SB (X:Cx)(e:Expr)(t:VE):Prop:=PE X e (lB X.K t)
noncomputable def ST (X:Cx)(e:Expr)(t:VT):Prop:=PT X e (lT X.K t)
noncomputable def SW (X:Cx)(e:Expr)(t:VT):Prop:=PW X e (lT X.K t)
noncomputable def SA (X:Cx)(es:List Expr)(t:VAs):Prop:=PA X es (lA X.K t)
noncomputable def SO (X:Cx)(e:Expr)(t:VO):Prop:=PE X e (lO X.K t)
section
variable {X:Cx}{a b c e:Expr}{es rest:List Expr}{ta tb:VE}{pos:Pos}
theorem PE.wk {t t':TE}(h:PE X e t)(hm:∀ σ H Q,t' σ H Q->t σ H Q):PE X e t':=fun pins s σ H Q I q=>h pins s σ H Q I (hm σ H Q q)
theorem PT.wk {t t':TT}(h:PT X e t)(hm:∀ σ H Q,t' σ H Q->t σ H Q):PT X e t':=fun pins s σ H Q I q=>h pins s σ H Q I (hm σ H Q q)
theorem PW.wk {t t':TT}(h:PW X e t)(hm:∀ σ H Q,t' σ H Q->t σ H Q):PW X e t':=fun wh pins s σ H Q I q=>h wh pins s σ H Q I (hm σ H Q q)
theorem PA.wk {t t':TA}(h:PA X es t)(hm:∀ σ H Q,t' σ H Q->t σ H Q):PA X es t':=fun p pins s σ H Q I q=>h p pins s σ H Q I (hm σ H Q q)
noncomputable def zap (i:Nat):VE:=fun st Q=>match st[i]? with
 |some (some (.dw _ _,_))=>False
 |some (some (.ds _ _,_))=>False
 |some (some (_,d))=>Q d
 |_=>False
noncomputable def vC (d:D):VE:=fun _ Q=>Q d
theorem zac (i:Nat){x:Str}(hN:X.N[i]? =some x:=by rfl)(hv:Vis X.env.scope x:=by first|exact Or.inl rfl|exact Or.inr (Or.inl rfl)|exact Or.inr (Or.inr rfl))(hd:(x==("__debug__":Str))=false:=by decide)
  (hcd:(x==("__classdict__":Str))=false:=by decide):SB X (.Name x pos) (zap i):=PE.wk (zbT hN hv hd hcd) fun σ H Q h=>by
 obtain ⟨F,st,Qd,ok,h,k⟩:=h;unfold zap at h;split at h
 ·exact h.elim
 ·exact h.elim
 ·rename_i m d n1 n2 e;obtain ⟨v,e1,r⟩:=ok.get e (.inl (by cases m<;>first|rfl|exact (n1 _ _ e).elim|exact (n2 _ _ e).elim|exact (n1 _ _ rfl).elim|exact (n2 _ _ rfl).elim));exact ⟨v,e1,k d h v H (Same.refl H) r⟩
 ·exact h.elim
theorem zaf {i:Int}{j}:SB X (.Constant (.int i) j pos) (vC (.int i)):=PE.wk ziT fun σ H Q zz=>by
 obtain ⟨F,st,Qd,ok,h,k⟩:=zz;exact k _ h _ H (Same.refl H) rfl
theorem zeR {i:Bool}{j}:SB X (.Constant (.bool i) j pos) (vC (.bl i)):=PE.wk ziU fun σ H Q zz=>by
 obtain ⟨F,st,Qd,ok,h,k⟩:=zz;exact k _ h _ H (Same.refl H) rfl
theorem zjl {j}:SB X (.Constant .none j pos) (vC .non):=PE.wk ziV fun σ H Q zz=>by
 obtain ⟨F,st,Qd,ok,h,k⟩:=zz;exact k _ h _ H (Same.refl H) rfl
theorem zaN {x:Str}{j}:SB X (.Constant (.str x) j pos) (vC (.str x)):=PE.wk ziW fun σ H Q zz=>by
 obtain ⟨F,st,Qd,ok,h,k⟩:=zz;exact k _ h _ H (Same.refl H) rfl
noncomputable abbrev V2:=D->D->(D->Prop)->Prop
noncomputable def zax (f:V2)(ta tb:VE):VE:=fun st Q=>ta st fun d=>tb st fun e=>f d e Q
noncomputable def Lf (K:PySem.W.Frag)(f:V2)(r:R2):Prop:=∀ (H:Hp) (x y:V) (d e:D) (Qd:D->Prop) (Q:VK),Rep K H H d x->Rep K H H e y->f d e Qd->(∀ z,Qd z->∀ v H',Same H H'->Rep K H' H' z v->Q v H')->r x y H Q
theorem zed {f:V2}{r:R2}(hf:Lf X.K f r){σ:St}{H:Hp}{Q:VK}(h:lB X.K (zax f ta tb) σ H Q):tOp r (lB X.K ta) (lB X.K tb) σ H Q:=by
 obtain ⟨F,st,Qd,ok,h,k⟩:=h;refine ⟨F,st,_,ok,h,fun d hd v H1 s1 r1=>⟨F,st,_,ok.same s1,hd,fun e he u H2 s2 r2=>?_⟩⟩;exact hf H2 v u d e Qd Q (Rep.mono s2 (Tp.of s2) d v r1) r2 he fun z hz w H3 s3 r3=>k z hz w H3 (s1.trans (s2.trans s3)) r3
theorem zee {op:Operator}{f:V2}{r:R2}(ho:OpR X (binaryOp op) r)(hf:Lf X.K f r)(ha:SB X a ta)(hb:SB X b tb):SB X (.BinOp a op b pos) (zax f ta tb):=PE.wk (zi7 ho ha hb) fun _ _ _ h=>zed hf h
theorem zhn {op:CmpOp}{f:V2}{r:R2}(ho:OpR X (compareOp op) r)(hf:Lf X.K f r)(ha:SB X a ta)(hb:SB X b tb)(hm:behindInMarks op b=false):SB X (.Compare a [op] [b] pos) (zax f ta tb):=PE.wk (zhH ho ha hb hm) fun _ _ _ h=>zed hf h
noncomputable def zcl (t:VE):VT:=fun st Q=>t st fun d=>match d with
 | .bl b=>Q b
 |_=>False
theorem zf0 {t:VE}{σ:St}{H:Hp}{Q:Bool->Hp->Prop}(h:lT X.K (zcl t) σ H Q):zhI (lB X.K t) σ H Q:=by
 obtain ⟨F,st,Qd,ok,h,k⟩:=h;refine ⟨F,st,_,ok,h,fun d hd v H1 s1 r1=>?_⟩;cases d with
 |bl b=>
  have r1:v= .bl b:=r1;exact ⟨b,r1,k b hd H1 s1⟩
 |_=>exact hd.elim
theorem zhV {f:V2}{r:R2}(hf:Lf X.K f r){σ:St}{H:Hp}{Q:Bool->Hp->Prop}(h:lT X.K (zcl (zax f ta tb)) σ H Q):zhI (tOp r (lB X.K ta) (lB X.K tb)) σ H Q:=by
 have h2:=zf0 h;exact zed hf h2
theorem zf1 {op:CmpOp}{f:V2}{r:R2}(ho:OpR X (compareOp op) r)(hf:Lf X.K f r)(ha:SB X a ta)(hb:SB X b tb)(hm:behindInMarks op b=false):ST X (.Compare a [op] [b] pos) (zcl (zax f ta tb)):=
 PT.wk (zhJ ho ha hb hm) fun _ _ _ h=>zhV hf h
theorem zcF {t:VE}(h:SB X e t)(he:∀ whole,isTrue e X.env whole=(do let v <-whole;standAt e.pos;holding [v] (truthy v)):=by intro _;rfl):ST X e (zcl t):=PT.wk (zfO h he) fun _ _ _ h=>zf0 h
noncomputable def vI2 (C:Int->Int->Prop)(g:Int->Int->D):V2:=fun d e Q=>match d,e with
 | .int i,.int j=>C i j/\Q (g i j)
 |_,_=>False
noncomputable def vI (g:Int->Int->D):V2:=fun d e Q=>match d,e with
 | .int i,.int j=>Q (g i j)
 |_,_=>False
theorem zkl {K:PySem.W.Frag}{C:Int->Int->Prop}{g:Int->Int->Int}:Lf K (vI2 C fun i j=>.int (g i j)) (rI C fun i j=>.int (g i j)):=fun H x y d e Qd Q rx ry h k=>by
 unfold vI2 at h;split at h
 ·rename_i i j;exact ⟨i,j,rx,ry,h.1,k _ h.2 _ H (Same.refl H) rfl⟩
 ·exact h.elim
theorem zkm {K:PySem.W.Frag}{g:Int->Int->Int}:Lf K (vI fun i j=>.int (g i j)) (rI0 fun i j=>.int (g i j)):=fun H x y d e Qd Q rx ry h k=>by
 unfold vI at h;split at h
 ·rename_i i j;exact ⟨i,j,rx,ry,k _ h _ H (Same.refl H) rfl⟩
 ·exact h.elim
noncomputable def zgS (_ j:Int):Prop:=0<j/\j.natAbs.log2<9000
theorem zgT:OpR X (binaryOp .FloorDiv) (rI zgS fun i j=>.int (i / j)):=opI fun i j _ _ _ _ _ hc q=>by
 refine floordiv_int (by have:=hc.1;omega) ?_ (.inl (PyProof.noPylong_of_log2 hc.2));rw [Int.fdiv_eq_ediv_of_nonneg _ (Int.le_of_lt hc.1)];exact q
theorem zhW:OpR X (binaryOp .Mult) (rI IntMulOk fun i j=>.int (i * j)):=opI fun _ _ _ _ _ _ _ hc q=>mul_int q hc
theorem zdh (ha:SB X a ta)(hb:SB X b tb):SB X (.BinOp a .Add b pos) (zax (vI fun i j=>.int (i+j)) ta tb):=zee zi8 zkm ha hb
theorem zcG (ha:SB X a ta)(hb:SB X b tb):SB X (.BinOp a .Mult b pos) (zax (vI2 IntMulOk fun i j=>.int (i * j)) ta tb):=zee zhW zkl ha hb
theorem zcm (ha:SB X a ta)(hb:SB X b tb):SB X (.BinOp a .Mod b pos) (zax (vI2 (fun _ j=>0<j) fun i j=>.int (i % j)) ta tb):=zee zi9 zkl ha hb
theorem zhX (ha:SB X a ta)(hb:SB X b tb):SB X (.BinOp a .FloorDiv b pos) (zax (vI2 zgS fun i j=>.int (i / j)) ta tb):=zee zgT zkl ha hb
noncomputable def vUn (g:Int->Int)(ta:VE):VE:=fun st Q=>ta st fun d=>match d with
 | .int i=>Q (.int (g i))
 |_=>False
theorem zkn {op:UnaryOp}{g:Int->Int}(ho:UnR X (unaryOp op) (rU fun i=>.int (g i)))(ha:SB X a ta):SB X (.UnaryOp op a pos) (vUn g ta):=PE.wk (zke ho ha) fun σ H Q h=>by
 obtain ⟨F,st,Qd,ok,h,k⟩:=h;refine ⟨F,st,_,ok,h,fun d hd v H1 s1 r1=>?_⟩;cases d with
 |int i=>
  have r1:v= .int i:=r1;exact ⟨i,r1,k _ hd _ H1 s1 rfl⟩
 |_=>exact hd.elim
theorem zjm (ha:SB X a ta):SB X (.UnaryOp .USub a pos) (vUn (fun i=> -i) ta):=zkn zja ha
noncomputable def vOr (t u:VT):VT:=fun st Q=>t st fun c=>if c=true then Q true else u st Q
noncomputable def zgU (t:VT):VT:=fun st Q=>t st fun c=>Q (!c)
variable {sa sb:VT}
theorem zf2 (ha:ST X a sa):SW X (.BoolOp .Or [a] pos) sa:=zhh ha
theorem zhY (ha:ST X a sa)(hb:SW X (.BoolOp .Or (b::rest) pos) sb):SW X (.BoolOp .Or (a::b::rest) pos) (vOr sa sb):=PW.wk (ziX ha hb) fun σ H Q h=>by
 obtain ⟨F,st,Qd,ok,h,k⟩:=h;refine ⟨F,st,_,ok,h,fun c hc H1 s1=>?_⟩;cases c with
 |true=>
  rw [if_pos rfl] at hc ⊢;exact k _ hc H1 s1
 |false=>
  rw [if_neg Bool.false_ne_true] at hc ⊢;exact ⟨F,st,Qd,ok.same s1,hc,fun b hb H2 s2=>k b hb H2 (s1.trans s2)⟩
theorem zeS (h:SW X e sa):ST X e sa:=PW.pt h
theorem zcH (ha:ST X a sa):ST X (.UnaryOp .Not a pos) (zgU sa):=PT.wk (ziY ha) fun σ H Q h=>by
 obtain ⟨F,st,Qd,ok,h,k⟩:=h;exact ⟨F,st,_,ok,h,fun c hc H1 s1=>k _ hc H1 s1⟩
noncomputable def zko (ta tb:VE):VE:=fun st Q=>ta st fun d=>match d with
 | .bl b=>if b=true then Q (.bl true) else tb st Q
 |_=>False
theorem zjn {op}{t:VE}(h:SB X a t):SB X (.BoolOp op [a] pos) t:=zhi h
theorem zkp (ha:SB X a ta)(hb:SB X (.BoolOp .Or (b::rest) pos) tb):SB X (.BoolOp .Or (a::b::rest) pos) (zko ta tb):=PE.wk (zj7 ha hb) fun σ H Q h=>by
 obtain ⟨F,st,Qd,ok,h,k⟩:=h;refine ⟨F,st,_,ok,h,fun d hd v H1 s1 r1=>?_⟩;cases d with
 |bl c=>
  have r1:v= .bl c:=r1;refine ⟨c,r1,?_⟩;have hd:if c=true then Qd (.bl true) else tb st Qd:=hd
  cases c with
  |false=>
   rw [if_neg Bool.false_ne_true] at hd ⊢;exact ⟨F,st,Qd,ok.same s1,hd,fun b hb u H2 s2 r2=>k b hb u H2 (s1.trans s2) r2⟩
  |true=>
   rw [if_pos rfl] at hd ⊢;exact k _ hd _ H1 s1 rfl
 |_=>exact hd.elim
noncomputable def zbN:VAs:=fun _ Q=>Q []
noncomputable def zad (ta:VE)(t:VAs):VAs:=fun st Q=>ta st fun d=>t st fun ds=>Q (d::ds)
variable {tr:VAs}
theorem zaq:SA X [] zbN:=PA.wk zbE fun σ H Q zz=>by
 obtain ⟨F,st,Qd,ok,h,k⟩:=zz;exact k _ h [] H (Same.refl H) rfl
theorem zab (ha:SB X e ta)(hr:SA X es tr)(hs:starEach (e::es) X.env=(false,eval e X.env)::starEach es X.env:=by rfl):SA X (e::es) (zad ta tr):=PA.wk (zaC ha hr hs) fun σ H Q h=>by
 obtain ⟨F,st,Qd,ok,h,k⟩:=h;refine ⟨F,st,_,ok,h,fun d hd v H1 s1 r1=>⟨F,st,_,ok.same s1,hd,fun ds hds vs H2 s2 r2=>?_⟩⟩;exact k _ hds (v::vs) H2 (s1.trans s2) (by unfold Reps;exact ⟨v,vs,rfl,Rep.mono s2 (Tp.of s2) d v r1,r2⟩)
end
section
variable {K:PySem.W.Frag}{F H:Hp}{p:Addr}
theorem zdo {o:HO}(hp:H p=none):Same H (upd H p o):=fun b u q=>by rw [upd_ne (zan q hp)];exact q
theorem Reps.len:∀ {ds:List D} {vs:List V},Reps K F H ds vs->ds.length=vs.length
 | [],_,h=>by unfold Reps at h;rw [h];rfl
 |d::ds,vs,h=>by
  unfold Reps at h;obtain ⟨v,r,e,_,b⟩:=h;subst e;rw [List.length_cons,List.length_cons,Reps.len b]
theorem Reps.at:∀ {ds:List D} {vs:List V} {i:Nat} {v:V},Reps K F H ds vs->vs[i]? =some v->∃ d,ds[i]? =some d/\Rep K F H d v
 | [],vs,i,v,h,e=>by unfold Reps at h;rw [h] at e;simp at e
 |d::ds,vs,i,v,h,e=>by
  unfold Reps at h;obtain ⟨w,r,e1,a,b⟩:=h;subst e1;cases i with
  |zero=>simp at e;subst e;exact ⟨d,rfl,a⟩
  |succ i=>exact Reps.at (i:=i) b (by simpa using e)
theorem Reps.at':∀ {ds:List D} {vs:List V} {i:Nat} {d:D},Reps K F H ds vs->ds[i]? =some d->∃ v,vs[i]? =some v/\Rep K F H d v
 | [],vs,i,v,h,e=>by simp at e
 |d::ds,vs,i,v,h,e=>by
  unfold Reps at h;obtain ⟨w,r,e1,a,b⟩:=h;subst e1;cases i with
  |zero=>simp at e;subst e;exact ⟨w,rfl,a⟩
  |succ i=>exact Reps.at' (i:=i) b (by simpa using e)
theorem Reps.append:∀ {ds es:List D} {vs ws:List V},Reps K F H ds vs->Reps K F H es ws->Reps K F H (ds++es) (vs++ws)
 | [],es,vs,ws,h,h'=>by unfold Reps at h;subst h;exact h'
 |d::ds,es,vs,ws,h,h'=>by
  unfold Reps at h;obtain ⟨w,r,e1,a,b⟩:=h;subst e1;show Reps K F H (d::(ds++es)) (w::(r++ws));unfold Reps;exact ⟨w,_,rfl,a,Reps.append b h'⟩
theorem Reps.one {d:D}{v:V}(h:Rep K F H d v):Reps K F H [d] [v]:=by unfold Reps;exact ⟨v,[],rfl,h,by unfold Reps;rfl⟩
theorem Reps.drop:∀ {ds:List D} {vs:List V} (n:Nat),Reps K F H ds vs->Reps K F H (ds.drop n) (vs.drop n)
 |ds,vs,0,h=>h
 | [],vs,n+1,h=>by unfold Reps at h;subst h;unfold Reps;rfl
 |d::ds,vs,n+1,h=>by
  unfold Reps at h;obtain ⟨w,r,e1,a,b⟩:=h;subst e1;exact Reps.drop n b
theorem Reps.take:∀ {ds:List D} {vs:List V} (n:Nat),Reps K F H ds vs->Reps K F H (ds.take n) (vs.take n)
 |ds,vs,0,h=>by show Reps K F H [] [];unfold Reps;rfl
 | [],vs,n+1,h=>by unfold Reps at h;subst h;unfold Reps;rfl
 |d::ds,vs,n+1,h=>by
  unfold Reps at h;obtain ⟨w,r,e1,a,b⟩:=h;subst e1;show Reps K F H (d::ds.take n) (w::r.take n);unfold Reps;exact ⟨w,_,rfl,a,Reps.take n b⟩
theorem zgV {ds:List D}{vs:List V}(hp:H p=none)(r:Reps K H H ds vs):Same H (upd H p (.lst vs))/\Rep K (upd H p (.lst vs)) (upd H p (.lst vs)) (.lst ds) (.ref p):=by
 have s:=zdo (o:=.lst vs) hp;refine ⟨s,?_⟩;unfold Rep;exact ⟨p,vs,rfl,SqL.of zas,Reps.mono s (Tp.of s) ds vs r⟩
theorem zff {ds:List D}{vs:List V}(hs:Same F H)(hp:H p=none)(r:Reps K H H ds vs)(fl:flats ds=true):Gr F H F (upd H p (.lst vs))/\RepM K F (upd H p (.lst vs)) .ow (.lst ds) (.ref p) [p]:=by
 have s:=zdo (o:=.lst vs) hp;refine ⟨Gr.of hs s,?_⟩;have hF:F p=none:=by
  cases e:F p with
  |none=>rfl
  |some o=>rw [hs p o e] at hp;cases hp
 show RepD K F (upd H p (.lst vs)) (.lst ds) (.ref p) [p]
 unfold RepD;exact ⟨p,vs,[],rfl,rfl,zas,hF,Reps.own ds vs (Reps.mono s (Tp.of s) ds vs r) fl⟩
end
noncomputable def lN (K:PySem.W.Frag)(t:VAs):TE:=fun σ H Q=>∃ F st Qd,Ok K F H st σ/\t st Qd/\∀ ds,Qd ds->∀ vs H' p,Same H H'->Reps K H' H' ds vs->H' p=none->Q (.ref p) (upd H' p (.lst vs))
noncomputable def SN (X:Cx)(e:Expr)(t:VAs):Prop:=PE X e (lN X.K t)
noncomputable def zhZ (t:VAs):VE:=fun st Q=>t st fun ds=>Q (.lst ds)
noncomputable def zf3 (t:VAs):VO:=fun st Q=>t st fun ds=>flats ds=true/\Q .ow (.lst ds)
noncomputable def zar (t:VE):VO:=fun st Q=>t st fun d=>d.flat=true/\Q .sh d
section
variable {X:Cx}{a b c e i:Expr}{es rest:List Expr}{ta tb ti:VE}{tr t:VAs}{pos:Pos}
theorem zef (h:SN X e t):SB X e (zhZ t):=PE.wk h fun σ H Q zz=>by
 obtain ⟨F,st,Qd,ok,h,k⟩:=zz;exact ⟨F,st,_,ok,h,fun ds hd vs H' p s r hp=>by
  obtain ⟨s2,r2⟩:=zgV hp r;exact k _ hd _ _ (s.trans s2) r2⟩
theorem zcI (h:SN X e t):SO X e (zf3 t):=PE.wk h fun σ H Q zz=>by
 obtain ⟨F,st,Qd,ok,h,k⟩:=zz;exact ⟨F,st,_,ok,h,fun ds hd vs H' p s r hp=>by
  obtain ⟨g,r2⟩:=zff (ok.same s).sub hp r hd.1;refine k _ _ hd.2 _ _ F [p] ((Gr.of ok.sub s).trans g) r2 (by simp) fun a ha=>?_;rw [List.mem_singleton] at ha;subst ha;exact s.free hp⟩
theorem zae (h:SB X e ta):SO X e (zar ta):=PE.wk h fun σ H Q zz=>by
 obtain ⟨F,st,Qd,ok,h,k⟩:=zz;exact ⟨F,st,_,ok,h,fun d hd v H' s r=>by
  refine k .sh d hd.2 v H' F [] (Gr.of ok.sub s) ⟨Rep.flatF d v r hd.1,rfl⟩ List.nodup_nil (by simp)⟩
noncomputable def zdp (t:VAs):VAs:=fun st Q=>t st fun ds=>ds.length<=1000/\Q ds
theorem zfg {n:Nat}(h:n<=1000):n<=sizeLine:=Nat.le_trans h (by decide)
theorem zcJ (h:SA X es t):SN X (.List es pos) (zdp t):=PE.wk (zjb h) fun σ H Q zz=>by
 obtain ⟨F,st,Qd,ok,h,k⟩:=zz;exact ⟨F,st,_,ok,h,fun ds hd vs H' s r=>⟨by rw [<-r.len];exact zfg hd.1,fun p hp=>k ds hd.2 vs H' p s r hp⟩⟩
noncomputable def zjZ (t:VAs):VE:=fun st Q=>t st fun ds=>ds.length<=1000/\Q (.tup ds)
theorem zho {x1}(h:SA X es t):SB X (.Tuple es x1 pos) (zjZ t):=PE.wk (zhl h) fun σ H Q zz=>by
 obtain ⟨F,st,Qd,ok,h,k⟩:=zz;exact ⟨F,st,_,ok,h,fun ds hd vs H' s r=>⟨by rw [<-r.len];exact zfg hd.1,fun p hp=>by
  have s2:=zdo (o:=.tup vs) hp;refine k _ hd.2 _ _ (s.trans s2) ?_;unfold Rep;exact ⟨p,vs,rfl,SqT.of zas,Reps.mono s2 (Tp.of s2) ds vs r⟩⟩⟩
noncomputable def fIx:V2:=fun d e Q=>match d,e with
 | .lst xs,.int i=>(match atI xs i with
  |some z=>Q z
  |none=>False)
 | .tup xs,.int i=>(match atI xs i with
  |some z=>Q z
  |none=>False)
 |_,_=>False
theorem zf4 {K:PySem.W.Frag}{F H:Hp}{ds:List D}{vs:List V}{i:Int}{d:D}(r:Reps K F H ds vs)(h:atI ds i=some d):∃ v,atI vs i=some v/\Rep K F H d v:=by
 unfold atI at h ⊢;rw [<-r.len];cases e:ixN ds.length i with
 |none=>rw [e] at h;cases h
 |some j=>
  rw [e] at h;exact r.at' (i:=j) h
theorem zkq {K:PySem.W.Frag}:Lf K fIx (fun x y H Q=>zkR K x y H Q\/zkS K x y H Q):=fun H x y d e Qd Q rx ry h k=>by
 unfold fIx at h;split at h
 ·rename_i xs j;unfold Rep at rx;obtain ⟨a,vs,rfl,hq,r⟩:=rx;split at h
  ·rename_i z hz;obtain ⟨v,hv,rv⟩:=zf4 r hz;exact .inl ⟨a,vs,j,v,rfl,ry,hq,hv,k z h v H (Same.refl H) rv⟩
  ·exact h.elim
 ·rename_i xs j;unfold Rep at rx;obtain ⟨a,vs,rfl,hq,r⟩:=rx;split at h
  ·rename_i z hz;obtain ⟨v,hv,rv⟩:=zf4 r hz;exact .inr ⟨a,vs,j,v,rfl,ry,hq,hv,k z h v H (Same.refl H) rv⟩
  ·exact h.elim
 ·exact h.elim
theorem zfA (ha:SB X a ta)(hb:SB X b tb)(hs:zeQ b:=by intro _ _;rfl):SB X (.Subscript a b pos) (zax fIx ta tb):=PE.wk (zjf (ix_list.or zjg) ha hb hs) fun _ _ _ h=>zed zkq h
noncomputable abbrev VP:=LSt->(Option Int->Prop)->Prop
noncomputable def lP (K:PySem.W.Frag)(t:VP):TO:=fun σ H Q=>∃ F st Qd,Ok K F H st σ/\t st Qd/\∀ o,Qd o->∀ H',Same H H'->Q o H'
noncomputable def SPa (X:Cx)(e:Option Expr)(t:VP):Prop:=PO X e (lP X.K t)
noncomputable def zgE:VP:=fun _ Q=>Q none
noncomputable def vP (t:VE):VP:=fun st Q=>t st fun d=>match d with
 | .int i=>Q (some i)
 |_=>False
theorem zbp:SPa X none zgE:=fun pins s σ H Q I zz=>by
 obtain ⟨F,st,Qd,ok,h,k⟩:=zz;exact zhM pins s σ H Q I (k _ h H (Same.refl H))
theorem za6 (h:SB X e ta):SPa X (some e) (vP ta):=fun pins s σ H Q I zz=>by
 obtain ⟨F,st,Qd,ok,hh,k⟩:=zz;exact zhN h pins s σ H Q I ⟨F,st,_,ok,hh,fun d hd v H1 s1 r1=>by
  cases d with
  |int i=>
   have r1:v= .int i:=r1;exact ⟨i,r1,k _ hd H1 s1⟩
  |_=>exact hd.elim⟩
noncomputable def zj0 (xs:List D)(lo hi:Option Int):List D:=(xs.drop (HT.sIx xs.length 0 lo)).take (HT.sIx xs.length xs.length hi - HT.sIx xs.length 0 lo)
noncomputable def vSl (ta:VE)(tl tu:VP):VAs:=fun st Q=>ta st fun d=>tl st fun lo=>tu st fun hi=>match d with
 | .lst xs=>Q (zj0 xs lo hi)
 |_=>False
theorem zkr {tl tu:VP}{lo hi:Option Expr}{p2:Pos}(ha:SB X a ta)(hl:SPa X lo tl)(hu:SPa X hi tu):SN X (.Subscript a (.Slice lo hi none p2) pos) (vSl ta tl tu):=PE.wk (zfa zhO ha hl hu) fun σ H Q ⟨F,st,Qd,ok,h,k⟩=>
 ⟨F,st,_,ok,h,fun d hd v H1 s1 r1=>⟨F,st,_,ok.same s1,hd,fun l hl H2 s2=>⟨F,st,_,ok.same (s1.trans s2),hl,fun u hu H3 s3=>by
  cases d with
  |lst xs=>
   unfold Rep at r1;obtain ⟨p,vs,rfl,hq,r⟩:=r1;refine ⟨p,vs,rfl,s3.seq (s2.seq hq),fun q hq=>?_⟩;have s23:=s2.trans s3;have r':=Reps.mono s23 (Tp.of s23) xs vs r;refine k _ hu _ H3 q (s1.trans s23) ?_ hq;unfold zj0 zje;rw [<-r.len];exact (r'.drop _).take _
  |_=>exact hu.elim⟩⟩⟩
noncomputable abbrev VB':=List D->(D->Prop)->Prop
noncomputable def LfA (K:PySem.W.Frag)(f:VB')(r:List V->Hp->VK->Prop):Prop:=∀ (H:Hp) (vs:List V) (ds:List D) (Qd:D->Prop) (Q:VK),Reps K H H ds vs->f ds Qd->(∀ z,Qd z->∀ v H',Same H H'->Rep K H' H' z v->Q v H')->r vs H Q
noncomputable def vCB (f:VB')(t:VAs):VE:=fun st Q=>t st fun ds=>f ds Q
theorem zks {f:VB'}{r:List V->Hp->VK->Prop}(hf:LfA X.K f r){σ:St}{H:Hp}{Q:VK}(h:lB X.K (vCB f t) σ H Q):tCB r (lA X.K t) σ H Q:=by
 obtain ⟨F,st,Qd,ok,h,k⟩:=h;exact ⟨F,st,_,ok,h,fun ds hd vs H1 s1 r1=>hf H1 vs ds Qd Q r1 hd fun z hz v H2 s2 r2=>k z hz v H2 (s1.trans s2) r2⟩
variable {x:Str}{p:Pos}{id T:String}
theorem zfh {f:VB'}{r:List V->Hp->VK->Prop}(hc:CallR X (.builtin id) r)(hf:LfA X.K f r)(hg:Gl X x)(hm:X.mg x=none)(hv:bootBuiltins x=some (.builtin id))(ha:SA X (e::es) t)(hn:x≠"__name__":=by decide)(hdb:(x==("__debug__":Str))=false:=by decide)
  (he:starEach (e::es) X.env=(false,eval e X.env)::starEach es X.env:=by rfl)(hpl:(backTo pos (starEach es X.env)).any (·.1)=false:=by rfl):SB X (.Call (.Name x p) (e::es) [] pos) (vCB f t):=
 PE.wk (zbz hc hg hm hv ha hn hdb he hpl) fun _ _ _ h=>zks hf h
theorem zfB {K:PySem.W.Frag}{F H:Hp}{d:D}{vs:List V}(r:Reps K F H [d] vs):∃ v,vs=[v]/\Rep K F H d v:=by
 unfold Reps at r;obtain ⟨v,w,rfl,a,b⟩:=r;unfold Reps at b;subst b;exact ⟨v,rfl,a⟩
noncomputable def zjo:VB':=fun ds Q=>match ds with
 | [.lst xs]=>Q (.int xs.length)
 | [.tup xs]=>Q (.int xs.length)
 |_=>False
theorem zjp {K:PySem.W.Frag}:LfA K zjo (fun xs H Q=>∃ p ys,xs=[.ref p]/\(SqL K H p ys\/SqT K H p ys)/\Q (.int ys.length) H):=fun H vs ds Qd Q r h k=>by
 unfold zjo at h;split at h
 ·obtain ⟨v,rfl,r1⟩:=zfB r;unfold Rep at r1;obtain ⟨a,ws,rfl,hq,r2⟩:=r1;exact ⟨a,ws,rfl,.inl hq,k _ h _ H (Same.refl H) (by show V.int _=V.int _;rw [r2.len])⟩
 ·obtain ⟨v,rfl,r1⟩:=zfB r;unfold Rep at r1;obtain ⟨a,ws,rfl,hq,r2⟩:=r1;exact ⟨a,ws,rfl,.inr hq,k _ h _ H (Same.refl H) (by show V.int _=V.int _;rw [r2.len])⟩
 ·exact h.elim
theorem zjq (hm:X.mg "len"=none)(ha:SA X (e::es) t)(hg:Gl X "len":=by rfl)(he:starEach (e::es) X.env=(false,eval e X.env)::starEach es X.env:=by rfl)(hpl:(backTo pos (starEach es X.env)).any (·.1)=false:=by rfl):
  SB X (.Call (.Name "len" p) (e::es) [] pos) (vCB zjo t):=zfh zd6 zjp hg hm PySem.boot_len ha (by decide) (by decide) he hpl
noncomputable def zkt (K:PySem.W.Frag):R2:=fun x y H Q=>∃ l b xs zs,x= .ref l/\y= .ref b/\SqL K H l xs/\SqL K H b zs/\xs.length+zs.length<=sizeLine/\∀ p,H p=none->Q (.ref p) (upd H p (.lst (xs++zs)))
theorem zh0:OpR X (binaryOp .Add) (zkt X.K):=by
 intro pins s σ H x y v u Q I rx ry h;obtain ⟨l,b,xs,zs,rfl,rfl,hH,hB,hz,q⟩:=h;cases rx;cases ry;obtain ⟨its,r,pl,z⟩:=I.list hH;obtain ⟨its2,r2,pl2,z2⟩:=I.list hB;have hl:=r.length;have hl2:=r2.length;obtain ⟨⟨cls,dd,data,sl⟩,ho,hc,n,hd⟩:=pl.isList;obtain ⟨⟨cls2,dd2,data2,sl2⟩,ho2,hc2,n2,hd2⟩:=pl2.isList;simp only at hc hd hc2 hd2;subst hc hd hc2 hd2;have ea:its.toArray++its2.toArray=(its++its2).toArray:=by simp
 refine concat_meets ⟨_,ho,rfl⟩ ⟨_,ho2,rfl⟩ noFill_list_add seq_list_add PySem.F.slot_list_add PySem.F.entry_list_add (PySem.F.args_list_add_2 _ _) (list_addW l b its.toArray its2.toArray n n2 dd dd2 sl sl2 (by rw [List.size_toArray,List.size_toArray];omega)) ⟨ho,ho2,?_⟩;rw [ea];exact ⟨.ref _,_,I.lnew (t':=s.toks) (r.append r2) (by rw [List.length_append];omega),rfl,q _ I.fresh⟩
noncomputable def zjr (ta tb:VE):VAs:=fun st Q=>ta st fun d=>tb st fun e=>match d,e with
 | .lst xs,.lst ys=>xs.length+ys.length<=sizeLine/\Q (xs++ys)
 |_,_=>False
theorem zf5 (ha:SB X a ta)(hb:SB X b tb):SN X (.BinOp a .Add b pos) (zjr ta tb):=PE.wk (zi7 zh0 ha hb) fun σ H Q ⟨F,st,Qd,ok,h,k⟩=>
 ⟨F,st,_,ok,h,fun d hd v H1 s1 r1=>⟨F,st,_,ok.same s1,hd,fun e he u H2 s2 r2=>by
  split at he
  ·unfold Rep at r1 r2;obtain ⟨l,vs,rfl,hq,r⟩:=r1;obtain ⟨m,ws,rfl,hq2,r2⟩:=r2;have r':=Reps.mono s2 (Tp.of s2) _ vs r;exact ⟨l,m,vs,ws,rfl,rfl,s2.seq hq,hq2,by rw [<-r.len,<-r2.len];exact he.1,fun p hp=>k _ he.2 _ H2 p (s1.trans s2) (r'.append r2) hp⟩
  ·exact he.elim⟩⟩
theorem Reps.rep {K:PySem.W.Frag}{F H:Hp}{ds:List D}{vs:List V}(r:Reps K F H ds vs):∀ k:Nat,Reps K F H (List.replicate k ds).flatten (List.replicate k vs).flatten
 |0=>by show Reps K F H [] [];unfold Reps;rfl
 |k+1=>by
  rw [List.replicate_succ,List.flatten_cons,List.replicate_succ,List.flatten_cons];exact r.append (Reps.rep r k)
end
noncomputable abbrev VF:=List D->(Md->D->Prop)->Prop
noncomputable def spV (K:PySem.W.Frag)(m:VF):Sp:=fun vs H Q _=>∃ ds Qd,Reps K H H ds vs/\m ds Qd/\∀ md d,Qd md d->∀ v H' F' os,Gr H H F' H'->RepM K F' H' md d v os->os.Nodup->(∀ a∈os,H a=none)->Q v H'
structure Cal (P:Program)(w:World)(K:PySem.W.Frag)(mg:Str->Option Value)(base:Heap)(k:Nat)(x:Str)(m:VF):Prop where
 ex:∃ f fd ps,FnOk P w K mg base CX0 k f fd ps (spV K m)/\mg x=some (.ref f)/\PySem.W.keepIn K (.ref f)=true/\Binds K fd ps []
theorem Cal.mono {P:Program}{w:World}{K:PySem.W.Frag}{mg:Str->Option Value}{base:Heap}{k j:Nat}{x:Str}{m:VF}(c:Cal P w K mg base k x m)(h:k<=j):Cal P w K mg base j x m:=
 let ⟨f,fd,ps,F,a,b,d⟩:=c.ex;⟨f,fd,ps,F.mono h,a,b,d⟩
noncomputable def kpt (m:Md)(d:D):Prop:=m= .ow\/(m= .sh/\d.flat=true)
section
variable {X:Cx}{e:Expr}{es:List Expr}{t:VAs}{x:Str}{p pos:Pos}{k:Nat}{m:VF}
noncomputable def zcf (m:VF)(t:VAs):VE:=fun st Q=>t st fun ds=>m ds fun _ d=>Q d
noncomputable def zf6 (m:VF)(t:VAs):VO:=fun st Q=>t st fun ds=>m ds fun md d=>kpt md d/\Q md d
theorem za0 (c:Cal X.prog X.w X.K X.mg X.base k x m)(hr:Room k X.A)(ha:SA X (e::es) t)(hg:Gl X x:=by rfl)(hdb:(x==("__debug__":Str))=false:=by decide)(he:starEach (e::es) X.env=(false,eval e X.env)::starEach es X.env:=by rfl)
  (hpl:(backTo pos (starEach es X.env)).any (·.1)=false:=by rfl):SB X (.Call (.Name x p) (e::es) [] pos) (zcf m t):=by
 obtain ⟨f,fd,ps,F,hm,hk,hb⟩:=c.ex;refine PE.wk (zeM F hr hg hm hk hb .nil zfZ ha hdb he hpl) fun σ H Q ⟨F,st,Qd,ok,h,k⟩=>⟨F,st,_,ok,h,fun ds hd vs H1 s1 r1=>?_⟩;show spV X.K m (vs++[]) H1 Q E0
 rw [List.append_nil];exact ⟨ds,_,r1,hd,fun md d q v H' F' os g r nd new=>k d q v H' (s1.trans g.same) (r.read g.sub)⟩
theorem zh1 (c:Cal X.prog X.w X.K X.mg X.base k x m)(hr:Room k X.A)(ha:SA X (e::es) t)(hg:Gl X x:=by rfl)(hdb:(x==("__debug__":Str))=false:=by decide)(he:starEach (e::es) X.env=(false,eval e X.env)::starEach es X.env:=by rfl)
  (hpl:(backTo pos (starEach es X.env)).any (·.1)=false:=by rfl):SO X (.Call (.Name x p) (e::es) [] pos) (zf6 m t):=by
 obtain ⟨f,fd,ps,F,hm,hk,hb⟩:=c.ex;refine PE.wk (zeM F hr hg hm hk hb .nil zfZ ha hdb he hpl) fun σ H Q ⟨F,st,Qd,ok,h,k⟩=>⟨F,st,_,ok,h,fun ds hd vs H1 s1 r1=>?_⟩;show spV X.K m (vs++[]) H1 Q E0
 rw [List.append_nil];refine ⟨ds,_,r1,hd,fun md d q v H' F' os g r nd new=>?_⟩;have g2:Gr F H F H':=Gr.of ok.sub (s1.trans g.same);rcases q.1 with z|⟨z,fl⟩
 ·subst z;refine k _ d q.2 v H' F os g2 (RepD.stay (Tp.of (Same.refl _)) d v os r fun a ha=>⟨rfl,?_⟩) nd fun a ha=>s1.free (new a ha);cases z:F a with
  |none=>rfl
  |some o=>
   have:=s1 _ _ (ok.sub _ _ z);rw [new a ha] at this;cases this
 ·subst z;exact k _ d q.2 v H' F [] g2 ⟨Rep.flatF d v r.1 fl,rfl⟩ List.nodup_nil (by simp)
end
structure VEnds where
 nx:LSt->Prop
 rt:Md->D->Prop
 bk:LSt->Prop:=fun _=>False
 ct:LSt->Prop:=fun _=>False
 rd:Bool->List (List Int×FD)->Prop:=fun _ _=>False
noncomputable abbrev VS:=VEnds->LSt->Prop
structure Fw (K:PySem.W.Frag)(F H F' H':Hp):Prop where
 f:Same F F'
 t:Tp K H H'
theorem Fw.refl {K:PySem.W.Frag}{F H:Hp}:Fw K F H F H:=⟨Same.refl F,Tp.of (Same.refl H)⟩
theorem Fw.trans {K:PySem.W.Frag}{F H F1 H1 F2 H2:Hp}(a:Fw K F H F1 H1)(b:Fw K F1 H1 F2 H2):Fw K F H F2 H2:=⟨a.f.trans b.f,a.t.trans b.t⟩
theorem Fw.of {K:PySem.W.Frag}{F H F' H':Hp}(a:Same F F')(b:Same H H'):Fw K F H F' H':=⟨a,Tp.of b⟩
theorem Fw.hs {K:PySem.W.Frag}{F H H':Hp}(b:Same H H'):Fw K F H F H':=⟨Same.refl F,Tp.of b⟩
structure Clo (K:PySem.W.Frag)(F H:Hp)(E:VEnds)(De:Ends):Prop where
 nx:∀ F' H' st σ,Fw K F H F' H'->Ok K F' H' st σ->E.nx st->De.nx σ H'
 bk:∀ F' H' st σ,Fw K F H F' H'->Ok K F' H' st σ->E.bk st->De.bk σ H'
 ct:∀ F' H' st σ,Fw K F H F' H'->Ok K F' H' st σ->E.ct st->De.ct σ H'
 rt:∀ F' H' md d v os,Fw K F H F' H'->Same F' H'->RepM K F' H' md d v os->os.Nodup->E.rt md d->De.rt v H'
 rd:∀ F' H' t kvs a,Fw K F H F' H'->Same F' H'->F' a=none->DIn K H' H' a t kvs->E.rd t kvs->De.rt (.ref a) H'
theorem Clo.up {K:PySem.W.Frag}{F H F' H':Hp}{E:VEnds}{De:Ends}(c:Clo K F H E De)(h:Fw K F H F' H'):Clo K F' H' E De:=
 ⟨fun F2 H2 st σ s ok q=>c.nx F2 H2 st σ (h.trans s) ok q,fun F2 H2 st σ s ok q=>c.bk F2 H2 st σ (h.trans s) ok q,fun F2 H2 st σ s ok q=>c.ct F2 H2 st σ (h.trans s) ok q,
  fun F2 H2 md d v os s s2 r nd q=>c.rt F2 H2 md d v os (h.trans s) s2 r nd q,fun F2 H2 t kvs a s s2 f r q=>c.rd F2 H2 t kvs a (h.trans s) s2 f r q⟩
noncomputable def lS (K:PySem.W.Frag)(t:VS):TS:=fun De σ H=>∃ F st E,Ok K F H st σ/\t E st/\Clo K F H E De
noncomputable def SS (X:Cx)(s:Stmt)(t:VS):Prop:=PS X s (lS X.K t)
noncomputable def SSs (X:Cx)(ss:List Stmt)(t:VS):Prop:=PSs X ss (lS X.K t)
section
variable {X:Cx}{s:Stmt}{ss rest:List Stmt}{t u:VS}{e c a b:Expr}{pos:Pos}
theorem PS.wk {t t':TS}(h:PS X s t)(hm:∀ D σ H,t' D σ H->t D σ H):PS X s t':=fun pins s σ H D I q=>h pins s σ H D I (hm D σ H q)
theorem PSs.wk {t t':TS}(h:PSs X ss t)(hm:∀ D σ H,t' D σ H->t D σ H):PSs X ss t':=fun pins s σ H D I q=>h pins s σ H D I (hm D σ H q)
noncomputable def zbB:VS:=fun E st=>E.nx st
noncomputable def zbO (t u:VS):VS:=fun E st=>t {E with nx:=u E} st
theorem za5:SSs X [] zbB:=PSs.wk zfP fun De σ H zz=>by
 obtain ⟨F,st,E,ok,h,c⟩:=zz;exact c.nx F H st σ Fw.refl ok h
theorem zag (h1:SS X s t)(h2:SSs X rest u):SSs X (s::rest) (zbO t u):=PSs.wk (zcy h1 h2) fun De σ H ⟨F,st,E,ok,h,c⟩=>
 ⟨F,st,_,ok,h,⟨fun F' H' st' σ' s ok' q=>⟨F',st',E,ok',q,c.up s⟩,c.bk,c.ct,c.rt,c.rd⟩⟩
theorem zah (h1:SS X s t):SSs X [s] t:=PSs.wk (zdm h1) fun De σ H h=>h
noncomputable def zf7:VS:=fun _ _=>False
theorem zh2:SS X s zf7:=PS.wk zgJ fun De σ H zz=>by
 obtain ⟨F,st,E,ok,h,c⟩:=zz;exact h.elim
noncomputable def zh3 (t:VE):VS:=fun E st=>t st fun _=>E.nx st
theorem zjs {t:VE}(h:SB X e t)(hs:swapsWith e none pos.line X.env=pure false:=by rfl):SS X (.Expr e pos) (zh3 t):=PS.wk (zeI h hs) fun De σ H ⟨F,st,E,ok,h,c⟩=>
 ⟨F,st,_,ok,h,fun d hd v H' s r=>c.nx F H' st σ (Fw.hs s) (ok.same s) hd⟩
noncomputable def zbm (t:VO):VS:=fun E st=>t st E.rt
theorem zaT {t:VO}(h:SO X e t):SS X (.Return (some e) pos) (zbm t):=PS.wk (ze7 h) fun De σ H ⟨F,st,E,ok,h,c⟩=>
 ⟨F,st,_,ok,h,fun m d hd v H' F' os g r nd new=>c.rt F' H' m d v os (Fw.of (g.fsame ok.sub) g.same) g.sub r nd hd⟩
noncomputable def zfC (i:Nat):VS:=fun E st=>match st[i]? with
 |some (some (.dw _ _,_))=>False
 |some (some (.ds _ _,_))=>False
 |some (some (m,d))=>E.rt m d
 |_=>False
theorem zf8 (i:Nat){x:Str}{p:Pos}(hN:X.N[i]? =some x:=by rfl)(hv:Vis X.env.scope x:=by first|exact Or.inl rfl|exact Or.inr (Or.inl rfl)|exact Or.inr (Or.inr rfl))(hd:(x==("__debug__":Str))=false:=by decide)
  (hcd:(x==("__classdict__":Str))=false:=by decide):SS X (.Return (some (.Name x p)) pos) (zfC i):=PS.wk (ze7 (zbT hN hv hd hcd)) fun De σ H zz=>by
 obtain ⟨F,st,E,ok,h,c⟩:=zz;unfold zfC at h;split at h
 ·exact h.elim
 ·exact h.elim
 ·rename_i m d n1 n2 e;obtain ⟨O,o⟩:=ok;obtain ⟨v,e1,r⟩:=o.repM i m d e (.inl (by cases m<;>first|rfl|exact (n1 _ _ e).elim|exact (n2 _ _ e).elim|exact (n1 _ _ rfl).elim|exact (n2 _ _ rfl).elim));exact ⟨v,e1,c.rt F H m d v _ Fw.refl o.sub r (o.nd i) h⟩
 ·exact h.elim
noncomputable def zeg (c:VT)(t u:VS):VS:=fun E st=>c st fun b=>if b=true then t E st else u E st
theorem zeT {bo el:List Stmt}{tc:VT}(hc:ST X c tc)(ha:SSs X bo t)(hb:SSs X el u):SS X (.If c bo el pos) (zeg tc t u):=PS.wk (zi2 hc ha hb) fun De σ H ⟨F,st,E,ok,h,c⟩=>
 ⟨F,st,_,ok,h,fun b hb H1 s1=>by
  cases b with
  |true=>rw [if_pos rfl] at hb ⊢;exact ⟨F,st,E,ok.same s1,hb,c.up (Fw.hs s1)⟩
  |false=>rw [if_neg Bool.false_ne_true] at hb ⊢;exact ⟨F,st,E,ok.same s1,hb,c.up (Fw.hs s1)⟩⟩
theorem zhp {α:Type}{l:List α}{i:Nat}{x:α}(h:¬ i<l.length):l.set i x=l:=List.set_eq_of_length_le (by omega)
theorem Ok.put' {K:PySem.W.Frag}{F H F₀ H₀:Hp}{st:LSt}{σ:St}(ok:Ok K F₀ H₀ st σ)(g:Gr F₀ H₀ F H){i:Nat}{m:Md}{d:D}{v:V}{os:List Addr}(r:RepM K F H m d v os)(nd:os.Nodup)(new:∀ a∈os,H₀ a=none):Ok K F H (st.set i (some (m,d))) (σ.set i (some v)):=by
 by_cases hi:i<st.length
 ·exact ok.put g hi (RepS.of r) nd new
 ·rw [zhp hi,zhp (by rw [ok.len];exact hi)];exact ok.grow g
noncomputable def zeG (i:Nat)(t:VO):VS:=fun E st=>t st fun m d=>E.nx (st.set i (some (m,d)))
theorem zcs {i:Nat}{x:Str}{t:VO}{p:Pos}(hN:X.N.Nodup)(he:SO X e t)(hi:X.N[i]? =some x:=by rfl)(hx:Loc X.env.scope x:=by first|exact Or.inl rfl|exact Or.inr rfl)(hs:swapsWith e (some (.Name x p)) pos.line X.env=pure false:=by rfl)
  (hf:X.fn x=true\/X.env.scope.names.lookup x=some .local:=by first|exact .inl rfl|exact .inr rfl):SS X (.Assign [.Name x p] e pos) (zeG i t):=PS.wk (zhj hN hi hx he hs hf) fun De σ H ⟨F,st,E,ok,h,c⟩=>
 ⟨F,st,_,ok,h,fun m d hd v H' F' os g r nd new=>c.nx F' H' _ _ (Fw.of (g.fsame ok.sub) g.same) (ok.put' g r nd new) hd⟩
end
theorem zfi {α:Type}{l:List α}{i:Nat}{x:α}(h:l[i]? =some x):l.set i x=l:=by
 apply List.ext_getElem?;intro j;by_cases hj:i=j
 ·subst hj;rw [List.getElem?_set_self (List.getElem?_eq_some_iff.mp h).1,h]
 ·rw [List.getElem?_set_ne hj]
section
variable {K:PySem.W.Frag}{F F' H H':Hp}{st:LSt}{σ:St}{O:Nat->List Addr}
theorem OkO.rewrite (ok:OkO K F H st σ O){i:Nat}{mi m':Md}{di d':D}{v:V}{a:Addr}{o:HO}{os:List Addr}(hi:st[i]? =some (some (mi,di)))(hv:σ[i]? =some (some v))(ha:a∈O i)(hF:Same F F')(hs:Same F' (upd H a o))(hO:∀ j,∀ b∈O j,F' b=none)
  (r:RepS K F' (upd H a o) m' d' v os)(nd:os.Nodup)(sep:∀ j,j≠i->∀ b∈os,b∉O j):Ok K F' (upd H a o) (st.set i (some (m',d'))) σ:=by
 have o1:=ok.drop i;obtain ⟨vs,q,n1,n2,n3⟩:=ok.thereN ha;have o2:OkO K F' (upd H a o) (st.set i none) σ fun j=>if j=i then [] else O j:=o1.stay (Tp.updN q n1 n2 n3) hF hs fun j b hb=>by
  have hb:b∈(if j=i then [] else O j):=hb;split at hb
  ·cases hb
  ·rename_i n;refine ⟨upd_ne fun z=>n ?_,hO j b hb⟩;subst z;exact ok.dj _ _ _ hb ha
 have hl:i<(st.set i none).length:=by rw [List.length_set];exact (List.getElem?_eq_some_iff.mp hi).1
 have o3:=o2.set hl r nd fun j n b hb hc=>by
  have hc:b∈(if j=i then [] else O j):=hc;rw [if_neg n] at hc;exact sep j n b hb hc
 rw [List.set_set,zfi hv] at o3;exact ⟨_,o3⟩
theorem OkO.newSep {F₀ H₀:Hp}(ok:OkO K F₀ H₀ st σ O){os:List Addr}(new:∀ a∈os,H₀ a=none):∀ j,∀ b∈os,b∉O j:=fun j b hb hc=>by
 obtain ⟨_,vs,q⟩:=ok.there hc;rw [new b hb] at q;cases q
end
noncomputable def ziL:Md->Md->D->Option Md
 | .ow,.ow,_=>some .ow
 | .ow,.sh,d=>if d.flat then some .ow else none
 | .o1,.sh,_=>some .o1
 | .o1,.ow,_=>some .o1
 | .oa a,.ow,_=>some (.oa a)
 | .oa a,.sh,d=>if d.flat then some (.oa a) else none
 |_,_,_=>none
section
variable {K:PySem.W.Frag}{F H:Hp}
theorem RepDs.append:∀ {xs:List D} {vs:List V} {o:List Addr} {d:D} {v:V} {os:List Addr},RepDs K F H xs vs o->RepD K F H d v os->RepDs K F H (xs++[d]) (vs++[v]) (o++os)
 | [],vs,o,d,v,os,h,r=>by
  unfold RepDs at h;obtain ⟨rfl,rfl⟩:=h;show RepDs K F H [d] [v] os
  unfold RepDs;exact ⟨v,[],os,[],rfl,by simp,r,by unfold RepDs;exact ⟨rfl,rfl⟩⟩
 |x::xs,vs,o,d,v,os,h,r=>by
  unfold RepDs at h;obtain ⟨w,q,o1,o2,rfl,rfl,a,b⟩:=h;show RepDs K F H (x::(xs++[d])) (w::(q++[v])) ((o1++o2)++os);unfold RepDs;exact ⟨w,_,o1,o2++os,rfl,by simp,a,RepDs.append b r⟩
theorem RepDs.len:∀ {xs:List D} {vs:List V} {o:List Addr},RepDs K F H xs vs o->xs.length=vs.length
 | [],vs,o,h=>by unfold RepDs at h;rw [h.1];rfl
 |x::xs,vs,o,h=>by
  unfold RepDs at h;obtain ⟨w,q,o1,o2,rfl,rfl,a,b⟩:=h;rw [List.length_cons,List.length_cons,RepDs.len b]
theorem RepDs.set:∀ {xs:List D} {vs:List V} {o:List Addr} (n:Nat) {d:D} {v:V} {os:List Addr},RepDs K F H xs vs o->RepD K F H d v os->o.Nodup->os.Nodup->(∀ b∈os,b∉o)->∃ o',RepDs K F H (xs.set n d) (vs.set n v) o'/\o'.Nodup/\∀ b∈o',b∈o\/b∈os
 | [],vs,o,n,d,v,os,h,r,nd,_,_=>by
  unfold RepDs at h;obtain ⟨rfl,rfl⟩:=h;exact ⟨[],by show RepDs K F H [] [] [];unfold RepDs;exact ⟨rfl,rfl⟩,nd,fun b hb=>.inl hb⟩
 |x::xs,vs,o,n,d,v,os,h,r,nd,nd2,dj=>by
  unfold RepDs at h;obtain ⟨w,q,o1,o2,rfl,rfl,a,b⟩:=h;rw [List.nodup_append] at nd;cases n with
  |zero=>
   refine ⟨os++o2,?_,?_,fun c hc=>?_⟩
   ·show RepDs K F H (d::xs) (v::q) (os++o2);unfold RepDs;exact ⟨v,q,os,o2,rfl,rfl,r,b⟩
   ·rw [List.nodup_append];exact ⟨nd2,nd.2.1,fun c hc e he z=>dj c hc (List.mem_append_right _ (z▸he))⟩
   ·rcases List.mem_append.mp hc with z|z
    ·exact .inr z
    ·exact .inl (List.mem_append_right _ z)
  |succ n=>
   obtain ⟨o',r',n',s'⟩:=RepDs.set n b r nd.2.1 nd2 fun c hc z=>dj c hc (List.mem_append_right _ z);refine ⟨o1++o',?_,?_,fun c hc=>?_⟩
   ·show RepDs K F H (x::xs.set n d) (w::q.set n v) (o1++o');unfold RepDs;exact ⟨w,_,o1,o',rfl,rfl,a,r'⟩
   ·rw [List.nodup_append];refine ⟨nd.1,n',fun c hc e he z=>?_⟩;subst z;rcases s' c he with z|z
    ·exact nd.2.2 c hc c z rfl
    ·exact dj c z (List.mem_append_left _ hc)
   ·rcases List.mem_append.mp hc with z|z
    ·exact .inl (List.mem_append_left _ z)
    ·rcases s' c z with z|z
     ·exact .inl (List.mem_append_right _ z)
     ·exact .inr z
theorem Reps.set:∀ {xs:List D} {vs:List V} (n:Nat) {d:D} {v:V},Reps K F H xs vs->Rep K F H d v->Reps K F H (xs.set n d) (vs.set n v)
 | [],vs,n,d,v,h,r=>by unfold Reps at h;subst h;unfold Reps;rfl
 |x::xs,vs,0,d,v,h,r=>by
  unfold Reps at h;obtain ⟨w,q,rfl,a,b⟩:=h;show Reps K F H (d::xs) (v::q);unfold Reps;exact ⟨v,q,rfl,r,b⟩
 |x::xs,vs,n+1,d,v,h,r=>by
  unfold Reps at h;obtain ⟨w,q,rfl,a,b⟩:=h;show Reps K F H (x::xs.set n d) (w::q.set n v);unfold Reps;exact ⟨w,_,rfl,a,Reps.set n b r⟩
theorem zgW {F₀ H₀:Hp}{st:LSt}{σ:St}{O:Nat->List Addr}{i:Nat}{mi m m':Md}{xs:List D}{d:D}{v:V}{os:List Addr}(n:Option Nat)(o0:OkO K F₀ H₀ st σ O)(hoa:∀ a,mi≠ .oa a)(g:Gr F₀ H₀ F H)(hi:st[i]? =some (some (mi,.lst xs)))(hm:ziL mi m d=some m')(r:RepM K F H m d v os)(nd:os.Nodup)(sepN:∀ j,∀ b∈os,b∉O j):
  ∃ a vs,σ[i]? =some (some (.ref a))/\H a=some (.lst vs)/\xs.length=vs.length/\∃ F',Same F₀ F'/\
   Ok K F' (upd H a (.lst (match n with|none=>vs++[v]|some n=>vs.set n v))) (st.set i (some (m',.lst (match n with|none=>xs++[d]|some n=>xs.set n d)))) σ:=by
 have o:=o0.grow g;obtain ⟨w,hw,rw'⟩:=o.repL i mi xs hi;have hF:=g.fsame o0.sub;have hne:∀ b∈os,∀ j,b∉O j:=fun b hb j=>sepN j b hb;cases mi with
 |sh=>cases m<;>cases hm
 |dw t k=>exact rw'.elim
 |ds t k=>exact rw'.elim
 |oa a=>exact absurd rfl (hoa a)
 |ow=>
  have rw':RepD K F H (.lst xs) w (O i):=rw';unfold RepD at rw';obtain ⟨a,vs,oi,rfl,eO,q,f,rr⟩:=rw';have haO:a∈O i:=by rw [eO];exact List.mem_cons_self
  have ndO:=o.nd i;rw [eO,List.nodup_cons] at ndO;have rd:∃ os',RepD K F H d v os'/\os'.Nodup/\(∀ b∈os',b∈os)/\m'= .ow:=by
   cases m with
   |ow=>exact ⟨os,r,nd,fun _ z=>z,(Option.some.inj hm).symm⟩
   |sh=>
    have hm:(if d.flat=true then some Md.ow else none)=some m':=hm;by_cases fl:d.flat=true
    ·rw [if_pos fl] at hm;exact ⟨[],Rep.own d v r.1 fl,List.nodup_nil,(fun _ z=>nomatch z),(Option.some.inj hm).symm⟩
    ·rw [if_neg fl] at hm;cases hm
   |o1=>cases hm
   |dw t k=>cases hm
   |ds t k=>cases hm
   |oa a=>cases hm
  obtain ⟨os',rd,nd',sub',rfl⟩:=rd;have sepA:∀ b∈os',b≠a:=fun b hb z=>hne b (sub' b hb) i (by rw [z];exact haO);have stayI:∀ {ys:List D} {ws:List V} {o2:List Addr} (x:List V),RepDs K F H ys ws o2->(∀ b∈o2,b∈oi\/b∈os')->RepDs K F (upd H a (.lst x)) ys ws o2:=fun x h hb=>RepDs.stay (Tp.upd q) _ _ _ h fun b hb'=>by
   have n1:b≠a:=by
    rcases hb b hb' with z|z
    ·exact fun e=>ndO.1 (by rw [<-e];exact z)
    ·exact sepA b z
   refine ⟨upd_ne n1,?_⟩;rcases hb b hb' with z|z
   ·exact (RepDs.there _ _ _ rr b z).1
   ·exact (RepD.there _ _ _ rd b z).1
  have subF:∀ x,Same F (upd H a (.lst x)):=fun x b u e=>by
   rw [upd_ne (fun z=>by rw [z,f] at e;cases e)];exact o.sub b u e
  refine ⟨a,vs,hw,q,RepDs.len rr,F,hF,?_⟩;have fin:∀ (ys:List D) (ws:List V) (o2:List Addr),RepDs K F H ys ws o2->o2.Nodup->(∀ b∈o2,b∈oi\/b∈os')->Ok K F (upd H a (.lst ws)) (st.set i (some (.ow,.lst ys))) σ:=fun ys ws o2 h2 n2 s2=>by
   refine o.rewrite (os:=a::o2) hi hw haO (Same.refl F) (subF ws) (fun j b hb=>(o.there hb).1) ?_ ?_ fun j hj b hb hc=>?_
   ·show RepD K F (upd H a (.lst ws)) (.lst ys) (.ref a) (a::o2);unfold RepD;exact ⟨a,ws,o2,rfl,rfl,zas,f,stayI ws h2 s2⟩
   ·refine List.nodup_cons.mpr ⟨fun z=>?_,n2⟩;rcases s2 a z with z|z
    ·exact ndO.1 z
    ·exact sepA a z rfl
   ·rcases List.mem_cons.mp hb with z|z
    ·subst z;exact hj (o.dj _ _ _ hc haO)
    ·rcases s2 b z with z|z
     ·exact hj (o.dj _ _ _ hc (by rw [eO];exact List.mem_cons_of_mem _ z))
     ·exact hne b (sub' b z) j hc
  have disj:∀ b∈os',b∉oi:=fun b hb z=>hne b (sub' b hb) i (by rw [eO];exact List.mem_cons_of_mem _ z);cases n with
  |none=>
   refine fin _ _ (oi++os') (RepDs.append rr rd) ?_ fun b hb=>List.mem_append.mp hb;rw [List.nodup_append];exact ⟨ndO.2,nd',fun b hb c hc z=>disj c hc (z▸hb)⟩
  |some n=>
   obtain ⟨o2,h2,n2,s2⟩:=RepDs.set n rr rd ndO.2 nd' disj;exact fin _ _ o2 h2 n2 s2
 |o1=>
  obtain ⟨ys,a,vs,e1,rfl,eO,q,f,rr⟩:=rw';have e1:xs=ys:=by cases e1;rfl
  subst e1;have haO:a∈O i:=by rw [eO];exact List.mem_cons_self
  let F':Hp:=fun b=>if b∈os then H b else F b
  have hFF:Same F F':=fun b u e=>by
   show (if b∈os then H b else F b)=some u
   by_cases hb:b∈os
   ·rw [if_pos hb];exact o.sub b u e
   ·rw [if_neg hb];exact e
  have hFos:∀ b∈os,F' b=H b:=fun b hb=>if_pos hb;have hFO:∀ j,∀ b∈O j,F' b=none:=fun j b hb=>by
   show (if b∈os then H b else F b)=none
   rw [if_neg (fun z=>hne b z j hb)];exact (o.there hb).1
  have r':Rep K F' H d v:=(r.give hFF hFos).1;have hm':m'= .o1:=by
   cases m with
   |sh=>exact (Option.some.inj hm).symm
   |ow=>exact (Option.some.inj hm).symm
   |o1=>cases hm
   |dw t k=>cases hm
   |ds t k=>cases hm
   |oa a=>cases hm
  subst hm';have subF:∀ x,Same F' (upd H a (.lst x)):=fun x b u e=>by
   have n1:b≠a:=fun z=>by rw [z,hFO i a haO] at e;cases e
   rw [upd_ne n1];have e:(if b∈os then H b else F b)=some u:=e;by_cases hb:b∈os
   ·rw [if_pos hb] at e;exact e
   ·rw [if_neg hb] at e;exact o.sub b u e
  refine ⟨a,vs,hw,q,rr.len,F',hF.trans hFF,?_⟩;have fin:∀ (ys:List D) (ws:List V),Reps K F' H ys ws->Ok K F' (upd H a (.lst ws)) (st.set i (some (.o1,.lst ys))) σ:=fun ys ws h2=>by
   refine o.rewrite (os:=[a]) hi hw haO hFF (subF ws) hFO ?_ (by simp) fun j hj b hb hc=>?_
   ·exact ⟨ys,a,ws,rfl,rfl,rfl,zas,hFO i a haO,Reps.mono (Same.refl _) (Tp.upd q) ys ws h2⟩
   ·rw [List.mem_singleton] at hb;subst hb;exact hj (o.dj _ _ _ hc haO)
  have rr':Reps K F' H xs vs:=Reps.mono hFF (Tp.of (Same.refl H)) xs vs rr;cases n with
  |none=>exact fin _ _ (rr'.append (Reps.one r'))
  |some n=>exact fin _ _ (rr'.set n r')
theorem zcz {F₀ H₀:Hp}{st:LSt}{σ:St}{i:Nat}{mi m m':Md}{xs:List D}{d:D}{v:V}{os:List Addr}(n:Option Nat)(ok:Ok K F₀ H₀ st σ)(hoa:∀ a,mi≠ .oa a)(g:Gr F₀ H₀ F H)(hi:st[i]? =some (some (mi,.lst xs)))(hm:ziL mi m d=some m')(r:RepM K F H m d v os)(nd:os.Nodup)(new:∀ a∈os,H₀ a=none):
  ∃ a vs,σ[i]? =some (some (.ref a))/\H a=some (.lst vs)/\xs.length=vs.length/\∃ F',Same F₀ F'/\
   Ok K F' (upd H a (.lst (match n with|none=>vs++[v]|some n=>vs.set n v))) (st.set i (some (m',.lst (match n with|none=>xs++[d]|some n=>xs.set n d)))) σ:=by
 obtain ⟨O,o0⟩:=ok;exact zgW n o0 hoa g hi hm r nd (o0.newSep new)
theorem Ok.mode {st:LSt}{σ:St}{i:Nat}{mi m':Md}{d:D}(ok:Ok K F H st σ)(hi:st[i]? =some (some (mi,d)))(hr:∀ v os,σ[i]? =some (some v)->RepS K F H mi d v os->RepS K F H m' d v os):Ok K F H (st.set i (some (m',d))) σ:=by
 obtain ⟨O,o⟩:=ok;have hl:=(List.getElem?_eq_some_iff.mp hi).1;refine ⟨O,by rw [List.length_set];exact o.len,o.sub,fun j m d' e=>?_,o.nd,o.dj,fun j hj=>o.emp j fun m d' e=>?_⟩
 ·by_cases hji:j=i
  ·subst hji;rw [List.getElem?_set_self hl] at e;cases e;obtain ⟨v,hv,r⟩:=o.rep j mi d hi;exact ⟨v,hv,hr v _ hv r⟩
  ·rw [List.getElem?_set_ne (Ne.symm hji)] at e;exact o.rep j m d' e
 ·by_cases hji:j=i
  ·subst hji;exact hj m' d (List.getElem?_set_self hl)
  ·exact hj m d' (by rw [List.getElem?_set_ne (Ne.symm hji)];exact e)
theorem Ok.weak {st:LSt}{σ:St}{i:Nat}{a:Addr}{d:D}(ok:Ok K F H st σ)(hi:st[i]? =some (some (.oa a,d))):Ok K F H (st.set i (some (.ow,d))) σ/\σ[i]? =some (some (.ref a)):=by
 refine ⟨ok.mode hi fun v os _ r=>r.2,?_⟩;obtain ⟨O,o⟩:=ok;obtain ⟨v,hv,r⟩:=o.rep i _ _ hi;rw [hv,r.1]
theorem Ok.strong {st:LSt}{σ:St}{i:Nat}{a:Addr}{d:D}(ok:Ok K F H st σ)(hi:st[i]? =some (some (.ow,d)))(hv:σ[i]? =some (some (.ref a))):Ok K F H (st.set i (some (.oa a,d))) σ:=
 ok.mode hi fun v os e r=>⟨by rw [hv] at e;cases e;rfl,r⟩
theorem zfj {F₀ H₀:Hp}{st:LSt}{σ:St}{i:Nat}{mi m m':Md}{xs:List D}{d:D}{v:V}{os:List Addr}(n:Option Nat)(ok:Ok K F₀ H₀ st σ)(g:Gr F₀ H₀ F H)(hi:st[i]? =some (some (mi,.lst xs)))(hm:ziL mi m d=some m')(r:RepM K F H m d v os)(nd:os.Nodup)(new:∀ a∈os,H₀ a=none):
  ∃ a vs,σ[i]? =some (some (.ref a))/\H a=some (.lst vs)/\xs.length=vs.length/\∃ F',Same F₀ F'/\
   Ok K F' (upd H a (.lst (match n with|none=>vs++[v]|some n=>vs.set n v))) (st.set i (some (m',.lst (match n with|none=>xs++[d]|some n=>xs.set n d)))) σ:=by
 cases mi with
 |dw t k=>cases m<;>cases hm
 |ds t k=>cases m<;>cases hm
 |sh=>exact zcz n ok (fun a z=>by cases z) g hi hm r nd new
 |o1=>exact zcz n ok (fun a z=>by cases z) g hi hm r nd new
 |ow=>exact zcz n ok (fun a z=>by cases z) g hi hm r nd new
 |oa a0=>
  have hl:=(List.getElem?_eq_some_iff.mp hi).1;obtain ⟨ok0,hv⟩:=ok.weak hi;have hm2:ziL .ow m d=some .ow/\m'= .oa a0:=by
   cases m with
   |ow=>exact ⟨rfl,(Option.some.inj hm).symm⟩
   |sh=>
    have hm:(if d.flat=true then some (Md.oa a0) else none)=some m':=hm;show (if d.flat=true then some Md.ow else none)=some .ow/\_
    by_cases fl:d.flat=true
    ·rw [if_pos fl] at hm ⊢;exact ⟨rfl,(Option.some.inj hm).symm⟩
    ·rw [if_neg fl] at hm;cases hm
   |o1=>cases hm
   |dw t k=>cases hm
   |ds t k=>cases hm
   |oa a=>cases hm
  obtain ⟨hm2,rfl⟩:=hm2;obtain ⟨a,vs,ha,q,hlen,F',hs,ok1⟩:=zcz n ok0 (fun a z=>by cases z) g (List.getElem?_set_self hl) hm2 r nd new;refine ⟨a,vs,ha,q,hlen,F',hs,?_⟩;rw [List.set_set] at ok1;have:=ok1.strong (List.getElem?_set_self hl) hv;rwa [List.set_set] at this
end
section
variable {X:Cx}{e c a b i1 i2:Expr}{pos apos cpos p p2 p3:Pos}{x:Str}
noncomputable def zj1 (i:Nat)(t:VO):VS:=fun E st=>match st[i]? with
 |some (some (mi,.lst xs))=>t st fun m d=>(match ziL mi m d with
  |some m'=>xs.length<sizeLine/\E.nx (st.set i (some (m',.lst (xs++[d]))))
  |none=>False)
 |_=>False
theorem zku (i:Nat){t:VO}(he:SO X e t)(hN:X.N[i]? =some x:=by rfl)(hv:Vis X.env.scope x:=by first|exact Or.inl rfl|exact Or.inr (Or.inl rfl)|exact Or.inr (Or.inr rfl))(hd:(x==("__debug__":Str))=false:=by decide)
  (hcd:(x==("__classdict__":Str))=false:=by decide)(hs:swapsWith (.Call (.Attribute (.Name x p) "append" apos) [e] [] cpos) none pos.line X.env=pure false:=by rfl)
  (hbase:attributeBase (.Name x p) "append" X.env (eval (.Name x p) X.env)=eval (.Name x p) X.env:=by rfl)
  (hfew:((backTo cpos (starEach [e] X.env)).all (fun x=> !x.1)&&(backToKw cpos (keywordEach [] X.env)).all (fun x=>x.1.isSome)&&decide ([e].length+([]:List Keyword).length+(if ([]:List Keyword).isEmpty then 0 else 1)<30))=true:=by rfl)
  (hline:(apos.endLine==cpos.line)=true:=by rfl)(hst:starEach [e] X.env=(false,eval e X.env)::starEach [] X.env:=by rfl)(hpl:(backTo cpos (starEach [] X.env)).any (·.1)=false:=by rfl):
  SS X (.Expr (.Call (.Attribute (.Name x p) "append" apos) [e] [] cpos) pos) (zj1 i t):=
 PS.wk (zeI (zgO PySem.F.plainAttrs_list PySem.F.slot_list_append PySem.F.type_list_append zfX (zbT hN hv hd hcd) (zaC he zbE hst) hbase hfew hline hst hpl) hs) fun De σ H zz=>by
 obtain ⟨F,st,E,ok,h,c⟩:=zz;unfold zj1 at h;split at h
 ·rename_i mi xs hi;obtain ⟨O,o⟩:=id ok;obtain ⟨w,hw,rw'⟩:=o.repL i mi _ hi;have rd:=rw'.read o.sub;unfold Rep at rd;obtain ⟨a,vs,rfl,hq,_⟩:=rd;refine ⟨.ref a,hw,.inl ⟨rfl,vs,hq⟩,F,st,_,ok,h,fun m d hd v H' F' os g r nd new=>?_⟩;split at hd
  ·rename_i m' hm;obtain ⟨a',vs',hw',q,hl,F2,s2,ok2⟩:=zfj none ok g hi hm r nd new;rw [hw] at hw';cases hw';exact ⟨a,vs',v,rfl,rfl,q,by rw [<-hl];exact hd.1,c.nx F2 _ _ σ ⟨s2,(Tp.of g.same).trans (Tp.upd q)⟩ ok2 hd.2⟩
  ·exact hd.elim
 ·exact h.elim
noncomputable def zjt (i:Nat)(t:VO)(tk:VE):VS:=fun E st=>match st[i]? with
 |some (some (mi,.lst xs))=>t st fun m d=>tk st fun j=>(match j with
  | .int k=>(match ixN xs.length k,ziL mi m d with
   |some n,some m'=>E.nx (st.set i (some (m',.lst (xs.set n d))))
   |_,_=>False)
  |_=>False)
 |_=>False
theorem zju (i:Nat){t:VO}{tk:VE}(he:SO X e t)(hk:SB X i1 tk)(hN:X.N[i]? =some x:=by rfl)(hv:Vis X.env.scope x:=by first|exact Or.inl rfl|exact Or.inr (Or.inl rfl)|exact Or.inr (Or.inr rfl))(hd:(x==("__debug__":Str))=false:=by decide)
  (hcd:(x==("__classdict__":Str))=false:=by decide)
  (ha:∀ v,assign (.Subscript (.Name x p) i1 p2) X.env v=(do
   let ov <-holding [v] (eval (.Name x p) X.env)
   let iv <-holding [v,ov] (eval i1 X.env)
   standAt p2
   holding [v,ov,iv] (setItem ov iv v)
   release [v,ov,iv] []):=by intro _;rfl)
  (hs:swapsWithSole [.Subscript (.Name x p) i1 p2] e pos.line X.env=pure false:=by rfl)(hw:swappedStores [.Subscript (.Name x p) i1 p2] e X.env=pure none:=by rfl)
  (h1:(assignEach [.Subscript (.Name x p) i1 p2] X.env).map (·.2)=[assign (.Subscript (.Name x p) i1 p2) X.env]:=by rfl):
  SS X (.Assign [.Subscript (.Name x p) i1 p2] e pos) (zjt i t tk):=
 PS.wk (zi5 he (zi4 (zbT hN hv hd hcd) hk zgN ha) hs hw h1) fun De σ H zz=>by
 obtain ⟨F,st,E,ok,h,c⟩:=zz;unfold zjt at h;split at h
 ·rename_i mi xs hi;obtain ⟨O,o⟩:=id ok;obtain ⟨w,hw,rw'⟩:=o.repL i mi _ hi;have rd:=rw'.read o.sub;unfold Rep at rd;obtain ⟨a,vs,rfl,hq,rr⟩:=rd;refine ⟨F,st,_,ok,h,fun m d hd v H' F' os g r nd new=>?_⟩;refine ⟨.ref a,hw,F',st,_,ok.grow g,hd,fun j hj jv H2 s2 rj=>?_⟩;split at hj
  ·rename_i k;have rj:jv= .int k:=rj;subst rj;split at hj
   ·rename_i n m' hn hm;have g2:Gr F H F' H2:=g.trans (Gr.of g.sub s2);obtain ⟨a',vs',hw',q,hl,F2,s3,ok2⟩:=zfj (some n) ok g2 hi hm (r.stay (Tp.of s2) (Same.refl _) fun b hb=>by
     obtain ⟨f,zs,z⟩:=r.there b hb;exact ⟨(s2 _ _ z).trans z.symm,f⟩) nd new
    rw [hw] at hw';cases hw';exact ⟨a,vs',k,n,rfl,rfl,q,by rw [<-hl];exact hn,c.nx F2 _ _ σ ⟨s3,(Tp.of g2.same).trans (Tp.upd q)⟩ ok2 hj⟩
   ·exact hj.elim
  ·exact hj.elim
 ·exact h.elim
end
section
variable {K:PySem.W.Frag}{F H:Hp}
end
section
variable {X:Cx}{e c a b i1 i2:Expr}{pos apos cpos p p2 p3:Pos}{x:Str}
end
section
variable {K:PySem.W.Frag}{F H:Hp}{st:LSt}{σ:St}
theorem Ok.give (ok:Ok K F H st σ){i:Nat}{m:Md}{d:D}(hi:st[i]? =some (some (m,d)))(hm:ziK m=false\/d≠ .non:=by first|exact .inl rfl|exact .inr (fun z=>by cases z)):∃ F',Same F F'/\Ok K F' H (st.set i (some (.sh,d))) σ:=by
 obtain ⟨O,o⟩:=ok;obtain ⟨v,hv,r⟩:=o.repM i m d hi hm;let F':Hp:=fun b=>if b∈O i then H b else F b
 have hFF:Same F F':=fun b u e=>by
  show (if b∈O i then H b else F b)=some u
  by_cases hb:b∈O i
  ·rw [if_pos hb];exact o.sub b u e
  ·rw [if_neg hb];exact e
 have sub:Same F' H:=fun b u e=>by
  have e:(if b∈O i then H b else F b)=some u:=e;by_cases hb:b∈O i
  ·rw [if_pos hb] at e;exact e
  ·rw [if_neg hb] at e;exact o.sub b u e
 have o1:=(o.drop i).stay (Tp.of (Same.refl H)) hFF sub fun j b hb=>by
  have hb:b∈(if j=i then [] else O j):=hb;split at hb
  ·cases hb
  ·rename_i n;refine ⟨rfl,?_⟩;show (if b∈O i then H b else F b)=none
   rw [if_neg (fun z=>n (o.dj _ _ _ hb z))];exact (o.there hb).1
 have hl:i<(st.set i none).length:=by rw [List.length_set];exact (List.getElem?_eq_some_iff.mp hi).1
 have o2:=o1.set hl (RepS.of (r.give hFF fun b hb=>if_pos hb)) List.nodup_nil fun j _ b hb=>nomatch hb
 rw [List.set_set,zfi hv] at o2;exact ⟨F',hFF,_,o2⟩
end
section
variable {X:Cx}{s:Stmt}{ss rest:List Stmt}{t u tb:VS}{e c a b iter:Expr}{pos p:Pos}{x:Str}
noncomputable abbrev VG:=D->LSt->(LSt->Prop)->Prop
noncomputable def gV (i:Nat):VG:=fun d st Q=>Q (st.set i (some (.sh,d)))
noncomputable def lG (K:PySem.W.Frag)(g:VG):TG:=fun v σ H Q=>∃ F st d Qd,Ok K F H st σ/\Rep K F H d v/\g d st Qd/\∀ st' σ',Ok K F H st' σ'->Qd st'->Q σ' H
noncomputable def SG (X:Cx)(tg:Expr)(g:VG):Prop:=PG X tg (lG X.K g)
theorem PG.wk {tg:Expr}{t t':TG}(h:PG X tg t)(hm:∀ v σ H Q,t' v σ H Q->t v σ H Q):PG X tg t':=fun pins s σ H v u Q I r q=>h pins s σ H v u Q I r (hm v σ H Q q)
theorem zcK {i:Nat}(hN:X.N.Nodup)(hi:X.N[i]? =some x:=by rfl)(hx:Loc X.env.scope x:=by first|exact Or.inl rfl|exact Or.inr rfl)(hf:X.fn x=true\/X.env.scope.names.lookup x=some .local:=by first|exact .inl rfl|exact .inr rfl):SG X (.Name x pos) (gV i):=
 PG.wk (zeK hN hi hx hf) fun v σ H Q zz=>by
 obtain ⟨F,st,d,Qd,ok,r,h,k⟩:=zz;exact k _ _ (ok.put' (Gr.refl ok.sub) (m:=.sh) ⟨r,rfl⟩ List.nodup_nil (by simp)) h
noncomputable def zbP (g:VG)(tb:VS)(E:VEnds):List D->LSt->Prop
 | [],st=>E.nx st
 |d::ds,st=>g d st fun st1=>tb {E with nx:=zbP g tb E ds,ct:=zbP g tb E ds,bk:=E.nx} st1
noncomputable def zjv (g:VG)(t:VO)(tb:VS):VS:=fun E st=>t st fun _ d=>match d with
 | .lst ds=>zbP g tb E ds st
 |_=>False
theorem zeh {g:VG}{De:Ends}{E:VEnds}{ds:List D}{vs:List V}{i:Nat}{y:V}{σ:St}{F H F' H':Hp}{st':LSt}(hy:vs[i]? =some y)(rr:Reps X.K F H ds vs)(s':Fw X.K F H F' H')(ok':Ok X.K F' H' st' σ)(w:zbP g tb E (ds.drop i) st')(c:Clo X.K F H E De):
  lG X.K g y σ H' fun σ2 H2=>lS X.K tb {De with nx:=fun σ3 H3=>∃ F' st',Fw X.K F H F' H3/\Ok X.K F' H3 st' σ3/\zbP g tb E (ds.drop (i+1)) st',ct:=fun σ3 H3=>∃ F' st',Fw X.K F H F' H3/\Ok X.K F' H3 st' σ3/\zbP g tb E (ds.drop (i+1)) st',bk:=De.nx} σ2 H2:=by
 obtain ⟨d,hd,rd⟩:=rr.at hy;have hlt:i<ds.length:=(List.getElem?_eq_some_iff.mp hd).1;have ed:ds.drop i=d::ds.drop (i+1):=by
  rw [List.drop_eq_getElem_cons hlt];have:=(List.getElem?_eq_some_iff.mp hd).2;rw [this]
 rw [ed] at w;unfold zbP at w;refine ⟨F',st',d,_,ok',Rep.mono s'.f s'.t d y rd,w,fun st2 σ2 ok2 q=>⟨F',st2,_,ok2,q,?_⟩⟩;exact ⟨fun F3 H3 st3 σ3 s3 ok3 n3=>⟨F3,st3,s'.trans s3,ok3,n3⟩,fun F3 H3 st3 σ3 s3 ok3 n3=>c.nx F3 H3 st3 σ3 (s'.trans s3) ok3 n3,fun F3 H3 st3 σ3 s3 ok3 n3=>⟨F3,st3,s'.trans s3,ok3,n3⟩,(c.up s').rt,(c.up s').rd⟩
theorem zf9 {g:VG}{De:Ends}{E:VEnds}{ds:List D}{vs:List V}{a:Addr}{σ:St}{F H:Hp}{st:LSt}(hq:SqL X.K F a vs)(rr:Reps X.K F H ds vs)(ok:Ok X.K F H st σ)(h:zbP g tb E ds st)(c:Clo X.K F H E De):
  ∃ W:Nat->Nat->L2.St->Hp->Prop,(∃ m,W 0 m σ H)/\∀ i m σ H,W i m σ H->
   ((Itl X.K a).stop i H/\De.nx σ H)\/((Itl X.K a).go i H/\∃ N:L2.St->Hp->Prop,(∀ σ' H',N σ' H'->∃ m',m'<m/\W (i+1) m' σ' H')/\∀ x H',(Itl X.K a).yld i H x H'->lG X.K g x σ H' fun σ2 H2=>lS X.K tb {De with nx:=N,ct:=N,bk:=De.nx} σ2 H2):=by
 refine zgL (K:=X.K) (a:=a) (xs:=vs) (g:=lG X.K g) (tb:=lS X.K tb) (D:=De) (fun i σ' H'=>∃ F' st',Fw X.K F H F' H'/\Ok X.K F' H' st' σ'/\zbP g tb E (ds.drop i) st') ⟨F,st,Fw.refl,ok,h⟩ (fun i σ H _ ⟨F',st',s',ok',_⟩=>ok'.sub.seq (s'.f.seq hq)) ?_ ?_
 ·rintro i y σ' H' hy ⟨F',st',s',ok',w⟩;exact zeh hy rr s' ok' w c
 ·rintro σ' H' ⟨F',st',s',ok',w⟩;rw [<-rr.len,List.drop_length] at w;exact c.nx F' H' st' σ' s' ok' w
theorem zh4 {body:List Stmt}{g:VG}{ti:VO}{tg:Expr}(hp:PassesOwn (model X.prog X.w) X.A X.env X.xe)(hc:X.calm=true)(hi:SO X iter ti)(hg:SG X tg g)(hb:SSs X body tb)
  (hs:∀ x,foldedSetIterable iter X.env x=pure x:=by intro _;rfl):SS X (.For tg iter body [] pos) (zjv g ti tb):=PS.wk (zhk hp hc (zhG hi) hg hb hs) fun De σ H zz=>by
 obtain ⟨F,st,E,ok,h,c⟩:=zz;refine ⟨F,st,_,ok,h,fun m d hd v H1 F1 os gr r nd new=>?_⟩;cases d with
 |lst ds=>
  let F2:Hp:=fun b=>if b∈os then H1 b else F1 b
  have hFF:Same F1 F2:=fun b u e=>by
   show (if b∈os then H1 b else F1 b)=some u
   by_cases hb:b∈os
   ·rw [if_pos hb];exact gr.sub b u e
   ·rw [if_neg hb];exact e
  have sub:Same F2 H1:=fun b u e=>by
   have e:(if b∈os then H1 b else F1 b)=some u:=e;by_cases hb:b∈os
   ·rw [if_pos hb] at e;exact e
   ·rw [if_neg hb] at e;exact gr.sub b u e
  have r2:=(r.give hFF fun b hb=>if_pos hb).1;have ok2:Ok X.K F2 H1 st σ:=by
   obtain ⟨O,o⟩:=ok;refine ⟨O,(o.grow gr).stay (Tp.of (Same.refl H1)) hFF sub fun j b hb=>⟨rfl,?_⟩⟩;show (if b∈os then H1 b else F1 b)=none
   rw [if_neg (fun z=>o.newSep new j b z hb)];exact ((o.grow gr).there hb).1
  have s02:Fw X.K F H F2 H1:=Fw.of ((gr.fsame ok.sub).trans hFF) gr.same;unfold Rep at r2;obtain ⟨a,vs,rfl,hq,rr⟩:=r2;exact ⟨a,rfl,⟨vs,sub.seq hq⟩,zf9 hq rr ok2 hd (c.up s02)⟩
 |_=>exact hd.elim
theorem zfD {g:VG}{De:Ends}{E:VEnds}{lo:Int}{n:Nat}{σ:St}{F H:Hp}{st:LSt}(ok:Ok X.K F H st σ)(h:zbP g tb E ((List.range n).map fun k=>.int (lo+(k:Nat))) st)(c:Clo X.K F H E De):
  ∃ W:Nat->Nat->L2.St->Hp->Prop,(∃ m,W 0 m σ H)/\∀ i m σ H,W i m σ H->
   ((Itr lo n).stop i H/\De.nx σ H)\/((Itr lo n).go i H/\∃ N:L2.St->Hp->Prop,(∀ σ' H',N σ' H'->∃ m',m'<m/\W (i+1) m' σ' H')/\∀ x H',(Itr lo n).yld i H x H'->lG X.K g x σ H' fun σ2 H2=>lS X.K tb {De with nx:=N,ct:=N,bk:=De.nx} σ2 H2):=by
 have rr:∀ F H,Reps X.K F H ((List.range n).map fun k=>D.int (lo+(k:Nat))) ((List.range n).map fun k=>V.int (lo+(k:Nat))):=fun F H=>by
  generalize List.range n=l
  induction l with
  |nil=>unfold Reps;rfl
  |cons k l ih=>rw [List.map_cons,List.map_cons];unfold Reps;exact ⟨_,_,rfl,rfl,ih⟩
 refine zfR (lo:=lo) (n:=n) (g:=lG X.K g) (tb:=lS X.K tb) (D:=De) (fun i σ' H'=>∃ F' st',Fw X.K F H F' H'/\Ok X.K F' H' st' σ'/\zbP g tb E (((List.range n).map fun k=>D.int (lo+(k:Nat))).drop i) st') ⟨F,st,Fw.refl,ok,h⟩ ?_ ?_
 ·rintro i σ' H' hi ⟨F',st',s',ok',w⟩;exact zeh (by rw [List.getElem?_map,List.getElem?_range hi];rfl) (rr F H) s' ok' w c
 ·rintro σ' H' ⟨F',st',s',ok',w⟩;rw [List.drop_eq_nil_of_le (by simp)] at w;exact c.nx F' H' st' σ' s' ok' w
noncomputable def zgX (g:VG)(t:VAs)(tb:VS):VS:=fun E st=>t st fun ds=>match ds with
 | [.int j]=>(-(2 ^ 62)<=j/\j<2 ^ 62)/\zbP g tb E ((List.range j.toNat).map fun k=>.int (0+(k:Nat))) st
 |_=>False
theorem zhq {body:List Stmt}{g:VG}{ti:VAs}{tg:Expr}{p2:Pos}(hp:PassesOwn (model X.prog X.w) X.A X.env X.xe)(hc:X.calm=true)(hm:X.mg "range"=none)(hi:SA X [a] ti)(hg:SG X tg g)(hb:SSs X body tb)(hgl:Gl X "range":=by rfl)
  (hst:starEach [a] X.env=[(false,eval a X.env)]:=by rfl)(hs:∀ x,foldedSetIterable (.Call (.Name "range" p) [a] [] p2) X.env x=pure x:=by intro _;rfl):SS X (.For tg (.Call (.Name "range" p) [a] [] p2) body [] pos) (zgX g ti tb):=
 PS.wk (zhk hp hc (zdY hgl hm hi hst) hg hb hs) fun De σ H zz=>by
 obtain ⟨F,st,E,ok,h,c⟩:=zz;refine ⟨F,st,_,ok,h,fun ds hd vs H1 s1 r=>?_⟩;split at hd
 ·obtain ⟨v,rfl,r1⟩:=zfB r;obtain rfl:v=_:=r1;exact ⟨_,rfl,hd.1.1,hd.1.2,zfD (ok.same s1) hd.2 (c.up (Fw.hs s1))⟩
 ·exact hd.elim
end
section
variable {P:Program}{w:World}{K:PySem.W.Frag}{mg:Str->Option Value}{base:Heap}
noncomputable def zbl (N:List Str)(ds:List D):LSt:=ds.map (fun d=>some (.sh,d))++List.replicate (N.length - ds.length) none
theorem zdq {H:Hp}{N:List Str}{ds:List D}{vs:List V}(r:Reps K H H ds vs):Ok K H H (zbl N ds) (zcr N vs):=by
 have hl:=r.len;refine ⟨fun _=>[],?_,Same.refl H,fun i m d e=>?_,fun _=>List.nodup_nil,(fun i j a ha=>nomatch ha),fun _ _=>rfl⟩
 ·unfold L2.zcr zbl;rw [List.length_append,List.length_append,List.length_map,List.length_map,List.length_replicate,List.length_replicate,hl]
 ·unfold zbl at e;by_cases hi:i<ds.length
  ·rw [List.getElem?_append_left (by simpa using hi),List.getElem?_map] at e;cases z:ds[i]? with
   |none=>rw [z] at e;cases e
   |some d'=>
    rw [z] at e;have e':(Md.sh,d')=(m,d):=Option.some.inj (Option.some.inj e);cases e';obtain ⟨v,hv,rv⟩:=r.at' z;refine ⟨v,?_,rv,rfl⟩;unfold L2.zcr;rw [List.getElem?_append_left (by rw [List.length_map,<-hl];exact hi),List.getElem?_map,hv];rfl
  ·rw [List.getElem?_append_right (by simpa using hi),List.getElem?_replicate] at e;split at e<;>cases e
theorem okV {x qual:Str}{st:Stmt}{f:Addr}{fd:FuncData}{N ps:List Str}{k:Nat}{m:VF}{t:VS}(F:Fun K x qual st f fd)(S:FnScope N ps (zaa st))(hlen:∀ ds Q,m ds Q->ds.length=ps.length)
  (hb:∀ (cdv:Value) (A:Around) (outer:List Env) (s:Shared) (H:Hp) (E:XK),Room k (A.deeper (envOfC qual (zaa st) s.heap.objs.size f cdv))->SSs (zd4 CX0 P w K mg base N qual (zaa st) f cdv A outer s H E).nox (zai st) t)
  (hv:∀ ds Q,m ds Q->t {nx:=fun _=>Q .sh .non,rt:=Q} (zbl N ds)):FnOk P w K mg base CX0 (k+1) f fd ps (spV K m):=by
 refine F.ok S (fun vs H Q E ⟨ds,Qd,r,h,_⟩=>by rw [<-r.len];exact hlen ds Qd h) fun cdv A outer s H vs Q E hr ⟨ds,Qd,r,h,c⟩=>⟨_,hb cdv A outer s H E hr,H,_,_,zdq r,hv ds Qd h,?_⟩;have new:∀ {F' H':Hp} {md:Md} {d:D} {v:V} {os:List Addr},Same H F'->Same F' H'->RepM K F' H' md d v os->Gr H H F' H'/\∀ a∈os,H a=none:=fun {F' H' md d v os} s1 s2 r=>by
  refine ⟨⟨s1.trans s2,fun b o e=>(s1 b o e).trans e.symm,s2⟩,fun a ha=>?_⟩;cases z:H a with
  |none=>rfl
  |some o=>
   have:=s1 _ _ z;rw [(r.there a ha).1] at this;cases this
 refine ⟨fun F' H' st' σ' fw ok q=>?_,fun _ _ _ _ _ _ q=>q.elim,fun _ _ _ _ _ _ q=>q.elim,fun F' H' md d v os fw s2 r nd q=>?_,fun _ _ _ _ _ _ _ _ _ q=>q.elim⟩
 ·exact c _ _ q .non H' F' [] ⟨fw.f.trans ok.sub,fun b o e=>(fw.f b o e).trans e.symm,ok.sub⟩ ⟨rfl,rfl⟩ List.nodup_nil (by simp)
 ·obtain ⟨g,n⟩:=new fw.f s2 r;exact c _ _ q v H' F' os g r nd n
theorem zh5 {x qual:Str}{st:Stmt}{f:Addr}{fd:FuncData}{N ps:List Str}{k:Nat}{m:VF}{t:VS}(F:Fun K x qual st f fd)(hm:mg x=some (.ref f))(hbi:Binds K fd ps [])(S:FnScope N ps (zaa st))(hlen:∀ ds Q,m ds Q->ds.length=ps.length)
  (hb:∀ (cdv:Value) (A:Around) (outer:List Env) (s:Shared) (H:Hp) (E:XK),Room k (A.deeper (envOfC qual (zaa st) s.heap.objs.size f cdv))->SSs (zd4 CX0 P w K mg base N qual (zaa st) f cdv A outer s H E).nox (zai st) t)
  (hv:∀ ds Q,m ds Q->t {nx:=fun _=>Q .sh .non,rt:=Q} (zbl N ds)):Cal P w K mg base (k+1) x m:=⟨f,fd,ps,okV F S hlen hb hv,hm,F.kp,hbi⟩
end
noncomputable def zdr (st:LSt):LSt:=st.map fun o=>match o with
 |some (.dw t k,d)=>some (.ds t k,d)
 |some (.ds t k,d)=>some (.ds t k,d)
 |some (_,d)=>some (.sh,d)
 |none=>none
theorem zga {st:LSt}{i:Nat}{m:Md}{d:D}(h:(zdr st)[i]? =some (some (m,d))):(∃ m',ziK m'=false/\m= .sh/\st[i]? =some (some (m',d)))\/∃ t k,m= .ds t k/\(st[i]? =some (some (.dw t k,d))\/st[i]? =some (some (.ds t k,d))):=by
 unfold zdr at h;rw [List.getElem?_map] at h;cases e:st[i]? with
 |none=>rw [e] at h;cases h
 |some o=>
  rw [e] at h;cases o with
  |none=>have h':some (none:Option (Md×D))=some (some (m,d)):=h;cases h'
  |some p=>
   obtain ⟨m',d'⟩:=p;cases m' with
   |dw t k=>
    have h':(Md.ds t k,d')=(m,d):=Option.some.inj (Option.some.inj h);cases h';exact .inr ⟨t,k,rfl,.inl rfl⟩
   |ds t k=>
    have h':(Md.ds t k,d')=(m,d):=Option.some.inj (Option.some.inj h);cases h';exact .inr ⟨t,k,rfl,.inr rfl⟩
   |sh=>
    have h':(Md.sh,d')=(m,d):=Option.some.inj (Option.some.inj h);cases h';exact .inl ⟨_,rfl,rfl,rfl⟩
   |o1=>
    have h':(Md.sh,d')=(m,d):=Option.some.inj (Option.some.inj h);cases h';exact .inl ⟨_,rfl,rfl,rfl⟩
   |ow=>
    have h':(Md.sh,d')=(m,d):=Option.some.inj (Option.some.inj h);cases h';exact .inl ⟨_,rfl,rfl,rfl⟩
   |oa a=>
    have h':(Md.sh,d')=(m,d):=Option.some.inj (Option.some.inj h);cases h';exact .inl ⟨_,rfl,rfl,rfl⟩
theorem Ok.view {K:PySem.W.Frag}{F H:Hp}{st:LSt}{σ:St}(ok:Ok K F H st σ):Ok K H H (zdr st) σ:=by
 refine ⟨fun _=>[],?_,Same.refl H,fun i m d e=>?_,fun _=>List.nodup_nil,(fun i j a ha=>nomatch ha),fun _ _=>rfl⟩
 ·unfold zdr;rw [List.length_map];exact ok.len
 ·rcases zga e with ⟨m',hm,em,e2⟩|⟨t,k,em,e2⟩
  ·obtain ⟨v,e1,r⟩:=ok.get e2 (.inl hm);subst em;exact ⟨v,e1,r,rfl⟩
  ·obtain ⟨O,o⟩:=ok;subst em;rcases e2 with e2|e2
   ·obtain ⟨v,e1,ed,a,ea,_,_,r⟩:=o.rep i _ _ e2;exact ⟨v,e1,ed,a,ea,rfl,r⟩
   ·obtain ⟨v,e1,ed,a,ea,_,r⟩:=o.rep i _ _ e2;exact ⟨v,e1,ed,a,ea,rfl,r.same o.sub (Tp.of (Same.refl H))⟩
theorem Ok.none {K:PySem.W.Frag}{F H:Hp}{st:LSt}{σ:St}(ok:Ok K F H st σ)(k:Nat):Ok K F H (List.replicate k none++st) (List.replicate k none++σ):=by
 obtain ⟨O,o⟩:=ok;refine ⟨fun i=>if i<k then [] else O (i - k),by rw [List.length_append,List.length_append,List.length_replicate,List.length_replicate,o.len],o.sub,fun i m d e=>?_,fun i=>?_,fun i j a ha hb=>?_,fun i hi=>?_⟩
 ·by_cases h:i<k
  ·rw [List.getElem?_append_left (by simpa using h),List.getElem?_replicate] at e;split at e<;>cases e
  ·rw [List.getElem?_append_right (by simpa using h),List.length_replicate] at e ⊢;obtain ⟨v,e1,r⟩:=o.rep _ m d e;refine ⟨v,e1,?_⟩;show RepS K F H m d v (if i<k then [] else O (i - k))
   rw [if_neg h];exact r
 ·show (if i<k then [] else O (i - k)).Nodup
  split
  ·exact List.nodup_nil
  ·exact o.nd _
 ·have ha:a∈(if i<k then [] else O (i - k)):=ha;have hb:a∈(if j<k then [] else O (j - k)):=hb;split at ha
  ·cases ha
  ·split at hb
   ·cases hb
   ·have:=o.dj _ _ a ha hb;omega
 ·show (if i<k then [] else O (i - k))=[]
  split
  ·rfl
  ·rename_i h;refine o.emp _ fun m d e=>hi m d ?_;rw [List.getElem?_append_right (by simpa using h),List.length_replicate];exact e
noncomputable def zgF (c:VT)(e:VE)(st:LSt):List D->List D->(List D->Prop)->Prop
 | [],acc,Q=>Q acc
 |d::ds,acc,Q=>c (some (.sh,d)::st) fun b=>if b=true then e (some (.sh,d)::st) fun y=>zgF c e st ds (acc++[y]) Q else zgF c e st ds acc Q
noncomputable def zfE (src:VAs)(c:VT)(e:VE):VAs:=fun st Q=>src st fun ds=>ds.length<=sizeLine/\zgF c e (zdr st) ds [] Q
noncomputable def zhr (K:PySem.W.Frag)(J:It)(H:Hp)(ds:List D):Prop:=∀ H2,Same H H2->(∀ i,i<ds.length->J.go i H2)/\J.stop ds.length H2/\∀ i x H3,i<ds.length->J.yld i H2 x H3->H3=H2/\∃ d,ds[i]? =some d/\Rep K H2 H2 d x
noncomputable def lI (K:PySem.W.Frag)(t:VAs):TI:=fun σ H R=>∃ F st Qd,Ok K F H st σ/\t st Qd/\∀ ds,Qd ds->∀ J H',Same H H'->zhr K J H' ds->R J H'
noncomputable def SI (X:Cx)(tg iter:Expr)(t:VAs):Prop:=PI X tg iter (lI X.K t)
noncomputable def SCl (X:Cx)(ifs:List Expr)(t:VT):Prop:=PCl X ifs (lT X.K t)
noncomputable def zgb:VT:=fun _ Q=>Q true
section
variable {X:Cx}{tg l a b c elt iter:Expr}{es ifs:List Expr}{t tr:VAs}{ta:VE}{pos p:Pos}
theorem zgc:SCl X [] zgb:=fun pins s σ H Q I zz=>by
 obtain ⟨F,st,Qd,ok,h,k⟩:=zz;exact zhR pins s σ H Q I (k _ h H (Same.refl H))
theorem PI.wk {t t':TI}(h:PI X tg iter t)(hm:∀ σ H R,t' σ H R->t σ H R):PI X tg iter t':=fun pins s σ H R I q=>h pins s σ H R I (hm σ H R q)
theorem zei {K:PySem.W.Frag}{H:Hp}(lo:Int)(n:Nat):zhr K (Itr lo n) H ((List.range n).map fun k=>.int (lo+(k:Nat))):=fun H2 s2=>by
 have hl:((List.range n).map fun k=>D.int (lo+(k:Nat))).length=n:=by simp
 refine ⟨fun i hi=>by rw [hl] at hi;exact hi,by rw [hl];exact Nat.le_refl n,fun i x H3 hi y=>?_⟩;rw [hl] at hi;exact ⟨y.1,.int (lo+i),by rw [List.getElem?_map,List.getElem?_range hi];rfl,y.2⟩
noncomputable def zj2 (t:VAs):VAs:=fun st Q=>t st fun ds=>match ds with
 | [.int j]=>(-(2 ^ 62)<=j/\j<2 ^ 62)/\Q ((List.range j.toNat).map fun k=>.int (0+(k:Nat)))
 |_=>False
theorem zhs {p2:Pos}(hm:X.mg "range"=none)(hi:SA X [a] t)(hgl:Gl X "range":=by rfl)(hst:starEach [a] X.env=[(false,eval a X.env)]:=by rfl):SI X tg (.Call (.Name "range" p) [a] [] p2) (zj2 t):=
 PI.wk (zdY hgl hm hi hst) fun σ H R zz=>by
 obtain ⟨F,st,Qd,ok,h,k⟩:=zz;exact ⟨F,st,_,ok,h,fun ds hd vs H1 s1 r=>by
  split at hd
  ·obtain ⟨v,rfl,r1⟩:=zfB r;obtain rfl:v=_:=r1;exact ⟨_,rfl,hd.1.1,hd.1.2,k _ hd.2 _ H1 s1 (zei 0 _)⟩
  ·exact hd.elim⟩
theorem zht {src:VAs}{c:VT}{e:VE}{σ:St}{H:Hp}{Q:VK}(h:lN X.K (zfE src c e) σ H Q):zhS (lI X.K src) 1 (zeJ 0) (lT X.K c) (lB X.K e) σ H Q:=by
 obtain ⟨F,st,Qd,ok,h,k⟩:=h;refine ⟨F,st,_,ok,h,fun ds hd J H1 s1 yl=>?_⟩;refine ⟨fun i m ys H2=>∃ acc,Same H1 H2/\Reps X.K H2 H2 acc ys/\acc.length<=i/\i<=ds.length/\m=ds.length - i/\zgF c e (zdr st) (ds.drop i) acc Qd,⟨ds.length,[],Same.refl _,by unfold Reps;rfl,Nat.le_refl _,Nat.zero_le _,rfl,hd.2⟩,?_⟩;rintro i m ys H2 ⟨acc,s2,ra,la,hi,rfl,w⟩;obtain ⟨y1,y2,y3⟩:=yl H2 s2;have hys:ys.length<=sizeLine:=by rw [<-ra.len];exact Nat.le_trans la (Nat.le_trans hi hd.1)
 by_cases hlt:i<ds.length
 ·refine .inr ⟨y1 i hlt,hys,fun ys' H'=>∃ acc',Same H1 H'/\Reps X.K H' H' acc' ys'/\acc'.length<=i+1/\zgF c e (zdr st) (ds.drop (i+1)) acc' Qd,fun ys' H' ⟨acc',a1,a2,a3,a4⟩=>⟨_,by omega,acc',a1,a2,a3,hlt,rfl,a4⟩,fun x H3 yy=>?_⟩;obtain ⟨rfl,d,hdi,rd⟩:=y3 i x H3 hlt yy;have ed:ds.drop i=d::ds.drop (i+1):=by
   rw [List.drop_eq_getElem_cons hlt,(List.getElem?_eq_some_iff.mp hdi).2]
  rw [ed] at w;unfold zgF at w;refine ⟨⟨rfl,by show (some x::σ).length=1+σ.length;rw [List.length_cons,Nat.add_comm]⟩,?_⟩;have okb:∀ {H4:Hp},Same H3 H4->Ok X.K H4 H4 (some (.sh,d)::zdr st) (some x::σ):=fun {H4} s4=>by
   have o1:=(((ok.same (s1.trans (s2.trans s4))).view).none 1);have o2:=o1.put' (i:=0) (Gr.refl o1.sub) (m:=.sh) (d:=d) (v:=x) ⟨Rep.mono s4 (Tp.of s4) d x rd,rfl⟩ List.nodup_nil (by simp);exact o2
  refine ⟨_,_,_,okb (Same.refl _),w,fun bb hb H4 s4=>?_⟩;cases bb with
  |true=>
   rw [if_pos rfl] at hb ⊢;exact ⟨_,_,_,okb s4,hb,fun y hy v H5 s5 rv=>⟨acc++[y],s2.trans (s4.trans s5),(Reps.mono (s4.trans s5) (Tp.of (s4.trans s5)) acc ys ra).append (Reps.one rv),by rw [List.length_append,List.length_singleton];omega,hy⟩⟩
  |false=>
   rw [if_neg Bool.false_ne_true] at hb ⊢;exact ⟨acc,s2.trans s4,Reps.mono s4 (Tp.of s4) acc ys ra,by omega,hb⟩
 ·have e:i=ds.length:=by omega
  subst e;rw [List.drop_length] at w;exact .inl ⟨y2,hys,fun p hp=>k acc w ys H2 p (s1.trans s2) ra hp⟩
variable {y:Str}{py spos:Pos}{R:List Str}{scope:Scope}{src:VAs}{ct:VT}{ee:VE}
theorem zh6 (hc:X.calm=true)(hNd:(y::R).Nodup)(hi:SI X (.Name y py) iter src)(ht:∀ fp L s H,SCl (cxC X (y::R) scope fp L s H) ifs ct)(he:∀ fp L s H,SB (cxC X (y::R) scope fp L s H) elt ee)
  (hch:zce R X.N scope.names X.env.scope.names=true:=by rfl)(hx:∀ fp L s H,Loc (cxC X (y::R) scope fp L s H).env.scope y:=by intros;first|exact Or.inl rfl|exact Or.inr rfl)
  (hf:∀ fp L s H,(cxC X (y::R) scope fp L s H).fn y=true\/(cxC X (y::R) scope fp L s H).env.scope.names.lookup y=some .local:=by intros;first|exact .inl rfl|exact .inr rfl)
  (hk:scope.kind= .function:=by rfl)(hs:∀ x,foldedSetIterable iter X.env x=pure x:=by intro _;rfl):SN X (.ListComp elt [⟨.Name y py,iter,ifs,0⟩] scope pos) (zfE src ct ee):=
 PE.wk (zhT (N:=y::R) (tn:=[y]) (g:=zeJ 0) (tc:=lT X.K ct) (te:=lB X.K ee) hc hi rfl hch (fun fp L s H=>zeK hNd rfl (hx fp L s H) (hf fp L s H)) ht he hk hs) fun _ _ _ h=>zht h
theorem zjw {i:Nat}{z:Str}{pz:Pos}(hc:X.calm=true)(hX:X.N.Nodup)(hNd:(y::R).Nodup)(hi:SI X (.Name y py) iter src)(ht:∀ fp L s H,SCl (cxC X (y::R) scope fp L s H) ifs ct)(he:∀ fp L s H,SB (cxC X (y::R) scope fp L s H) elt ee)
  (hz:X.N[i]? =some z:=by rfl)(hl:Loc X.env.scope z:=by first|exact Or.inl rfl|exact Or.inr rfl)
  (hch:zce R X.N scope.names X.env.scope.names=true:=by rfl)(hx:∀ fp L s H,Loc (cxC X (y::R) scope fp L s H).env.scope y:=by intros;first|exact Or.inl rfl|exact Or.inr rfl)
  (hf:∀ fp L s H,(cxC X (y::R) scope fp L s H).fn y=true\/(cxC X (y::R) scope fp L s H).env.scope.names.lookup y=some .local:=by intros;first|exact .inl rfl|exact .inr rfl)
  (hsw:swapsWith (.ListComp elt [⟨.Name y py,iter,ifs,0⟩] scope pos) (some (.Name z pz)) spos.line X.env=pure true:=by rfl)(hfz:X.fn z=true\/X.env.scope.names.lookup z=some .local:=by first|exact .inl rfl|exact .inr rfl)
  (hk:scope.kind= .function:=by rfl)(hs:∀ x,foldedSetIterable iter X.env x=pure x:=by intro _;rfl):SS X (.Assign [.Name z pz] (.ListComp elt [⟨.Name y py,iter,ifs,0⟩] scope pos) spos) (zeG i (zf3 (zfE src ct ee))):=
 PS.wk (zhU (N:=y::R) (tn:=[y]) (g:=zeJ 0) (tc:=lT X.K ct) (te:=lB X.K ee) hc hX hz hl hi rfl hch (fun fp L s H=>zeK hNd rfl (hx fp L s H) (hf fp L s H)) ht he hsw hfz hk hs) fun De σ H zz=>by
 obtain ⟨F,st,E,ok,h,c⟩:=zz;refine zht (X:=X) ⟨F,st,_,ok,h,fun ds hd vs H' p s r hp=>?_⟩;obtain ⟨g,r2⟩:=zff (ok.same s).sub hp r hd.1;have g':=(Gr.of ok.sub s).trans g;refine c.nx F _ _ _ (Fw.of (Same.refl F) g'.same) (ok.put' g' r2 (by simp) fun a ha=>?_) hd.2;rw [List.mem_singleton] at ha;subst ha;exact s.free hp
end
open PySem PySem.Spec PyProof.Rows L2 PySem.SeqAt
mutual
noncomputable def deq:D->D->Bool
 | .non,.non=>true
 | .bl a,.bl b=>a==b
 | .bl a,.int b=>(if a then 1 else 0)==b
 | .int a,.bl b=>a==(if b then 1 else 0)
 | .int a,.int b=>a==b
 | .str a,.str b=>a==b
 | .ins a,.ins b=>a==b
 | .tup xs,.tup ys=>deqs xs ys
 | .lst xs,.lst ys=>deqs xs ys
 |_,_=>false
noncomputable def deqs:List D->List D->Bool
 | [],[]=>true
 |x::xs,y::ys=>deq x y&&deqs xs ys
 |_,_=>false
end
mutual
noncomputable def D.dep:D->Nat
 | .tup xs=>deps xs+1
 | .lst xs=>deps xs+1
 | .ins _=>1000000
 |_=>0
noncomputable def deps:List D->Nat
 | []=>0
 |x::r=>max (D.dep x) (deps r)
end
mutual
theorem zbX:∀ d:D,deq d d=true
 | .non=>by unfold deq;rfl
 | .bl _=>by unfold deq;simp
 | .int _=>by unfold deq;simp
 | .str _=>by unfold deq;simp
 | .ins _=>by unfold deq;simp
 | .tup xs=>by unfold deq;exact deqs_refl xs
 | .lst xs=>by unfold deq;exact deqs_refl xs
theorem deqs_refl:∀ ds:List D,deqs ds ds=true
 | []=>by unfold deqs;rfl
 |x::r=>by unfold deqs;rw [zbX x,deqs_refl r];rfl
end
theorem zgd (xs ys:List D):deq (.tup xs) (.tup ys)=deqs xs ys:=by unfold deq;rfl
theorem zds (xs ys:List D):deq (.lst xs) (.lst ys)=deqs xs ys:=by unfold deq;rfl
theorem zbY:∀ {xs ys:List D},xs.length≠ys.length->deqs xs ys=false
 | [],[],h=>absurd rfl h
 | [],_::_,_=>by unfold deqs;rfl
 |_::_,[],_=>by unfold deqs;rfl
 |x::xs,y::ys,h=>by unfold deqs;rw [zbY (xs:=xs) (ys:=ys) (by simpa using h),Bool.and_false]
theorem zbZ:∀ {xs ys:List D},xs.length=ys.length->deqs xs ys=(List.range xs.length).all fun j=>deq (xs.getD j .non) (ys.getD j .non)
 | [],[],_=>by unfold deqs;rfl
 | [],_::_,h=>by simp at h
 |_::_,[],h=>by simp at h
 |x::xs,y::ys,h=>by
  unfold deqs;rw [zbZ (xs:=xs) (ys:=ys) (by simpa using h),List.length_cons,List.range_succ_eq_map,List.all_cons,List.all_map];rfl
theorem za7:∀ {xs:List D} {j:Nat} {d:D},xs[j]? =some d->d.dep<=deps xs
 | [],_,_,h=>by simp at h
 |x::xs,0,d,h=>by
  unfold deps;have:x=d:=by simpa using h
  subst this;omega
 |x::xs,j+1,d,h=>by
  unfold deps;have:=za7 (xs:=xs) (j:=j) (d:=d) (by simpa using h);omega
section
variable {X:Cx}{pins:List (Addr×Obj)}{σ:St}{H:Hp}{s:Shared}
theorem not_both (I:Inv X pins σ H s){a:Addr}{xs ys:List V}(h:SqL X.K H a xs)(h':SqT X.K H a ys):False:=by
 obtain ⟨its,r,⟨o,n,e,c,_,d⟩,_⟩:=I.list h;obtain ⟨its',r',⟨o',e',c',n',d'⟩,_⟩:=I.tuple h';rw [e] at e';cases e';rw [c] at c';exact absurd c' (by simp)
theorem not_insL (I:Inv X pins σ H s){a c dx:Addr}{xs:List V}(h:H a=some (.ins c dx []))(h':SqL X.K H a xs):False:=by
 obtain ⟨its,r,⟨o,n,e,cl,_,d⟩,_⟩:=I.list h';obtain ⟨_,_,_,q,_⟩:=(show ObjOk _ _ _ _ a (.ins c dx []) from I.hok a _ h);rw [e] at q;cases q;cases cl
theorem not_insT (I:Inv X pins σ H s){a c dx:Addr}{xs:List V}(h:H a=some (.ins c dx []))(h':SqT X.K H a xs):False:=by
 obtain ⟨its,r,⟨o,e,cl,d⟩,_⟩:=I.tuple h';obtain ⟨_,_,_,q,_⟩:=(show ObjOk _ _ _ _ a (.ins c dx []) from I.hok a _ h);rw [e] at q;cases q;cases cl
mutual
theorem rep_det (I:Inv X pins σ H s):∀ (d e:D) (v:V),Rep X.K H H d v->Rep X.K H H e v->d=e
 | .non,.non,_,_,_=>rfl
 | .bl a,.bl b,_,h,h'=>by unfold Rep at h h';subst h;injection h' with z;rw [z]
 | .int a,.int b,_,h,h'=>by unfold Rep at h h';subst h;injection h' with z;rw [z]
 | .str a,.str b,_,h,h'=>by unfold Rep at h h';subst h;injection h' with z;rw [z]
 | .tup xs,.tup ys,v,h,h'=>by
  unfold Rep at h h';obtain ⟨a,vs,e,q,r⟩:=h;obtain ⟨b,ws,e',q',r'⟩:=h';subst e;injection e' with z;subst z;have z:=I.tuple_inj q q';subst z;rw [reps_det I xs ys vs r r']
 | .lst xs,.lst ys,v,h,h'=>by
  unfold Rep at h h';obtain ⟨a,vs,e,q,r⟩:=h;obtain ⟨b,ws,e',q',r'⟩:=h';subst e;injection e' with z;subst z;have z:=I.list_inj q q';subst z;rw [reps_det I xs ys vs r r']
 | .tup xs,.lst ys,v,h,h'=>by
  unfold Rep at h h';obtain ⟨a,vs,e,q,r⟩:=h;obtain ⟨b,ws,e',q',r'⟩:=h';subst e;injection e' with z;subst z;exact (not_both I q' q).elim
 | .lst xs,.tup ys,v,h,h'=>by
  unfold Rep at h h';obtain ⟨a,vs,e,q,r⟩:=h;obtain ⟨b,ws,e',q',r'⟩:=h';subst e;injection e' with z;subst z;exact (not_both I q q').elim
 | .ins a,.ins b,v,h,h'=>by
  unfold Rep at h h';obtain ⟨x,dx,e,q⟩:=h;obtain ⟨y,dy,e',q'⟩:=h';subst e;injection e' with z;subst z;rw [q] at q';injection q' with z;injection z with z;rw [z]
 | .ins _,.lst ys,v,h,h'=>by
  unfold Rep at h h';obtain ⟨x,dx,e,q⟩:=h;obtain ⟨b,ws,e',q',r'⟩:=h';subst e;injection e' with z;subst z;exact (not_insL I q q').elim
 | .lst ys,.ins _,v,h',h=>by
  unfold Rep at h h';obtain ⟨x,dx,e,q⟩:=h;obtain ⟨b,ws,e',q',r'⟩:=h';subst e;injection e' with z;subst z;exact (not_insL I q q').elim
 | .ins _,.tup ys,v,h,h'=>by
  unfold Rep at h h';obtain ⟨x,dx,e,q⟩:=h;obtain ⟨b,ws,e',q',r'⟩:=h';subst e;injection e' with z;subst z;exact (not_insT I q q').elim
 | .tup ys,.ins _,v,h',h=>by
  unfold Rep at h h';obtain ⟨x,dx,e,q⟩:=h;obtain ⟨b,ws,e',q',r'⟩:=h';subst e;injection e' with z;subst z;exact (not_insT I q q').elim
 | .non,.ins _,_,h,h'=>by unfold Rep at h h';subst h;obtain ⟨_,_,z,_⟩:=h';cases z
 | .ins _,.non,_,h',h=>by unfold Rep at h h';subst h;obtain ⟨_,_,z,_⟩:=h';cases z
 | .bl _,.ins _,_,h,h'=>by unfold Rep at h h';subst h;obtain ⟨_,_,z,_⟩:=h';cases z
 | .ins _,.bl _,_,h',h=>by unfold Rep at h h';subst h;obtain ⟨_,_,z,_⟩:=h';cases z
 | .int _,.ins _,_,h,h'=>by unfold Rep at h h';subst h;obtain ⟨_,_,z,_⟩:=h';cases z
 | .ins _,.int _,_,h',h=>by unfold Rep at h h';subst h;obtain ⟨_,_,z,_⟩:=h';cases z
 | .str _,.ins _,_,h,h'=>by unfold Rep at h h';subst h;obtain ⟨_,_,z,_⟩:=h';cases z
 | .ins _,.str _,_,h',h=>by unfold Rep at h h';subst h;obtain ⟨_,_,z,_⟩:=h';cases z
 | .non,.bl _,_,h,h'=>by unfold Rep at h h';subst h;cases h'
 | .non,.int _,_,h,h'=>by unfold Rep at h h';subst h;cases h'
 | .non,.str _,_,h,h'=>by unfold Rep at h h';subst h;cases h'
 | .non,.tup _,_,h,h'=>by unfold Rep at h h';subst h;obtain ⟨_,_,z,_⟩:=h';cases z
 | .non,.lst _,_,h,h'=>by unfold Rep at h h';subst h;obtain ⟨_,_,z,_⟩:=h';cases z
 | .bl _,.non,_,h,h'=>by unfold Rep at h h';subst h;cases h'
 | .bl _,.int _,_,h,h'=>by unfold Rep at h h';subst h;cases h'
 | .bl _,.str _,_,h,h'=>by unfold Rep at h h';subst h;cases h'
 | .bl _,.tup _,_,h,h'=>by unfold Rep at h h';subst h;obtain ⟨_,_,z,_⟩:=h';cases z
 | .bl _,.lst _,_,h,h'=>by unfold Rep at h h';subst h;obtain ⟨_,_,z,_⟩:=h';cases z
 | .int _,.non,_,h,h'=>by unfold Rep at h h';subst h;cases h'
 | .int _,.bl _,_,h,h'=>by unfold Rep at h h';subst h;cases h'
 | .int _,.str _,_,h,h'=>by unfold Rep at h h';subst h;cases h'
 | .int _,.tup _,_,h,h'=>by unfold Rep at h h';subst h;obtain ⟨_,_,z,_⟩:=h';cases z
 | .int _,.lst _,_,h,h'=>by unfold Rep at h h';subst h;obtain ⟨_,_,z,_⟩:=h';cases z
 | .str _,.non,_,h,h'=>by unfold Rep at h h';subst h;cases h'
 | .str _,.bl _,_,h,h'=>by unfold Rep at h h';subst h;cases h'
 | .str _,.int _,_,h,h'=>by unfold Rep at h h';subst h;cases h'
 | .str _,.tup _,_,h,h'=>by unfold Rep at h h';subst h;obtain ⟨_,_,z,_⟩:=h';cases z
 | .str _,.lst _,_,h,h'=>by unfold Rep at h h';subst h;obtain ⟨_,_,z,_⟩:=h';cases z
 | .tup _,.non,_,h',h=>by unfold Rep at h h';subst h;obtain ⟨_,_,z,_⟩:=h';cases z
 | .tup _,.bl _,_,h',h=>by unfold Rep at h h';subst h;obtain ⟨_,_,z,_⟩:=h';cases z
 | .tup _,.int _,_,h',h=>by unfold Rep at h h';subst h;obtain ⟨_,_,z,_⟩:=h';cases z
 | .tup _,.str _,_,h',h=>by unfold Rep at h h';subst h;obtain ⟨_,_,z,_⟩:=h';cases z
 | .lst _,.non,_,h',h=>by unfold Rep at h h';subst h;obtain ⟨_,_,z,_⟩:=h';cases z
 | .lst _,.bl _,_,h',h=>by unfold Rep at h h';subst h;obtain ⟨_,_,z,_⟩:=h';cases z
 | .lst _,.int _,_,h',h=>by unfold Rep at h h';subst h;obtain ⟨_,_,z,_⟩:=h';cases z
 | .lst _,.str _,_,h',h=>by unfold Rep at h h';subst h;obtain ⟨_,_,z,_⟩:=h';cases z
theorem reps_det (I:Inv X pins σ H s):∀ (ds es:List D) (vs:List V),Reps X.K H H ds vs->Reps X.K H H es vs->ds=es
 | [],[],_,_,_=>rfl
 | [],_::_,vs,h,h'=>by unfold Reps at h h';subst h;obtain ⟨_,_,z,_⟩:=h';cases z
 |_::_,[],vs,h',h=>by unfold Reps at h h';subst h;obtain ⟨_,_,z,_⟩:=h';cases z
 |x::xs,y::ys,vs,h,h'=>by
  unfold Reps at h h';obtain ⟨v,r,e,a,b⟩:=h;obtain ⟨v',r',e',a',b'⟩:=h';subst e;injection e' with z1 z2;subst z1 z2;rw [rep_det I x y v a a',reps_det I xs ys r b b']
end
theorem za8:∀ {xs:List V} {us:List Value} {j:Nat} {u:Value},Vals xs us->us[j]? =some u->∃ x,xs[j]? =some x/\RelV x u
 |_,_,j,u,.nil,h=>by simp at h
 |_,_,0,u,.cons (a:=x) r t,h=>⟨x,rfl,by
  rw [List.getElem?_cons_zero] at h;have h:=Option.some.inj h;rw [<-h];exact r⟩
 |_,_,j+1,u,.cons r t,h=>by
  obtain ⟨x,e,q⟩:=za8 (j:=j) t (by simpa using h);exact ⟨x,by simpa using e,q⟩
theorem zak {h:Heap}{a:Addr}{its:Array Value}(p:PlainL h a its):h.IsList a its:=let ⟨o,n,e,c,_,d⟩:=p;⟨o,e,c,n,d⟩
theorem zdt (I:Inv X pins σ H s):∀ (n:Nat) (A:Around) (d e:D) (x y:V) (u v:Value),d.dep<=n->e.dep<1000000->A.units+n<cLine->Rep X.K H H d x->Rep X.K H H e y->RelV x u->RelV y v->EqAt A s u v (deq d e)/\RcAt A s u v (deq d e):=by
 intro n
 induction n using Nat.strongRecOn with
 |ind n ih=>
  intro A d e x y u v hn hz hu rd re ru rv;have hu0:A.units<cLine:=by omega
  cases d with
  |ins c=>unfold D.dep at hn;rw [show cLine=9900 from rfl] at hu;omega
  |non=>
   unfold Rep at rd;subst rd;cases ru;cases e with
   |ins c=>exact absurd hz (by unfold D.dep;omega)
   |non=>unfold Rep at re;subst re;cases rv;unfold deq;exact ⟨EqAt.same _,RcAt.none_none⟩
   |bl b=>unfold Rep at re;subst re;cases rv;unfold deq;exact ⟨EqAt.none_bool _,RcAt.none_bool _⟩
   |int b=>unfold Rep at re;subst re;obtain ⟨t,rfl⟩:=rv;unfold deq;exact ⟨EqAt.none_int _ _,RcAt.none_int _ _⟩
   |str b=>unfold Rep at re;subst re;obtain ⟨t,rfl⟩:=rv;unfold deq;exact ⟨EqAt.none_str _ _,RcAt.none_str _ _⟩
   |tup ys=>unfold Rep at re;obtain ⟨b,ws,rfl,q,r⟩:=re;cases rv;obtain ⟨its,_,p,_⟩:=I.tuple q;unfold deq;exact ⟨EqAt.none_tuple p hu0,RcAt.none_tuple p hu0⟩
   |lst ys=>unfold Rep at re;obtain ⟨b,ws,rfl,q,r⟩:=re;cases rv;obtain ⟨its,_,p,_⟩:=I.list q;unfold deq;exact ⟨EqAt.none_list (zak p) hu0,RcAt.none_list (zak p) hu0⟩
  |bl a=>
   unfold Rep at rd;subst rd;cases ru;cases e with
   |ins c=>exact absurd hz (by unfold D.dep;omega)
   |non=>unfold Rep at re;subst re;cases rv;unfold deq;exact ⟨EqAt.bool_none _,RcAt.bool_none _⟩
   |bl b=>unfold Rep at re;subst re;cases rv;unfold deq;exact ⟨EqAt.bool_bool _ _,RcAt.bool_bool _ _⟩
   |int b=>unfold Rep at re;subst re;obtain ⟨t,rfl⟩:=rv;unfold deq;exact ⟨EqAt.bool_int _ _ _,RcAt.bool_int _ _ _⟩
   |str b=>unfold Rep at re;subst re;obtain ⟨t,rfl⟩:=rv;unfold deq;exact ⟨EqAt.bool_str _ _ _,RcAt.bool_str _ _ _⟩
   |tup ys=>unfold Rep at re;obtain ⟨b,ws,rfl,q,r⟩:=re;cases rv;obtain ⟨its,_,p,_⟩:=I.tuple q;unfold deq;exact ⟨EqAt.bool_tuple _ p hu0,RcAt.bool_tuple _ p hu0⟩
   |lst ys=>unfold Rep at re;obtain ⟨b,ws,rfl,q,r⟩:=re;cases rv;obtain ⟨its,_,p,_⟩:=I.list q;unfold deq;exact ⟨EqAt.bool_list _ (zak p) hu0,RcAt.bool_list _ (zak p) hu0⟩
  |int a=>
   unfold Rep at rd;subst rd;obtain ⟨t0,rfl⟩:=ru;cases e with
   |ins c=>exact absurd hz (by unfold D.dep;omega)
   |non=>unfold Rep at re;subst re;cases rv;unfold deq;exact ⟨EqAt.int_none _ _,RcAt.int_none _ _⟩
   |bl b=>unfold Rep at re;subst re;cases rv;unfold deq;exact ⟨EqAt.int_bool _ _ _,RcAt.int_bool _ _ _⟩
   |int b=>unfold Rep at re;subst re;obtain ⟨t,rfl⟩:=rv;unfold deq;exact ⟨EqAt.int_int _ _ _ _,RcAt.int_int _ _ _ _⟩
   |str b=>unfold Rep at re;subst re;obtain ⟨t,rfl⟩:=rv;unfold deq;exact ⟨EqAt.int_str _ _ _ _,RcAt.int_str _ _ _ _⟩
   |tup ys=>unfold Rep at re;obtain ⟨b,ws,rfl,q,r⟩:=re;cases rv;obtain ⟨its,_,p,_⟩:=I.tuple q;unfold deq;exact ⟨EqAt.int_tuple _ _ p hu0,RcAt.int_tuple _ _ p hu0⟩
   |lst ys=>unfold Rep at re;obtain ⟨b,ws,rfl,q,r⟩:=re;cases rv;obtain ⟨its,_,p,_⟩:=I.list q;unfold deq;exact ⟨EqAt.int_list _ _ (zak p) hu0,RcAt.int_list _ _ (zak p) hu0⟩
  |str a=>
   unfold Rep at rd;subst rd;obtain ⟨t0,rfl⟩:=ru;cases e with
   |ins c=>exact absurd hz (by unfold D.dep;omega)
   |non=>unfold Rep at re;subst re;cases rv;unfold deq;exact ⟨EqAt.str_none _ _,RcAt.str_none _ _⟩
   |bl b=>unfold Rep at re;subst re;cases rv;unfold deq;exact ⟨EqAt.str_bool _ _ _,RcAt.str_bool _ _ _⟩
   |int b=>unfold Rep at re;subst re;obtain ⟨t,rfl⟩:=rv;unfold deq;exact ⟨EqAt.str_int _ _ _ _,RcAt.str_int _ _ _ _⟩
   |str b=>unfold Rep at re;subst re;obtain ⟨t,rfl⟩:=rv;unfold deq;exact ⟨EqAt.str_str _ _ _ _,RcAt.str_str _ _ _ _⟩
   |tup ys=>unfold Rep at re;obtain ⟨b,ws,rfl,q,r⟩:=re;cases rv;obtain ⟨its,_,p,_⟩:=I.tuple q;unfold deq;exact ⟨EqAt.str_tuple _ _ p hu0,RcAt.str_tuple _ _ p hu0⟩
   |lst ys=>unfold Rep at re;obtain ⟨b,ws,rfl,q,r⟩:=re;cases rv;obtain ⟨its,_,p,_⟩:=I.list q;unfold deq;exact ⟨EqAt.str_list _ _ (zak p) hu0,RcAt.str_list _ _ (zak p) hu0⟩
  |tup xs=>
   have rd0:=rd;unfold Rep at rd;obtain ⟨a,vs,rfl,q,r⟩:=rd;cases ru;obtain ⟨its,rv1,p,_⟩:=I.tuple q;cases e with
   |ins c=>exact absurd hz (by unfold D.dep;omega)
   |non=>unfold Rep at re;subst re;cases rv;unfold deq;exact ⟨EqAt.tuple_none p hu0,RcAt.tuple_none p hu0⟩
   |bl b=>unfold Rep at re;subst re;cases rv;unfold deq;exact ⟨EqAt.tuple_bool _ p hu0,RcAt.tuple_bool _ p hu0⟩
   |int b=>unfold Rep at re;subst re;obtain ⟨t,rfl⟩:=rv;unfold deq;exact ⟨EqAt.tuple_int _ _ p hu0,RcAt.tuple_int _ _ p hu0⟩
   |str b=>unfold Rep at re;subst re;obtain ⟨t,rfl⟩:=rv;unfold deq;exact ⟨EqAt.tuple_str _ _ p hu0,RcAt.tuple_str _ _ p hu0⟩
   |lst ys=>unfold Rep at re;obtain ⟨b,ws,rfl,q',r'⟩:=re;cases rv;obtain ⟨its',_,p',_⟩:=I.list q';unfold deq;exact ⟨EqAt.tuple_list p (zak p') hu0,RcAt.tuple_list p (zak p') hu0⟩
   |tup ys=>
    have re0:=re;unfold Rep at re;obtain ⟨b,ws,rfl,q',r'⟩:=re;cases rv;obtain ⟨its',rv1',p',_⟩:=I.tuple q';have l1:xs.length=its.length:=r.len.trans rv1.length;have l2:ys.length=its'.length:=r'.len.trans rv1'.length;have key:RcAt A s (.ref a) (.ref b) (deq (.tup xs) (.tup ys)):=by
     have he:∀ j (h1:j<its.toArray.size) (h2:j<its'.toArray.size),EqAt A.in1 s its.toArray[j] its'.toArray[j] (deq (xs.getD j .non) (ys.getD j .non)):=by
      intro j h1 h2;obtain ⟨x,ex,rx⟩:=za8 (j:=j) rv1 (List.getElem?_eq_getElem (by simpa using h1));obtain ⟨y,ey,ry⟩:=za8 (j:=j) rv1' (List.getElem?_eq_getElem (by simpa using h2));obtain ⟨d,ed,rd⟩:=r.at ex;obtain ⟨e,ee,re⟩:=r'.at ey;rw [List.getD_eq_getElem?_getD,List.getD_eq_getElem?_getD,ed,ee];exact (ih (n - 1) (by unfold D.dep at hn;omega) A.in1 d e x y _ _ (by have:=za7 ed;unfold D.dep at hn;omega) (by have:=za7 ee;unfold D.dep at hz;omega) (by unfold D.dep at hn;show A.units+1+(n - 1)<_;omega) rd re rx ry).1
     have:=RcAt.tuples p p' hu0 he;have e1:((List.range (min its.toArray.size its'.toArray.size)).all (fun j=>deq (xs.getD j .non) (ys.getD j .non))&&its.toArray.size==its'.toArray.size)=deq (.tup xs) (.tup ys):=by
      rw [zgd];simp only [List.size_toArray];rw [<-l1,<-l2];by_cases z:xs.length=ys.length
      ·rw [zbZ z,z,Nat.min_self];simp
      ·rw [zbY z];simp [z]
     rw [e1] at this;exact this
    refine ⟨?_,key⟩;by_cases z:a=b
    ·subst z;rw [rep_det I _ _ _ rd0 re0,zbX];exact EqAt.same _
    ·exact EqAt.of_refs z key
  |lst xs=>
   have rd0:=rd;unfold Rep at rd;obtain ⟨a,vs,rfl,q,r⟩:=rd;cases ru;obtain ⟨its,rv1,p,_⟩:=I.list q;have p:=zak p;cases e with
   |ins c=>exact absurd hz (by unfold D.dep;omega)
   |non=>unfold Rep at re;subst re;cases rv;unfold deq;exact ⟨EqAt.list_none p hu0,RcAt.list_none p hu0⟩
   |bl b=>unfold Rep at re;subst re;cases rv;unfold deq;exact ⟨EqAt.list_bool _ p hu0,RcAt.list_bool _ p hu0⟩
   |int b=>unfold Rep at re;subst re;obtain ⟨t,rfl⟩:=rv;unfold deq;exact ⟨EqAt.list_int _ _ p hu0,RcAt.list_int _ _ p hu0⟩
   |str b=>unfold Rep at re;subst re;obtain ⟨t,rfl⟩:=rv;unfold deq;exact ⟨EqAt.list_str _ _ p hu0,RcAt.list_str _ _ p hu0⟩
   |tup ys=>unfold Rep at re;obtain ⟨b,ws,rfl,q',r'⟩:=re;cases rv;obtain ⟨its',_,p',_⟩:=I.tuple q';unfold deq;exact ⟨EqAt.list_tuple p p' hu0,RcAt.list_tuple p p' hu0⟩
   |lst ys=>
    have re0:=re;unfold Rep at re;obtain ⟨b,ws,rfl,q',r'⟩:=re;cases rv;obtain ⟨its',rv1',p',_⟩:=I.list q';have p':=zak p';have l1:xs.length=its.length:=r.len.trans rv1.length;have l2:ys.length=its'.length:=r'.len.trans rv1'.length;have key:RcAt A s (.ref a) (.ref b) (deq (.lst xs) (.lst ys)):=by
     by_cases z:xs.length=ys.length
     ·have he:∀ j (h1:j<its.toArray.size) (h2:j<its'.toArray.size),EqAt A.in1 s its.toArray[j] its'.toArray[j] (deq (xs.getD j .non) (ys.getD j .non)):=by
       intro j h1 h2;obtain ⟨x,ex,rx⟩:=za8 (j:=j) rv1 (List.getElem?_eq_getElem (by simpa using h1));obtain ⟨y,ey,ry⟩:=za8 (j:=j) rv1' (List.getElem?_eq_getElem (by simpa using h2));obtain ⟨d,ed,rd⟩:=r.at ex;obtain ⟨e,ee,re⟩:=r'.at ey;rw [List.getD_eq_getElem?_getD,List.getD_eq_getElem?_getD,ed,ee];exact (ih (n - 1) (by unfold D.dep at hn;omega) A.in1 d e x y _ _ (by have:=za7 ed;unfold D.dep at hn;omega) (by have:=za7 ee;unfold D.dep at hz;omega) (by unfold D.dep at hn;show A.units+1+(n - 1)<_;omega) rd re rx ry).1
      have:=RcAt.lists p p' (by simp only [List.size_toArray];omega) hu0 he;have e1:(List.range its.toArray.size).all (fun j=>deq (xs.getD j .non) (ys.getD j .non))=deq (.lst xs) (.lst ys):=by
       rw [zds];simp only [List.size_toArray];rw [<-l1,zbZ z]
      rw [e1] at this;exact this
     ·have:=RcAt.lists_lengths (A:=A) p p' (by simp only [List.size_toArray,bne_iff_ne];omega) hu0;rw [zds,zbY z];exact this
    refine ⟨?_,key⟩;by_cases z:a=b
    ·subst z;rw [rep_det I _ _ _ rd0 re0,zbX];exact EqAt.same _
    ·exact EqAt.of_refs z key
end
open PySem PySem.Spec PyProof.Rows L2 PySem.SeqAt
section
variable {X:Cx}{pins:List (Addr×Obj)}{σ:St}{H:Hp}{s:Shared}
theorem zh7 (I:Inv X pins σ H s)(n:Nat)(A:Around)(d e:D)(x y:V)(u v:Value)(hn:d.dep<=n)(hz:e.dep<1000000)(hu:A.units+n<cLine)(rd:Rep X.K H H d x)(re:Rep X.K H H e y)(ru:RelV x u)(rv:RelV y v):RcNeAt A s u v (!deq d e):=by
 have hu0:A.units<cLine:=by omega
 cases d with
 |ins c=>unfold D.dep at hn;rw [show cLine=9900 from rfl] at hu;omega
 |non=>
  unfold Rep at rd;subst rd;cases ru;cases e with
  |ins c=>exact absurd hz (by unfold D.dep;omega)
  |non=>unfold Rep at re;subst re;cases rv;unfold deq;exact RcNeAt.none_none
  |bl b=>unfold Rep at re;subst re;cases rv;unfold deq;exact RcNeAt.none_bool _
  |int b=>unfold Rep at re;subst re;obtain ⟨t,rfl⟩:=rv;unfold deq;exact RcNeAt.none_int _ _
  |str b=>unfold Rep at re;subst re;obtain ⟨t,rfl⟩:=rv;unfold deq;exact RcNeAt.none_str _ _
  |tup b=>unfold Rep at re;obtain ⟨b0,ws,rfl,q',r'⟩:=re;cases rv;obtain ⟨its',_,p',_⟩:=I.tuple q';unfold deq;exact RcNeAt.none_tuple p' hu0
  |lst b=>unfold Rep at re;obtain ⟨b0,ws,rfl,q',r'⟩:=re;cases rv;obtain ⟨its',_,p',_⟩:=I.list q';unfold deq;exact RcNeAt.none_list (zak p') hu0
 |bl a=>
  unfold Rep at rd;subst rd;cases ru;cases e with
  |ins c=>exact absurd hz (by unfold D.dep;omega)
  |non=>unfold Rep at re;subst re;cases rv;unfold deq;exact RcNeAt.bool_none _
  |bl b=>unfold Rep at re;subst re;cases rv;unfold deq;exact RcNeAt.bool_bool _ _
  |int b=>unfold Rep at re;subst re;obtain ⟨t,rfl⟩:=rv;unfold deq;exact RcNeAt.bool_int _ _ _
  |str b=>unfold Rep at re;subst re;obtain ⟨t,rfl⟩:=rv;unfold deq;exact RcNeAt.bool_str _ _ _
  |tup b=>unfold Rep at re;obtain ⟨b0,ws,rfl,q',r'⟩:=re;cases rv;obtain ⟨its',_,p',_⟩:=I.tuple q';unfold deq;exact RcNeAt.bool_tuple _ p' hu0
  |lst b=>unfold Rep at re;obtain ⟨b0,ws,rfl,q',r'⟩:=re;cases rv;obtain ⟨its',_,p',_⟩:=I.list q';unfold deq;exact RcNeAt.bool_list _ (zak p') hu0
 |int a=>
  unfold Rep at rd;subst rd;obtain ⟨t0,rfl⟩:=ru;cases e with
  |ins c=>exact absurd hz (by unfold D.dep;omega)
  |non=>unfold Rep at re;subst re;cases rv;unfold deq;exact RcNeAt.int_none _ _
  |bl b=>unfold Rep at re;subst re;cases rv;unfold deq;exact RcNeAt.int_bool _ _ _
  |int b=>unfold Rep at re;subst re;obtain ⟨t,rfl⟩:=rv;unfold deq;exact RcNeAt.int_int _ _ _ _
  |str b=>unfold Rep at re;subst re;obtain ⟨t,rfl⟩:=rv;unfold deq;exact RcNeAt.int_str _ _ _ _
  |tup b=>unfold Rep at re;obtain ⟨b0,ws,rfl,q',r'⟩:=re;cases rv;obtain ⟨its',_,p',_⟩:=I.tuple q';unfold deq;exact RcNeAt.int_tuple _ _ p' hu0
  |lst b=>unfold Rep at re;obtain ⟨b0,ws,rfl,q',r'⟩:=re;cases rv;obtain ⟨its',_,p',_⟩:=I.list q';unfold deq;exact RcNeAt.int_list _ _ (zak p') hu0
 |str a=>
  unfold Rep at rd;subst rd;obtain ⟨t0,rfl⟩:=ru;cases e with
  |ins c=>exact absurd hz (by unfold D.dep;omega)
  |non=>unfold Rep at re;subst re;cases rv;unfold deq;exact RcNeAt.str_none _ _
  |bl b=>unfold Rep at re;subst re;cases rv;unfold deq;exact RcNeAt.str_bool _ _ _
  |int b=>unfold Rep at re;subst re;obtain ⟨t,rfl⟩:=rv;unfold deq;exact RcNeAt.str_int _ _ _ _
  |str b=>unfold Rep at re;subst re;obtain ⟨t,rfl⟩:=rv;unfold deq;exact RcNeAt.str_str _ _ _ _
  |tup b=>unfold Rep at re;obtain ⟨b0,ws,rfl,q',r'⟩:=re;cases rv;obtain ⟨its',_,p',_⟩:=I.tuple q';unfold deq;exact RcNeAt.str_tuple _ _ p' hu0
  |lst b=>unfold Rep at re;obtain ⟨b0,ws,rfl,q',r'⟩:=re;cases rv;obtain ⟨its',_,p',_⟩:=I.list q';unfold deq;exact RcNeAt.str_list _ _ (zak p') hu0
 |tup a=>
  unfold Rep at rd;obtain ⟨a0,vs,rfl,q,r⟩:=rd;cases ru;obtain ⟨its,rv1,p,_⟩:=I.tuple q;cases e with
  |ins c=>exact absurd hz (by unfold D.dep;omega)
  |non=>unfold Rep at re;subst re;cases rv;unfold deq;exact RcNeAt.tuple_none p hu0
  |bl b=>unfold Rep at re;subst re;cases rv;unfold deq;exact RcNeAt.tuple_bool _ p hu0
  |int b=>unfold Rep at re;subst re;obtain ⟨t,rfl⟩:=rv;unfold deq;exact RcNeAt.tuple_int _ _ p hu0
  |str b=>unfold Rep at re;subst re;obtain ⟨t,rfl⟩:=rv;unfold deq;exact RcNeAt.tuple_str _ _ p hu0
  |tup b=>
   unfold Rep at re;obtain ⟨b0,ws,rfl,q',r'⟩:=re;cases rv;obtain ⟨its',rv1',p',_⟩:=I.tuple q';have l1:a.length=its.length:=r.len.trans rv1.length;have l2:b.length=its'.length:=r'.len.trans rv1'.length;have he:∀ j (h1:j<its.toArray.size) (h2:j<its'.toArray.size),EqAt A.in1 s its.toArray[j] its'.toArray[j] (deq (a.getD j .non) (b.getD j .non)):=by
    intro j h1 h2;obtain ⟨x,ex,rx⟩:=za8 (j:=j) rv1 (List.getElem?_eq_getElem (by simpa using h1));obtain ⟨y,ey,ry⟩:=za8 (j:=j) rv1' (List.getElem?_eq_getElem (by simpa using h2));obtain ⟨d,ed,rd⟩:=r.at ex;obtain ⟨e,ee,re⟩:=r'.at ey;rw [List.getD_eq_getElem?_getD,List.getD_eq_getElem?_getD,ed,ee];unfold D.dep at hn;exact (zdt I (n - 1) A.in1 d e x y _ _ (by have:=za7 ed;omega) (by have:=za7 ee;unfold D.dep at hz;omega) (by show A.units+1+(n - 1)<_;omega) rd re rx ry).1
   have:=RcNeAt.tuples p p' hu0 he;have e1:((List.range (min its.toArray.size its'.toArray.size)).all (fun j=>deq (a.getD j .non) (b.getD j .non))&&its.toArray.size==its'.toArray.size)=deq (.tup a) (.tup b):=by
    rw [zgd];simp only [List.size_toArray];rw [<-l1,<-l2];by_cases z:a.length=b.length
    ·rw [zbZ z,z,Nat.min_self];simp
    ·rw [zbY z];simp [z]
   rw [e1] at this;exact this
  |lst b=>unfold Rep at re;obtain ⟨b0,ws,rfl,q',r'⟩:=re;cases rv;obtain ⟨its',_,p',_⟩:=I.list q';unfold deq;exact RcNeAt.tuple_list p (zak p') hu0
 |lst a=>
  unfold Rep at rd;obtain ⟨a0,vs,rfl,q,r⟩:=rd;cases ru;obtain ⟨its,rv1,p,_⟩:=I.list q;have p:=zak p;cases e with
  |ins c=>exact absurd hz (by unfold D.dep;omega)
  |non=>unfold Rep at re;subst re;cases rv;unfold deq;exact RcNeAt.list_none p hu0
  |bl b=>unfold Rep at re;subst re;cases rv;unfold deq;exact RcNeAt.list_bool _ p hu0
  |int b=>unfold Rep at re;subst re;obtain ⟨t,rfl⟩:=rv;unfold deq;exact RcNeAt.list_int _ _ p hu0
  |str b=>unfold Rep at re;subst re;obtain ⟨t,rfl⟩:=rv;unfold deq;exact RcNeAt.list_str _ _ p hu0
  |tup b=>unfold Rep at re;obtain ⟨b0,ws,rfl,q',r'⟩:=re;cases rv;obtain ⟨its',_,p',_⟩:=I.tuple q';unfold deq;exact RcNeAt.list_tuple p p' hu0
  |lst b=>
   unfold Rep at re;obtain ⟨b0,ws,rfl,q',r'⟩:=re;cases rv;obtain ⟨its',rv1',p',_⟩:=I.list q';have p':=zak p';have l1:a.length=its.length:=r.len.trans rv1.length;have l2:b.length=its'.length:=r'.len.trans rv1'.length;have he:∀ j (h1:j<its.toArray.size) (h2:j<its'.toArray.size),EqAt A.in1 s its.toArray[j] its'.toArray[j] (deq (a.getD j .non) (b.getD j .non)):=by
    intro j h1 h2;obtain ⟨x,ex,rx⟩:=za8 (j:=j) rv1 (List.getElem?_eq_getElem (by simpa using h1));obtain ⟨y,ey,ry⟩:=za8 (j:=j) rv1' (List.getElem?_eq_getElem (by simpa using h2));obtain ⟨d,ed,rd⟩:=r.at ex;obtain ⟨e,ee,re⟩:=r'.at ey;rw [List.getD_eq_getElem?_getD,List.getD_eq_getElem?_getD,ed,ee];unfold D.dep at hn;exact (zdt I (n - 1) A.in1 d e x y _ _ (by have:=za7 ed;omega) (by have:=za7 ee;unfold D.dep at hz;omega) (by show A.units+1+(n - 1)<_;omega) rd re rx ry).1
   by_cases z:a.length=b.length
   ·have:=RcNeAt.lists p p' (by simp only [List.size_toArray];omega) hu0 he;have e1:(List.range its.toArray.size).all (fun j=>deq (a.getD j .non) (b.getD j .non))=deq (.lst a) (.lst b):=by
     rw [zds];simp only [List.size_toArray];rw [<-l1,zbZ z]
    rw [e1] at this;exact this
   ·have:=RcNeAt.lists_lengths (A:=A) p p' (by simp only [List.size_toArray,bne_iff_ne];omega) hu0;rw [zds,zbY z];exact this
noncomputable def zkX (K:PySem.W.Frag):R2:=fun x y H Q=>∃ d e,Rep K H H d x/\Rep K H H e y/\d.dep<=100/\e.dep<1000000/\Q (.bl (deq d e)) H
noncomputable def zkY (K:PySem.W.Frag):R2:=fun x y H Q=>∃ d e,Rep K H H d x/\Rep K H H e y/\d.dep<=100/\e.dep<1000000/\Q (.bl (!deq d e)) H
theorem zhu {k:Nat}(hr:Room k X.A):OpR X (compareOp .Eq) (zkX X.K):=by
 intro pins s σ H x y v u Q I rx ry ⟨d,e,rd,re,hd,hz,q⟩;exact (zdt I 100 X.A d e x y v u hd hz (by have:=hr.un;omega) rd re rx ry).2 X.prog X.w X.xe _ (zbU I q rfl)
theorem zjx {k:Nat}(hr:Room k X.A):OpR X (compareOp .NotEq) (zkY X.K):=by
 intro pins s σ H x y v u Q I rx ry ⟨d,e,rd,re,hd,hz,q⟩;exact zh7 I 100 X.A d e x y v u hd hz (by have:=hr.un;omega) rd re rx ry X.prog X.w X.xe _ (zbU I q rfl)
noncomputable def fEq:V2:=fun d e Q=>d.dep<=100/\e.dep<1000000/\Q (.bl (deq d e))
noncomputable def fNe:V2:=fun d e Q=>d.dep<=100/\e.dep<1000000/\Q (.bl (!deq d e))
theorem zjy {K:PySem.W.Frag}:Lf K fEq (zkX K):=fun H x y d e Qd Q rx ry h k=>⟨d,e,rx,ry,h.1,h.2.1,k _ h.2.2 _ H (Same.refl H) rfl⟩
theorem zkv {K:PySem.W.Frag}:Lf K fNe (zkY K):=fun H x y d e Qd Q rx ry h k=>⟨d,e,rx,ry,h.1,h.2.1,k _ h.2.2 _ H (Same.refl H) rfl⟩
variable {a b c e:Expr}{es:List Expr}{ta tb tc:VE}{pos p:Pos}{k:Nat}
theorem zh8 (hr:Room k X.A)(ha:SB X a ta)(hb:SB X b tb):SB X (.Compare a [.Eq] [b] pos) (zax fEq ta tb):=zhn (zhu hr) zjy ha hb (zfS _)
theorem zej (hr:Room k X.A)(ha:SB X a ta)(hb:SB X b tb):ST X (.Compare a [.Eq] [b] pos) (zcl (zax fEq ta tb)):=zf1 (zhu hr) zjy ha hb (zfS _)
theorem zjz (hr:Room k X.A)(ha:SB X a ta)(hb:SB X b tb):ST X (.Compare a [.NotEq] [b] pos) (zcl (zax fNe ta tb)):=zf1 (zjx hr) zkv ha hb (zfS _)
theorem zfk:∀ {xs:List V} {us:List Value} {ds:List D} (f:Value->Bool) (g:D->Bool),Vals xs us->Reps X.K H H ds xs->(∀ x u d,RelV x u->Rep X.K H H d x->u∈us->f u=g d)->us.any f=ds.any g
 |_,_,ds,f,g,.nil,r,h=>by
  have:=r.len;cases ds with
  |nil=>rfl
  |cons _ _=>simp at this
 |_,_,ds,f,g,.cons (a:=x) (b:=u) rv t,r,h=>by
  cases ds with
  |nil=>have:=r.len;simp at this
  |cons d ds=>
   unfold Reps at r;obtain ⟨v,r',e,r1,r2⟩:=r;injection e with z1 z2;subst z1 z2;rw [List.any_cons,List.any_cons,h x u d rv r1 List.mem_cons_self,zfk f g t r2 fun x u d a b c=>h x u d a b (List.mem_cons_of_mem _ c)]
open Classical in
theorem zge (I:Inv X pins σ H s){A:Around}{d:D}{ds:List D}{x:V}{xs:List V}{u:Value}{us:List Value}(hn:deps ds<=100)(hz:d.dep<1000000)(hu:A.units+200<cLine)(rd:Rep X.K H H d x)(ru:RelV x u)(rs:Reps X.K H H ds xs)(rv:Vals xs us):
  ∃ f:Value->Bool,(∀ y∈us,EqAt A.in1 s y u (f y))/\us.any f=ds.any fun z=>deq z d:=by
 refine ⟨fun y=>decide (∃ z v,RelV v y/\Rep X.K H H z v/\deq z d=true),?_,?_⟩
 ·intro y hy;obtain ⟨j,hj,ej⟩:=List.mem_iff_getElem.mp hy;obtain ⟨v,ev,rel⟩:=za8 (j:=j) rv (List.getElem?_eq_getElem hj);obtain ⟨z,ez,rz⟩:=rs.at ev;rw [ej] at rel;have key:=(zdt I 100 A.in1 z d v x y u (by have:=za7 ez;omega) hz (by show A.units+1+100<_;omega) rz rd rel ru).1;have e1:decide (∃ z v,RelV v y/\Rep X.K H H z v/\deq z d=true)=deq z d:=by
   rw [Bool.eq_iff_iff,decide_eq_true_iff];constructor
   ·rintro ⟨z',v',r1,r2,r3⟩;have:=rel.inj r1;subst this;rw [rep_det I z z' v rz r2];exact r3
   ·intro h;exact ⟨z,v,rel,rz,h⟩
  show EqAt A.in1 s y u (decide _)
  rw [e1];exact key
 ·refine zfk (X:=X) (H:=H) _ _ rv rs fun v y z rel rz _=>?_;show decide _=_
  rw [Bool.eq_iff_iff,decide_eq_true_iff];constructor
  ·rintro ⟨z',v',r1,r2,r3⟩;have:=rel.inj r1;subst this;rw [rep_det I z z' v rz r2];exact r3
  ·intro h;exact ⟨z,v,rel,rz,h⟩
noncomputable def zkZ (K:PySem.W.Frag)(neg:Bool):R2:=fun x y H Q=>∃ d ds,Rep K H H d x/\(Rep K H H (.lst ds) y\/Rep K H H (.tup ds) y)/\deps ds<=100/\d.dep<1000000/\Q (.bl (if neg then !(ds.any fun z=>deq z d) else ds.any fun z=>deq z d)) H
theorem zhv (hr:Room k X.A):OpR X (compareOp .In) (zkZ X.K false):=by
 intro pins s σ H x y v u Q I rx ry ⟨d,ds,rd,rs,hd,hz,q⟩;rcases rs with rs|rs<;>unfold Rep at rs<;>obtain ⟨a,vs,rfl,sq,rr⟩:=rs<;>cases ry
 ·obtain ⟨its,rv,p,_⟩:=I.list sq;obtain ⟨f,h1,h2⟩:=zge I (A:=X.A) hd hz (by have:=hr.un;omega) rd rx rr rv;refine in_listAt f (zak p) (fun y hy=>h1 y (by simpa using hy)) (zbU I q (by rw [show its.toArray.any f=its.any f by simp,h2];rfl))
 ·obtain ⟨its,rv,p,_⟩:=I.tuple sq;obtain ⟨f,h1,h2⟩:=zge I (A:=X.A) hd hz (by have:=hr.un;omega) rd rx rr rv;refine in_tupleAt f p (fun y hy=>h1 y (by simpa using hy)) (zbU I q (by rw [show its.toArray.any f=its.any f by simp,h2];rfl))
noncomputable def fIn:V2:=fun d e Q=>match e with
 | .lst ds=>deps ds<=100/\d.dep<1000000/\Q (.bl (ds.any fun z=>deq z d))
 | .tup ds=>deps ds<=100/\d.dep<1000000/\Q (.bl (ds.any fun z=>deq z d))
 |_=>False
theorem zjA {K:PySem.W.Frag}:Lf K fIn (zkZ K false):=fun H x y d e Qd Q rx ry h k=>by
 unfold fIn at h;split at h
 ·exact ⟨d,_,rx,.inl ry,h.1,h.2.1,k _ h.2.2 _ H (Same.refl H) rfl⟩
 ·exact ⟨d,_,rx,.inr ry,h.1,h.2.1,k _ h.2.2 _ H (Same.refl H) rfl⟩
 ·exact h.elim
theorem zjB (hr:Room k X.A)(ha:SB X a ta)(hb:SB X b tb)(hm:behindInMarks .In b=false:=by rfl):SB X (.Compare a [.In] [b] pos) (zax fIn ta tb):=zhn (zhv hr) zjA ha hb hm
theorem zkw (hr:Room k X.A)(ha:SB X a ta)(hb:SB X b tb)(hm:behindInMarks .In b=false:=by rfl):ST X (.Compare a [.In] [b] pos) (zcl (zax fIn ta tb)):=zf1 (zhv hr) zjA ha hb hm
noncomputable def dTy:D->String
 | .non=>"NoneType"| .bl _=>"bool"| .int _=>"int"| .str _=>"str"| .tup _=>"tuple"| .lst _=>"list"| .ins _=>"object"
noncomputable def noI:D->Prop
 | .ins _=>False
 |_=>True
theorem zjC {A:Around}{E:Value->Shared->Prop}{Q:Value->Shared->Prop}{c:Value}{r:Bool}{d:D}{x:V}{u:Value}(I:Inv X pins σ H s)(ni:noI d)(rd:Rep X.K H H d x)(rx:RelV x u)(e:PySem.W.kitOne X.K (.type (dTy d)) c=some r)(h:∀ tk,Q (.bool r) {s with toks:=tk}):
  wpAny (model X.prog X.w) A (call (.builtin "isinstance") [u,c]) Q E s:=by
 cases d with
 |ins c=>exact ni.elim
 |non=>unfold Rep at rd;subst rd;exact zbn I rx (.non) e h
 |bl b=>unfold Rep at rd;subst rd;exact zbn I rx (.bl b) e h
 |int b=>unfold Rep at rd;subst rd;exact zbn I rx (.int b) e h
 |str b=>unfold Rep at rd;subst rd;exact zbn I rx (.str b) e h
 |tup xs=>
  unfold Rep at rd;obtain ⟨a,vs,rfl,sq,rr⟩:=rd;cases rx;obtain ⟨its,rv,p,_⟩:=I.tuple sq;obtain ⟨o,h1,h2,_⟩:=p;exact PySem.W.kia_one PySem.W.kitx_tuple I.kIn ⟨o,h1,h2⟩ e (fun z=>nomatch z) h
 |lst xs=>
  unfold Rep at rd;obtain ⟨a,vs,rfl,sq,rr⟩:=rd;cases rx;obtain ⟨its,rv,p,_⟩:=I.list sq;obtain ⟨o,n,h1,h2,_⟩:=p;exact PySem.W.kia_one PySem.W.kitx_list I.kIn ⟨o,h1,h2⟩ e (fun z=>nomatch z) h
noncomputable def zj3 (f:D->Bool)(t:VE):VE:=fun st Q=>t st fun d=>noI d/\Q (.bl (f d))
theorem zgY {C:String}{f:D->Bool}(hf:∀ d,PySem.W.kitOne X.K (.type (dTy d)) (.type C)=some (f d)):CallR X (.builtin "isinstance") (fun xs H Q=>∃ x d,xs=[x,.ty C]/\noI d/\Rep X.K H H d x/\Q (.bl (f d)) H):=by
 intro pins s σ H xs us Q I rv ⟨x,d,e,ni,rd,q⟩;subst e;obtain ⟨u,v,rfl,r1,r2⟩:=Vals.two rv;cases r2;exact zjC I ni rd r1 (hf d) fun tk=>zbU (I.tok tk) q rfl
theorem zhw {C:Str}{T:String}{f:D->Bool}{p1 p2 p3:Pos}(hf:∀ d,PySem.W.kitOne X.K (.type (dTy d)) (.type T)=some (f d))(hm:X.mg "isinstance"=none)(hm2:X.mg C=none)(hv:bootBuiltins C=some (.type T))(ha:SB X e ta)(hg:Gl X "isinstance":=by rfl)(hg2:Gl X C:=by rfl)
  (hn:C≠"__name__":=by decide)(hdb:(C==("__debug__":Str))=false:=by decide)(he:starEach [e,.Name C p2] X.env=(false,eval e X.env)::starEach [.Name C p2] X.env:=by rfl)(he2:starEach [.Name C p2] X.env=(false,eval (.Name C p2) X.env)::starEach [] X.env:=by rfl)(hpl:(backTo p3 (starEach [.Name C p2] X.env)).any (·.1)=false:=by rfl):
  SB X (.Call (.Name "isinstance" p1) [e,.Name C p2] [] p3) (zj3 f ta):=
 PE.wk (zbz (zgY hf) hg hm (by rfl) (zaC ha (zaC (zfN hg2 hm2 hv (v:=.ty T) rfl hn hdb) zbE he2) he) (by decide) (by decide) he hpl) fun σ H Q ⟨F,st,Qd,ok,h,k⟩=>
  ⟨F,st,_,ok,h,fun d hd v H1 s1 r1=>⟨v,d,rfl,hd.1,r1,k _ hd.2 _ H1 s1 rfl⟩⟩
noncomputable def isI:D->Bool
 | .int _=>true| .bl _=>true|_=>false
noncomputable def zlg:D->Bool
 | .bl _=>true|_=>false
noncomputable def zh9:D->Bool
 | .lst _=>true|_=>false
noncomputable def zkx:D->Bool
 | .tup _=>true|_=>false
noncomputable def zia:D->Bool
 | .str _=>true|_=>false
theorem zgZ {K:PySem.W.Frag}(d:D):PySem.W.kitOne K (.type (dTy d)) (.type "list")=some (zh9 d):=by cases d<;>rfl
theorem zib {K:PySem.W.Frag}(d:D):PySem.W.kitOne K (.type (dTy d)) (.type "str")=some (zia d):=by cases d<;>rfl
variable {x:Str}{m:VF}
noncomputable def zek (m:VF):VE:=fun _ Q=>m [] fun _ d=>Q d
noncomputable def zcg (m:VF):VO:=fun _ Q=>m [] fun md d=>kpt md d/\Q md d
theorem zdu (c:Cal X.prog X.w X.K X.mg X.base k x m)(hr:Room k X.A)(hg:Gl X x:=by rfl)(hdb:(x==("__debug__":Str))=false:=by decide):SB X (.Call (.Name x p) [] [] pos) (zek m):=by
 obtain ⟨f,fd,ps,F,hm,hk,hb⟩:=c.ex;refine PE.wk (ze8 F hr hg hm hk hb .nil zfZ hdb) fun σ H Q zz=>?_;obtain ⟨F,st,Qd,ok,h,k⟩:=zz;show spV X.K m ([]++[]) H Q E0
 exact ⟨[],_,rfl,h,fun md d q v H' F' os g r nd new=>k d q v H' g.same (r.read g.sub)⟩
theorem zcA (c:Cal X.prog X.w X.K X.mg X.base k x m)(hr:Room k X.A)(hg:Gl X x:=by rfl)(hdb:(x==("__debug__":Str))=false:=by decide):SO X (.Call (.Name x p) [] [] pos) (zcg m):=by
 obtain ⟨f,fd,ps,F,hm,hk,hb⟩:=c.ex;refine PE.wk (ze8 F hr hg hm hk hb .nil zfZ hdb) fun σ H Q zz=>?_;obtain ⟨F,st,Qd,ok,h,k⟩:=zz;show spV X.K m ([]++[]) H Q E0
 refine ⟨[],_,rfl,h,fun md d q v H' F' os g r nd new=>?_⟩;have g2:Gr F H F H':=Gr.of ok.sub g.same;rcases q.1 with z|⟨z,fl⟩
 ·subst z;refine k _ d q.2 v H' F os g2 (RepD.stay (Tp.of (Same.refl _)) d v os r fun a ha=>⟨rfl,?_⟩) nd fun a ha=>new a ha;cases z:F a with
  |none=>rfl
  |some o=>
   have:=ok.sub _ _ z;rw [new a ha] at this;cases this
 ·subst z;exact k _ d q.2 v H' F [] g2 ⟨Rep.flatF d v r.1 fl,rfl⟩ List.nodup_nil (by simp)
end
open PySem PySem.Spec PyProof.Rows L2 PySem.W PySem.Calls Att
noncomputable def bts (x:Int):Nat:=Builtin.Int.intBits x
theorem zcL:∀ {ns:List Int} {x:Int},x∈ns->bts x<=WData.weightAll (ns.map WData.int)
 | [],_,h=>by cases h
 |y::r,x,h=>by
  rw [List.map_cons,WData.weightAll];rcases List.mem_cons.mp h with z|z
  ·subst z;show bts x<=WData.weight (.int x)+1+_
   have:bts x=WData.weight (.int x):=by rw [WData.weight];rfl
   omega
  ·have:=zcL z;omega
theorem zeU {ns:List Int}(h:WData.layableAll [WData.list (ns.map WData.int)]=true):∀ x∈ns,bts x<=1048576:=by
 intro x hx;unfold WData.layableAll at h;rw [List.all_cons,List.all_nil,Bool.and_true] at h;unfold WData.layable at h;rw [Bool.and_eq_true,decide_eq_true_iff] at h;have h2:=h.2;rw [WData.weight] at h2;have:=zcL hx;omega
theorem zel {l:OpenLaw}{n:Nat}{q:Program}{loose:List Str}{XP:(Str->Option Value)->Heap->Prop}{YP:World->Heap->Prop}{d:DefRec}
  (hn:l.most=some n)(hdf:d.params.defaults=[])
  (call:∀ (w:World) (s₀ s₁:Shared) (mg mb:Str->Option Value) (fa:Addr) (o:Obj) (pm cd doc:Value) (a:Addr) (vs:List Value) (ns:List Int),
   Ground q loose [] XP w s₀ mg mb s₁.heap->YP w s₁.heap->
   s₁.heap.get? fa=some o->o.data= .func (docDef d.name d.params d.body d.scope pm cd doc)->s₁.heap.CodeRec cd d.name->mg d.name=some (.ref fa)->
   s₁.heap.get? a=some {cls:=.type "list",data:=.seq vs.toArray}->IntsAre vs ns->ns.length<=n->(∀ x∈ns,bts x<=1048576)->s₁.gens= #[]->
   codeAny (model l.prog w) callerA (.call (.ref fa) ⟨[.ref a],[]⟩) (fun r s'=>r= .ok (.ret (.bool true))/\OldK s₁.heap s'.heap/\s'.os=s₁.os/\AllBare s'.gens) s₁):
  WalkO q loose XP YP l.row.toRowW d [] (fun f vs=>PySem.call f vs):=by
 intro w s₀ s₁ mg mb G Y fa o pm cd doc dV kV ho hd hcd hD hmg hg args vals as hpre hlay hrd hwl hlo;obtain rfl:dV= .none:=Dflts.none hD hdf;obtain rfl:kV= .none:=Dflts.noKw hD;obtain ⟨a,vs,ns,rfl,rfl,hobj,hints,hlen⟩:=zd9 hn hpre hwl;refine enter_call (codeAny_mono (call w s₀ s₁ mg mb fa o pm cd doc a vs ns G Y ho (fd_plain hd) hcd hmg hobj hints hlen (zeU hlay) hg) fun r s' hq=>?_);obtain ⟨rfl,h2,h3,h4⟩:=hq;exact ⟨.inl ⟨.bool true,.bool true,[],rfl,fun _=>rfl,.bool true,zea l _,fun _=>⟨List.Pairwise.nil,fun _ hm=>(nomatch hm)⟩⟩,h2,h3,h4⟩
noncomputable def zjD:VF:=fun ds Q=>∃ ns:List Int,ds=[.lst (ns.map .int)]/\ns.length<=63/\(∀ x∈ns,bts x<=1048576)/\Q .sh (.bl true)
theorem zem {K:PySem.W.Frag}{F H:Hp}:∀ ns:List Int,Reps K F H (ns.map D.int) (ns.map V.int)
 | []=>by unfold Reps;rfl
 |x::r=>by
  rw [List.map_cons,List.map_cons];unfold Reps;exact ⟨_,_,rfl,by unfold Rep;rfl,zem r⟩
theorem zky {l:PySem.W.OpenLaw}{k:Nat}{q:Program}{loose:List Str}{XP:(Str->Option Value)->Heap->Prop}{YP:World->Heap->Prop}{d:DefRec}{K:Params->PySem.W.Frag}{x:Str}
  (hn:l.most=some 63)(hdf:d.params.defaults=[])(hr:Room k callerA)
  (hY:∀ (w:World) (h:Heap),YP w h->(K w.params).In h)
  (F:∀ (w:World) (mg:Str->Option Value) (fa:Addr) (h:Heap),(K w.params).In h->h.Ns mainGlobals mg->mg d.name=some (.ref fa)->
   ∃ fd:FuncData,(∀ (s:Shared) (u:Value),BindsTo s fd ⟨[u],[]⟩ [(x,u)])/\
    ∀ base:Heap,(K w.params).In base->base.Ns mainGlobals mg->FnOk l.prog w (K w.params) mg base CX0 k fa fd [x] (spV (K w.params) zjD)):
  PySem.W.WalkO q loose XP YP l.row.toRowW d [] (fun f vs=>PySem.call f vs):=by
 refine zel hn hdf fun w s₀ s₁ mg mb fa o pm cd doc a vs ns G Y ho hd hcd hmg hobj hints hlen hbits hg=>?_;have KX:=hY w _ Y;obtain ⟨fd,hb,hF⟩:=F w mg fa _ KX G.T.g hmg;refine zfb KX G.T.g G.T.b G.T.builtins G.T.nolimit hg hobj hints (Nat.le_trans hlen (by decide)) hr hF hb (fun H hO hS=>?_) fun H e s' z=>z;refine ⟨[.lst (ns.map .int)],fun md d=>d= .bl true,?_,⟨ns,rfl,hlen,hbits,rfl⟩,fun md d hd v H' F' os g r nd new=>?_⟩
 ·refine Reps.one ?_;unfold Rep;exact ⟨a,_,rfl,hS,zem ns⟩
 ·subst hd;have:=r.read g.sub;unfold Rep at this;exact this
theorem ifT {c:Prop}{i:Decidable c}{A B:Prop}(hc:c)(h:A): @ite Prop c i A B:=by rw [if_pos hc];exact h
theorem ifF {c:Prop}{i:Decidable c}{A B:Prop}(hc:¬ c)(h:B): @ite Prop c i A B:=by rw [if_neg hc];exact h
theorem if2 {c:Prop}{i:Decidable c}{A B:Prop}(h1:c->A)(h2:¬ c->B): @ite Prop c i A B:=by
 by_cases hc:c
 ·rw [if_pos hc];exact h1 hc
 ·rw [if_neg hc];exact h2 hc
theorem bts_le {m:Nat}{x:Int}:bts x<=m↔x.natAbs<2 ^ m:=intBits_le_iff
theorem zic {m:Nat}{x y:Int}(hx:bts x<=m)(hy:bts y<=m):bts (x+y)<=m+1:=by have:=intBits_add_le (m:=m) (n:=m) hx hy;rwa [Nat.max_self] at this
theorem zgf {m n:Nat}{x y:Int}(hx:bts x<=m)(hy:bts y<=n):bts (x * y)<=m+n:=intBits_mul_le hx hy
theorem zb0 {m n:Nat}{x:Int}(hx:bts x<=m)(h:m<=n):bts x<=n:=Nat.le_trans hx h
theorem zjE {m:Nat}{x:Int}(h1: -(2 ^ m:Int)<x)(h2:x<(2 ^ m:Int)):bts x<=m:=by
 rw [bts_le];have e:((2 ^ m:Nat):Int)=(2 ^ m:Int):=by rw [Int.natCast_pow];rfl
 omega
theorem zid {m n:Nat}{x y:Int}(hx:bts x<=m)(hy:bts y<=n)(h:m+n<=134217728):IntMulOk x y:=IntMulOk.of_le hx hy h
theorem zgg {x y:Int}(h:bts y<=64):IntMulOk x y:=IntMulOk.of_right h
theorem zeV {x y:Int}(h:bts x<=64):IntMulOk x y:=IntMulOk.of_left h
theorem zkz {i j:Int}(h:0<j)(h2:bts j<=9000):zgS i j:=by
 refine ⟨h,?_⟩;have:=bts_le.mp h2;exact (Nat.log2_lt (by omega)).mpr this
theorem zdv {β:Type}{g:VG}{tb:VS}{E:VEnds}(j:β->D)(bs:List β)(I:List β->LSt->Prop)(step:∀ pre b post st kk,bs=pre++b::post->I pre st->(∀ st,I (pre++[b]) st->kk st)->g (j b) st fun st1=>tb {E with nx:=kk,ct:=kk,bk:=E.nx} st1)
  (done:∀ st,I bs st->E.nx st){st:LSt}(h0:I [] st):zbP g tb E (bs.map j) st:=by
 have key:∀ (post pre:List β) (st:LSt),bs=pre++post->I pre st->zbP g tb E (post.map j) st:=by
  intro post
  induction post with
  |nil=>
   intro pre st e h;rw [List.append_nil] at e;subst e;exact done st h
  |cons b post ih=>
   intro pre st e h;exact step pre b post st _ e h fun st' h'=>ih (pre++[b]) st' (by rw [e];simp) h'
 exact key bs [] st rfl h0
theorem zfl {g:VG}{tb:VS}{E:VEnds}(n:Nat)(I:Nat->LSt->Prop)(step:∀ k st kk,k<n->I k st->(∀ st,I (k+1) st->kk st)->g (.int (k:Int)) st fun st1=>tb {E with nx:=kk,ct:=kk,bk:=E.nx} st1)
  (done:∀ st,I n st->E.nx st){st:LSt}(h0:I 0 st):zbP g tb E ((List.range n).map fun k=>.int ((k:Nat):Int)) st:=by
 refine zdv (fun k:Nat=>.int (k:Int)) (List.range n) (fun pre st=>pre=List.range pre.length/\pre.length<=n/\I pre.length st) ?_ ?_ ⟨rfl,Nat.zero_le _,h0⟩
 ·rintro pre b post st kk e ⟨ep,hl,h⟩ hk;have hb:(List.range n)[pre.length]? =some b:=by rw [e];simp
  have hlt:pre.length<n:=by
   have:=(List.getElem?_eq_some_iff.mp hb).1;simpa using this
  rw [List.getElem?_range hlt] at hb;have hb:=Option.some.inj hb;subst hb;refine step pre.length st kk hlt h fun st' h'=>hk st' ⟨?_,by rw [List.length_append];exact hlt,by rw [List.length_append];exact h'⟩;rw [List.length_append,List.length_singleton,List.range_succ,<-ep]
 ·rintro st ⟨_,_,h⟩;rw [List.length_range] at h;exact done st h
theorem zdw {β:Type}{c:VT}{e:VE}{st:LSt}(j:β->D)(p:β->Bool)(f:β->D):∀ (bs:List β) (acc:List D) (Q:List D->Prop),
  (∀ b∈bs,∀ Q:Bool->Prop,Q (p b)->c (some (.sh,j b)::st) Q)->(∀ b∈bs,p b=true->∀ Q:D->Prop,Q (f b)->e (some (.sh,j b)::st) Q)->Q (acc++(bs.filter p).map f)->zgF c e st (bs.map j) acc Q
 | [],acc,Q,_,_,h=>by rw [List.map_nil];unfold zgF;simpa using h
 |d::ds,acc,Q,hc,he,h=>by
  rw [List.map_cons];unfold zgF;refine hc d List.mem_cons_self _ ?_;have rc:∀ x∈ds,∀ Q:Bool->Prop,Q (p x)->c (some (.sh,j x)::st) Q:=fun x hx=>hc x (List.mem_cons_of_mem _ hx);have re:∀ x∈ds,p x=true->∀ Q:D->Prop,Q (f x)->e (some (.sh,j x)::st) Q:=fun x hx=>he x (List.mem_cons_of_mem _ hx);by_cases hp:p d=true
  ·rw [if_pos hp];refine he d List.mem_cons_self hp _ (zdw j p f ds _ Q rc re ?_);rw [List.filter_cons_of_pos hp,List.map_cons] at h;simpa using h
  ·rw [if_neg hp];refine zdw j p f ds acc Q rc re ?_;rwa [List.filter_cons_of_neg hp] at h
theorem zfm {β:Type}{e:VE}{st:LSt}(j:β->D)(f:β->D)(bs:List β)(Q:List D->Prop)(he:∀ b∈bs,∀ Q:D->Prop,Q (f b)->e (some (.sh,j b)::st) Q)(h:Q (bs.map f)):zgF zgb e st (bs.map j) [] Q:=
 zdw j (fun _=>true) f bs [] Q (fun _ _ _ h=>h) (fun b hb _=>he b hb) (by rw [List.filter_eq_self.mpr (fun _ _=>rfl)];simpa using h)
theorem zie (a b:Int):deq (.int a) (.int b)=decide (a=b):=by unfold deq;rfl
theorem zjF (a b:Bool):deq (.bl a) (.bl b)=decide (a=b):=by unfold deq;cases a<;>cases b<;>rfl
theorem zcM {β:Type}{j:β->D}(hj:∀ a,(j a).flat=true):∀ xs:List β,flats (xs.map j)=true
 | []=>by simp [flats]
 |x::xs=>by rw [List.map_cons,flats,hj,zcM hj xs];rfl
theorem zjG (xs:List D)(n:Nat):zj0 xs none (some (n:Int))=xs.take n:=by
 unfold zj0;rw [HT.sIx_none,HT.sIx_nat,List.drop_zero,Nat.sub_zero];by_cases h:n<=xs.length
 ·rw [Nat.min_eq_left h]
 ·rw [Nat.min_eq_right (by omega),List.take_of_length_le (Nat.le_refl _),List.take_of_length_le (by omega)]
open PySem PySem.Spec PyProof.Rows L2 PySem.SeqAt
section
variable {X:Cx}{a b c e o:Expr}{es:List Expr}{ta tb tc t:VE}{pos p apos cpos:Pos}{k:Nat}
variable {tt:VAs}
end
noncomputable def bm:Nat->(Nat->Bool)->Nat
 |0,_=>0
 |n+1,f=>bm n f+if f n then 2 ^ n else 0
noncomputable abbrev zkA (s:Nat):D:=.int (s:Int)
section
variable {K:PySem.W.Frag}{F H:Hp}
theorem RepDs.parts:∀ {xs:List D} {vs:List V} {o:List Addr},RepDs K F H xs vs o->∃ oss:List (List Addr),oss.length=xs.length/\o=oss.flatten/\∀ k,k<xs.length->RepD K F H (xs.getD k .non) (vs.getD k .non) (oss.getD k [])
 | [],vs,o,h=>by
  unfold RepDs at h;exact ⟨[],rfl,h.2,fun k hk=>absurd hk (by simp)⟩
 |x::xs,vs,o,h=>by
  unfold RepDs at h;obtain ⟨v,r,o1,o2,rfl,rfl,h1,h2⟩:=h;obtain ⟨oss,hl,rfl,hk⟩:=RepDs.parts h2;refine ⟨o1::oss,by simp [hl],by simp,fun k hk'=>?_⟩;cases k with
  |zero=>simpa using h1
  |succ k=>simpa using hk k (by simpa using hk')
theorem RepDs.build:∀ {xs:List D} {vs:List V} {oss:List (List Addr)},vs.length=xs.length->oss.length=xs.length->(∀ k,k<xs.length->RepD K F H (xs.getD k .non) (vs.getD k .non) (oss.getD k []))->RepDs K F H xs vs oss.flatten
 | [],vs,oss,h1,h2,_=>by
  unfold RepDs;exact ⟨List.length_eq_zero_iff.mp h1,by rw [List.length_eq_zero_iff.mp h2];rfl⟩
 |x::xs,[],oss,h1,_,_=>by simp at h1
 |x::xs,v::vs,[],_,h2,_=>by simp at h2
 |x::xs,v::vs,o::oss,h1,h2,hk=>by
  unfold RepDs;refine ⟨v,vs,o,oss.flatten,rfl,by simp,by simpa using hk 0 (by simp),RepDs.build (by simpa using h1) (by simpa using h2) fun k hk'=>?_⟩;simpa using hk (k+1) (by simpa using hk')
noncomputable def pick {α:Type}(d:α)(xs:List α)(p:List Nat):List α:=p.map fun k=>xs.getD k d
theorem zb1 {α:Type}(d:α)(xs:List α)(p:List Nat):(pick d xs p).length=p.length:=by unfold pick;simp
theorem zdx {α:Type}(d:α)(xs:List α){p:List Nat}{k:Nat}(h:k<p.length):(pick d xs p).getD k d=xs.getD (p.getD k 0) d:=by
 unfold pick;rw [List.getD_eq_getElem?_getD,List.getElem?_map,List.getElem?_eq_getElem h];simp [List.getD_eq_getElem?_getD,List.getElem?_eq_getElem h]
theorem RepDs.pick {xs:List D}{vs:List V}{o:List Addr}(h:RepDs K F H xs vs o)(nd:o.Nodup){p:List Nat}(hp:p.Nodup)(hb:∀ k∈p,k<xs.length):
  ∃ o',RepDs K F H (VL.pick .non xs p) (VL.pick .non vs p) o'/\o'.Nodup/\∀ a∈o',a∈o:=by
 obtain ⟨oss,hl,rfl,hk⟩:=h.parts;refine ⟨(VL.pick [] oss p).flatten,RepDs.build (by rw [zb1,zb1]) (by rw [zb1,zb1]) fun k hk'=>?_,?_,fun a ha=>?_⟩
 ·rw [zb1] at hk';rw [zdx _ _ hk',zdx _ _ hk',zdx _ _ hk'];refine hk _ (hb _ ?_);rw [List.getD_eq_getElem?_getD,List.getElem?_eq_getElem hk'];exact List.getElem_mem hk'
 ·have nd':=List.pairwise_flatten.mp nd;refine List.pairwise_flatten.mpr ⟨fun l hl'=>?_,?_⟩
  ·obtain ⟨k,hkp,rfl⟩:=List.mem_map.mp hl';have hk1:k<oss.length:=by rw [hl];exact hb k hkp
   rw [List.getD_eq_getElem?_getD,List.getElem?_eq_getElem hk1];exact nd'.1 _ (List.getElem_mem hk1)
  ·show List.Pairwise _ (p.map _)
   rw [List.pairwise_map];refine List.Pairwise.imp_of_mem ?_ hp;intro i j hi hj hij x hx y hy;have hi1:i<oss.length:=by rw [hl];exact hb i hi
   have hj1:j<oss.length:=by rw [hl];exact hb j hj
   rw [List.getD_eq_getElem?_getD,List.getElem?_eq_getElem hi1] at hx;rw [List.getD_eq_getElem?_getD,List.getElem?_eq_getElem hj1] at hy;rcases Nat.lt_or_gt_of_ne hij with z|z
   ·exact (List.pairwise_iff_getElem.mp nd'.2) i j hi1 hj1 z x hx y hy
   ·exact fun e=>(List.pairwise_iff_getElem.mp nd'.2) j i hj1 hi1 z y hy x hx e.symm
 ·obtain ⟨l,hl',ha⟩:=List.mem_flatten.mp ha;obtain ⟨k,hkp,rfl⟩:=List.mem_map.mp hl';have hk1:k<oss.length:=by rw [hl];exact hb k hkp
  rw [List.getD_eq_getElem?_getD,List.getElem?_eq_getElem hk1] at ha;exact List.mem_flatten.mpr ⟨_,List.getElem_mem hk1,ha⟩
theorem Reps.pick {xs:List D}{vs:List V}(h:Reps K F H xs vs){p:List Nat}(hb:∀ k∈p,k<xs.length):Reps K F H (VL.pick .non xs p) (VL.pick .non vs p):=by
 have hl:=h.len
 induction p with
 |nil=>unfold VL.pick;rw [List.map_nil,List.map_nil];unfold Reps;rfl
 |cons k p ih=>
  unfold VL.pick;rw [List.map_cons,List.map_cons];unfold Reps;have hk:k<xs.length:=hb k List.mem_cons_self;obtain ⟨v,hv,rv⟩:=h.at' (List.getElem?_eq_getElem hk);refine ⟨vs.getD k .non,_,rfl,?_,ih fun j hj=>hb j (List.mem_cons_of_mem _ hj)⟩;rw [List.getD_eq_getElem?_getD,List.getElem?_eq_getElem hk,List.getD_eq_getElem?_getD,hv];exact rv
theorem RepDs.stayU {a:Addr}{us:List V}{o':HO}{xs:List D}{vs:List V}{o:List Addr}(q:H a=some (.lst us))(h:RepDs K F H xs vs o)(na:a∉o):RepDs K F (upd H a o') xs vs o:=
 RepDs.stay (Tp.upd q) xs vs o h fun b hb=>⟨upd_ne (fun z=>na (z▸hb)),(RepDs.there xs vs o h b hb).1⟩
theorem zcN {st:LSt}{σ:St}{i:Nat}{mi:Md}{xs:List D}{p:List Nat}(ok:Ok K F H st σ)(hi:st[i]? =some (some (mi,.lst xs)))(hm:mi≠ .sh)(hoa:∀ a,mi≠ .oa a)(hp:p.Nodup)(hb:∀ k∈p,k<xs.length):
  ∃ a vs,σ[i]? =some (some (.ref a))/\H a=some (.lst vs)/\Reps K H H xs vs/\Ok K F (upd H a (.lst (pick .non vs p))) (st.set i (some (mi,.lst (pick .non xs p)))) σ:=by
 obtain ⟨O,o⟩:=ok;obtain ⟨w,hw,rw'⟩:=o.repL i mi xs hi;cases mi with
 |sh=>exact absurd rfl hm
 |dw t k=>exact rw'.elim
 |ds t k=>exact rw'.elim
 |oa a=>exact absurd rfl (hoa a)
 |ow=>
  have rw':RepD K F H (.lst xs) w (O i):=rw';have rd:=RepD.read _ _ _ rw';unfold RepD at rw';obtain ⟨a,vs,oi,rfl,eO,q,f,rr⟩:=rw';have haO:a∈O i:=by rw [eO];exact List.mem_cons_self
  have ndO:=o.nd i;rw [eO,List.nodup_cons] at ndO;obtain ⟨o',r',nd',sub⟩:=RepDs.pick rr ndO.2 hp hb;refine ⟨a,vs,hw,q,RepDs.read xs vs oi rr,o.rewrite (os:=a::o') hi hw haO (Same.refl F) (fun b u e=>?_) (fun j b hb=>(o.there hb).1) ?_ ?_ fun j hj b hb hc=>?_⟩
  ·rw [upd_ne (fun z=>by rw [z,f] at e;cases e)];exact o.sub b u e
  ·show RepD K F _ (.lst _) (.ref a) (a::o');unfold RepD;exact ⟨a,_,o',rfl,rfl,zas,f,RepDs.stayU q r' fun z=>ndO.1 (sub _ z)⟩
  ·exact List.nodup_cons.mpr ⟨fun z=>ndO.1 (sub _ z),nd'⟩
  ·refine hj (o.dj j i b hc ?_);rw [eO];rcases List.mem_cons.mp hb with z|z
   ·rw [z];exact List.mem_cons_self
   ·exact List.mem_cons_of_mem _ (sub _ z)
 |o1=>
  obtain ⟨xs',a,vs,e1,rfl,eO,q,f,rr⟩:=rw';cases e1;have haO:a∈O i:=by rw [eO];exact List.mem_cons_self
  refine ⟨a,vs,hw,q,Reps.mono o.sub (Tp.of (Same.refl H)) _ _ rr,o.rewrite (os:=[a]) hi hw haO (Same.refl F) (fun b u e=>?_) (fun j b hb=>(o.there hb).1) ?_ (by simp) fun j hj b hb hc=>?_⟩
  ·rw [upd_ne (fun z=>by rw [z,f] at e;cases e)];exact o.sub b u e
  ·exact ⟨_,a,_,rfl,rfl,rfl,zas,f,Reps.mono (Same.refl F) (Tp.upd q) _ _ (rr.pick hb)⟩
  ·refine hj (o.dj j i b hc ?_);rw [eO];exact hb
theorem zg0 {st:LSt}{σ:St}{i:Nat}{mi:Md}{xs:List D}{p:List Nat}(ok:Ok K F H st σ)(hi:st[i]? =some (some (mi,.lst xs)))(hm:mi≠ .sh)(hp:p.Nodup)(hb:∀ k∈p,k<xs.length):
  ∃ a vs,σ[i]? =some (some (.ref a))/\H a=some (.lst vs)/\Reps K H H xs vs/\Ok K F (upd H a (.lst (pick .non vs p))) (st.set i (some (mi,.lst (pick .non xs p)))) σ:=by
 cases mi with
 |sh=>exact absurd rfl hm
 |dw t k=>obtain ⟨O,o⟩:=ok;obtain ⟨_,_,r⟩:=o.repL i _ _ hi;exact r.elim
 |ds t k=>obtain ⟨O,o⟩:=ok;obtain ⟨_,_,r⟩:=o.repL i _ _ hi;exact r.elim
 |o1=>exact zcN ok hi hm (fun a z=>by cases z) hp hb
 |ow=>exact zcN ok hi hm (fun a z=>by cases z) hp hb
 |oa a0=>
  have hl:=(List.getElem?_eq_some_iff.mp hi).1;obtain ⟨ok0,hv⟩:=ok.weak hi;obtain ⟨a,vs,ha,q,rr,ok1⟩:=zcN ok0 (List.getElem?_set_self hl) (fun z=>by cases z) (fun a z=>by cases z) hp hb;refine ⟨a,vs,ha,q,rr,?_⟩;rw [List.set_set] at ok1;have:=ok1.strong (List.getElem?_set_self hl) hv;rwa [List.set_set] at this
end
section
variable {X:Cx}{x ya yb:Str}{p1 p2 p3 p4 p5 p6 p7 p8 q1 q2 q3 q4 r1 r2 pos:Pos}{k1 k2:Nat}
end
section
variable {X:Cx}{a e:Expr}{ta:VE}{tl tu ts:VP}{lo hi:Option Expr}{es:Expr}{pos p2:Pos}
end
section
variable {X:Cx}{e c a b iter:Expr}{pos p:Pos}{t u tb:VS}
end
section
variable {X:Cx}{a b:Expr}{pos p p2 pos2:Pos}{t:VAs}
end
noncomputable def zjH (N:List Str)(a:Addr)(d:D)(ds:List D):LSt:=some (.oa a,d)::(ds.map (fun d=>some (.sh,d))++List.replicate (N.length - (ds.length+1)) none)
noncomputable def zjI (N:List Str)(a a2:Addr)(d d2:D)(ds:List D):LSt:=some (.oa a,d)::some (.oa a2,d2)::(ds.map (fun d=>some (.sh,d))++List.replicate (N.length - (ds.length+2)) none)
section
variable {K:PySem.W.Frag}
end
section
variable {P:Program}{w:World}{K:PySem.W.Frag}{mg:Str->Option Value}{base:Heap}
end
section
variable {X:Cx}{es:List Expr}{t:VAs}{x x1 x2:Str}{p p1 p2 pos pos2:Pos}{k:Nat}
end
section
variable {X:Cx}{x y:Str}{p q pos apos cpos:Pos}
end
section
variable {X:Cx}{a b:Expr}{ta:VAs}{tb:VE}{pos:Pos}
end
theorem zhx:∃ f:Int->Int->Int,∀ n k,f n k=(n * n+k * n+7 * k * k) * 1103515245 % 2147483629:=⟨fun n k=>(n * n+k * n+7 * k * k) * 1103515245 % 2147483629,fun _ _=>rfl⟩
noncomputable def zfn:Int->Int->Int:=Classical.choose zhx
theorem zif (n k:Int):zfn n k=(n * n+k * n+7 * k * k) * 1103515245 % 2147483629:=Classical.choose_spec zhx n k
theorem zgh {x:Int}(h0: -1000000<x)(h1:x<1000000):bts x<=64:=zjE (by omega) (by omega)
section
variable {X:Cx}{x:Str}{p pos apos cpos:Pos}
end
section
variable {X:Cx}{x:Str}{p pos:Pos}{tb:VS}
end
section
variable {X:Cx}{elt iter:Expr}{ifs:List Expr}{pos py spos:Pos}{y:Str}{R:List Str}{scope:Scope}{src:VAs}{ct:VT}{ee:VE}
end
section
variable {X:Cx}{e c a b iter i1:Expr}{pos p apos cpos:Pos}{t u tb:VS}{x:Str}
end
section
variable {X:Cx}
end
section
variable {X:Cx}{e i1:Expr}{pos p apos cpos:Pos}{x:Str}
end
section
variable {X:Cx}{pos:Pos}
end
section
variable {X:Cx}{a b:Expr}{pos p p2 pos2:Pos}{t:VAs}
end
section
variable {X:Cx}{a:Expr}{pos p p2 pos2:Pos}{t:VAs}
end
section
variable {X:Cx}{a:Expr}{pos p p2 pos2:Pos}{t:VAs}
end
section
variable {X:Cx}
end
section
variable {X:Cx}{e:Expr}{pos p apos cpos:Pos}{x:Str}
end
section
variable {X:Cx}{tg l a b c elt iter:Expr}{es ifs:List Expr}{pos p:Pos}
variable {y:Str}{py spos:Pos}{R:List Str}{scope:Scope}{src:VAs}{ct:VT}{ee:VO}
end
section
variable {X:Cx}{tg l a b c elt iter:Expr}{es ifs:List Expr}{pos p:Pos}
variable {y z:Str}{py pz pt:Pos}{k1:Nat}{R:List Str}{scope:Scope}{src:VAs}{ct:VT}{ee:VE}
end
section
variable {prog:Program}{w:World}{A:Around}{E:Value->Shared->Prop}{s:Shared}
end
section
variable {X:Cx}{e:Expr}{pos:Pos}
end
section
variable {X:Cx}{e:Expr}{pos tpos p q:Pos}{x y:Str}
end
section
variable {X:Cx}
end
section
variable {X:Cx}{o e:Expr}{ta tb:VE}{apos cpos:Pos}
end
section
variable {X:Cx}{a:Expr}{pos p:Pos}{tt:VAs}
end
section
variable {X:Cx}
end
section
variable {X:Cx}{e:Expr}{pos p apos cpos:Pos}{x:Str}
end
section
variable {X:Cx}
end
section
variable {X:Cx}{e i1:Expr}{pos p p2:Pos}{x:Str}
end
open PySem.W (KasT kas_rev kas_asc kas_desc kas_tail3 kas_descPart kas_count kas_place kas_bin kas_sort)
section
variable {key:Nat->Int}{n:Nat}{p q:Array Nat}
end
section
variable {cmp:Nat->Nat->(Bool->Shared->Prop)->Shared->Prop}{s:Shared}{key:Nat->Int}{n:Nat}
end
open PySem.W (KasT kas_sort kas_ask kas_cmp kat_run kat_kind kat_lt KatTups kat_cons kat_nil kat_go kat_yes kat_no kat_one BoolBack kat_snds kas_item KatLex Looks)
section
variable {prog:Program}{w:World}{A:Around}{E:Value->Shared->Prop}{s:Shared}
end
section
variable {X:Cx}{pins:List (Addr×Obj)}{σ:St}{H:Hp}{s:Shared}
end
section
variable {X:Cx}{a:Expr}{pos p:Pos}{t:VAs}
end
section
variable {X:Cx}{e:Expr}{pos tpos p q:Pos}{x y:Str}
end
theorem zg1 {α:Type}(d:α)(xs:List α):(List.range xs.length).map (fun k=>xs.getD k d)=xs:=by
 apply List.ext_getElem?;intro k;rw [List.getElem?_map];by_cases h:k<xs.length
 ·rw [List.getElem?_range h,List.getElem?_eq_getElem h];simp [List.getD_eq_getElem?_getD,h]
 ·rw [List.getElem?_eq_none (by simpa using h),List.getElem?_eq_none (by omega)];rfl
theorem zen {α β:Type}(f:α->β):∀ (l:List α) (n:Nat),(l.eraseIdx n).map f=(l.map f).eraseIdx n
 | [],n=>by simp
 |x::l,0=>rfl
 |x::l,n+1=>by
  rw [List.eraseIdx_cons_succ,List.map_cons,List.map_cons,List.eraseIdx_cons_succ,zen f l n]
theorem zdi {α:Type}(d:α)(xs:List α)(n:Nat):pick d xs ((List.range xs.length).eraseIdx n)=xs.eraseIdx n:=by
 unfold pick;rw [zen,zg1]
section
variable {X:Cx}{i1:Expr}{pos p q apos cpos:Pos}{x y:Str}
end
section
variable {X:Cx}{x y z:Str}{pos p q w:Pos}
end
section
variable {X:Cx}{e:Expr}{pos tpos p q w:Pos}{x y z:Str}
end
section
variable {P:Program}{w:World}{K:PySem.W.Frag}{mg:Str->Option Value}{base:Heap}
end
section
variable {X:Cx}{es:List Expr}{t:VAs}{x x1:Str}{p p1 p2 pos pos2:Pos}{k:Nat}
end
section
variable {X:Cx}{ea eb i1:Expr}{pos lp p:Pos}{x:Str}{ta tb:VAs}{tk:VE}
end
section
variable {K:PySem.W.Frag}{F H:Hp}{st:LSt}{σ:St}
end
section
variable {X:Cx}{s:Stmt}{t:VS}
end
section
variable {X:Cx}{i1:Expr}{pos p apos cpos:Pos}{x:Str}
noncomputable def zfo (i:Nat)(tk:VE):VS:=fun E st=>match st[i]? with
 |some (some (mi,.lst xs))=>mi≠ .sh/\xs.length<=1000000/\tk st fun d=>(match d with
  | .int k=>(match ixN xs.length k with
   |some n=>E.nx (st.set i (some (mi,.lst (xs.eraseIdx n))))
   |none=>False)
  |_=>False)
 |_=>False
theorem zig (i:Nat){tk:VE}(hk:SB X i1 tk)(hN:X.N[i]? =some x:=by rfl)(hv:Vis X.env.scope x:=by first|exact Or.inl rfl|exact Or.inr (Or.inl rfl)|exact Or.inr (Or.inr rfl))(hd:(x==("__debug__":Str))=false:=by decide)
  (hcd:(x==("__classdict__":Str))=false:=by decide)(hs:swapsWith (.Call (.Attribute (.Name x p) "pop" apos) [i1] [] cpos) none pos.line X.env=pure false:=by rfl)
  (hbase:attributeBase (.Name x p) "pop" X.env (eval (.Name x p) X.env)=eval (.Name x p) X.env:=by rfl)
  (hfew:((backTo cpos (starEach [i1] X.env)).all (fun x=> !x.1)&&(backToKw cpos (keywordEach [] X.env)).all (fun x=>x.1.isSome)&&decide ([i1].length+([]:List Keyword).length+(if ([]:List Keyword).isEmpty then 0 else 1)<30))=true:=by rfl)
  (hline:(apos.endLine==cpos.line)=true:=by rfl)(hst:starEach [i1] X.env=(false,eval i1 X.env)::starEach [] X.env:=by rfl)(hpl:(backTo cpos (starEach [] X.env)).any (·.1)=false:=by rfl):
  SS X (.Expr (.Call (.Attribute (.Name x p) "pop" apos) [i1] [] cpos) pos) (zfo i tk):=
 PS.wk (zeI (zgO PySem.F.plainAttrs_list PySem.F.slot_list_pop PySem.F.type_list_pop zgP (zbT hN hv hd hcd) (zaC hk zbE hst) hbase hfew hline hst hpl) hs) fun De σ H zz=>by
 obtain ⟨F,st,E,ok,h,c⟩:=zz;unfold zfo at h;split at h
 ·rename_i mi xs hi;obtain ⟨hm,hbig,h⟩:=h;obtain ⟨O,o⟩:=id ok;obtain ⟨w,hw,rw'⟩:=o.repL i mi _ hi;have rd:=rw'.read o.sub;unfold Rep at rd;obtain ⟨a,vs0,rfl,hq,_⟩:=rd;refine ⟨.ref a,hw,.inl ⟨rfl,vs0,hq⟩,F,st,_,ok,h,fun d hd v H' s r=>?_⟩;split at hd
  ·rename_i k;have r:v= .int k:=r;subst r;split at hd
   ·rename_i n hn;obtain ⟨h1,h2,h3,h4⟩:=zeO hn;obtain ⟨a',vs,hw',q',rr,ok2⟩:=zg0 (p:=(List.range xs.length).eraseIdx n) (ok.same s) hi hm (List.nodup_range.sublist (List.eraseIdx_sublist _ _)) (fun k hk=>List.mem_range.mp (List.mem_of_mem_eraseIdx hk));rw [hw] at hw';cases hw';have hlen:xs.length=vs.length:=rr.len;rw [zdi,hlen,zdi] at ok2;refine ⟨a,vs,k,n,vs.getD n .non,rfl,rfl,q',by omega,by omega,by rw [<-hlen];exact h1,?_,?_⟩
    ·rw [List.getD_eq_getElem?_getD,List.getElem?_eq_getElem (by omega)];rfl
    ·exact c.nx F _ _ σ ⟨Same.refl F,((Tp.of s).trans (Tp.upd q'))⟩ ok2 hd
   ·exact hd.elim
  ·exact hd.elim
 ·exact h.elim
end
section
variable {X:Cx}{ea eb ec i1:Expr}{pos lp:Pos}{ta tb tc:VAs}{tk:VE}
end
section
variable {X:Cx}{i1:Expr}{pos p q apos cpos:Pos}{x y:Str}
end
section
variable {X:Cx}
end
section
variable {X:Cx}{e i1:Expr}{pos p apos cpos:Pos}{x:Str}
end
section
variable {X:Cx}{i1 i2:Expr}{pos p p2 apos cpos apos2 cpos2:Pos}{x:Str}
end
section
variable {X:Cx}{s:Stmt}{t:VS}
end
section
variable {X:Cx}{x y z:Str}{pos p q w:Pos}
end
end VL
namespace L2
open PySem PySem.Spec PyProof.Rows
section
variable {prog:Program}{w:World}{A:Around}{E:Value->Shared->Prop}{s:Shared}
end
section
variable {X:Cx}{a:Expr}{pos p p2 pos2:Pos}{tg:Expr}
end
end L2
namespace VL
open PySem PySem.Spec PyProof.Rows L2
section
variable {X:Cx}{a iter:Expr}{pos p p2 pos2:Pos}{t:VAs}{tb:VS}
end
end VL
namespace L2
open PySem PySem.Spec PyProof.Rows
variable {X:Cx}{a:Expr}{ta:TE}{pos:Pos}
end L2
namespace VL
open PySem PySem.Spec PyProof.Rows L2
variable {X:Cx}{a:Expr}{ta:VE}{pos:Pos}
theorem RepDs.at' {K:PySem.W.Frag}{F H:Hp}:∀ (ds:List D) (vs:List V) (os:List Addr) (j:Nat) (d:D),RepDs K F H ds vs os->ds[j]? =some d->∃ v o,vs[j]? =some v/\RepD K F H d v o/\o.Sublist os
 | [],_,_,_,_,_,e=>by cases e
 |x::ds,vs,os,j,d,r,e=>by
  unfold RepDs at r;obtain ⟨v,vs',o1,o2,rfl,rfl,r1,r2⟩:=r;cases j with
  |zero=>
   have e:x=d:=Option.some.inj e;subst e;exact ⟨v,o1,rfl,r1,List.sublist_append_left o1 o2⟩
  |succ j=>
   obtain ⟨w,o,h1,h2,h3⟩:=RepDs.at' ds vs' o2 j d r2 e;exact ⟨w,o,h1,h2,h3.trans (List.sublist_append_right o1 o2)⟩
section
variable {X:Cx}{a:Expr}{pos p:Pos}
end
end VL
namespace L2
open PySem PySem.Spec PyProof.Rows
end L2
namespace L2
open PySem PySem.Spec PyProof.Rows
noncomputable def Cx.in1 (X:Cx):Cx:={X with A:=X.A.in1,xe:=fun _ _=>False}
theorem Inv.in1 {X:Cx}{pins:List (Addr×Obj)}{σ:St}{H:Hp}{s:Shared}(I:Inv X pins σ H s):Inv X.in1 pins σ H s:=
 ⟨⟨I.ok.mod,I.ok.kind,I.ok.glob,I.ok.blt,I.ok.above,I.ok.inj,I.ok.has,I.ok.cab,I.ok.hd,I.ok.frames,I.ok.stk,I.ok.exf,I.ok.bs,I.ok.bsz,I.ok.noex,I.ok.exfs,I.ok.funs,I.ok.frf⟩,I.os,I.bare,I.base,I.loc,I.cell,I.free,I.freeC,I.pin,I.hok,I.len⟩
section
variable {X:Cx}{e d:Expr}{pos p p1 kp1 kp2:Pos}{t:TA}{td:TE}{x:Str}{q:Addr}
end
end L2
namespace VL
open PySem PySem.Spec PyProof.Rows L2
section
variable {X:Cx}{e d:Expr}{pos p p1 kp1 kp2:Pos}{t:VAs}{td:VE}{x:Str}{k:Nat}{m:VF}
end
end VL
namespace L2
open PySem PySem.Spec PyProof.Rows
section
variable {X:Cx}{a b:Expr}{pos p:Pos}
end
end L2
namespace VL
open PySem PySem.Spec PyProof.Rows L2
section
variable {X:Cx}{a b:Expr}{pos p p2:Pos}{t:VAs}{tb:VS}
end
end VL
namespace L2
open PySem PySem.Spec PyProof.Rows
end L2
namespace L2
open PySem PySem.Spec PyProof.Rows
section
variable {X:Cx}{e1 e2:Expr}{pos p p1 kp1:Pos}{t:TA}{x:Str}{q:Addr}
end
end L2
namespace VL
open PySem PySem.Spec PyProof.Rows L2
section
variable {X:Cx}{e1 e2:Expr}{pos p p1 kp1:Pos}{t:VAs}{x:Str}{k:Nat}{m:VF}
end
section
variable {X:Cx}{a b:Expr}{pos p:Pos}{t:VAs}
end
section
variable {X:Cx}{tg l a b c elt iter:Expr}{es ifs:List Expr}{pos p:Pos}
variable {y z:Str}{py pz pt:Pos}{k1:Nat}{R:List Str}{scope:Scope}{src:VAs}{ct:VT}{ee:VE}
end
section
variable {X:Cx}
end
section
variable {X:Cx}{e:Expr}{pos p apos cpos:Pos}{x:Str}
end
section
variable {X:Cx}{elt iter:Expr}{ifs:List Expr}{pos spos:Pos}{y z:Str}{py pz pt:Pos}{k1:Nat}{R:List Str}{scope:Scope}{src:VAs}{ct:VT}{ee:VE}
end
section
variable {X:Cx}{tg l a b c elt iter:Expr}{es ifs:List Expr}{pos p:Pos}
variable {y:Str}{py spos:Pos}{R:List Str}{scope:Scope}{src:VAs}{ct:VT}{ee:VO}
end
noncomputable abbrev DKV:=List (List Int×FD)
noncomputable def fdD:FD->D
 | .non=>.non
 | .int i=>.int i
 | .tup is=>.tup (is.map .int)
noncomputable def zg2:List D->Option (List Int)
 | []=>some []
 | .int i::r=>(zg2 r).map (i:: ·)
 |_=>none
noncomputable def dFD:D->Option FD
 | .non=>some .non
 | .int i=>some (.int i)
 | .tup xs=>(zg2 xs).map .tup
 |_=>none
noncomputable def dAt (st:LSt)(i:Nat):Option (Bool×DKV):=match st[i]? with
 |some (some (.dw t k,_))=>some (t,k)
 |some (some (.ds t k,_))=>some (t,k)
 |_=>none
section
variable {K:PySem.W.Frag}{F H:Hp}{st:LSt}{σ:L2.St}
theorem Ok.dict (ok:Ok K F H st σ){i:Nat}{t:Bool}{kvs:DKV}(h:dAt st i=some (t,kvs)):∃ a,σ[i]? =some (some (.ref a))/\DIn K H H a t kvs:=by
 obtain ⟨O,o⟩:=ok;unfold dAt at h;split at h
 ·rename_i t' k' d e;have h:=Option.some.inj h;cases h;obtain ⟨v,e1,_,a,rfl,_,_,r⟩:=o.rep i _ _ e;exact ⟨a,e1,r⟩
 ·rename_i t' k' d e;have h:=Option.some.inj h;cases h;obtain ⟨v,e1,_,a,rfl,_,r⟩:=o.rep i _ _ e;exact ⟨a,e1,r.same o.sub (Tp.of (Same.refl H))⟩
 ·cases h
end
noncomputable def ngt:Bool->Bool->Bool
 |true,b=> !b
 |false,b=>b
section
variable {X:Cx}{k e v:Expr}{x:Str}{p pos:Pos}{tk tv:VE}{i j:Nat}
end
section
variable {X:Cx}{k e v:Expr}{x:Str}{p pos pos':Pos}{tk tv:VE}
end
section
variable {P:Program}{w:World}{K:PySem.W.Frag}{mg:Str->Option Value}{base:Heap}
end
end VL
namespace L2
open PySem PySem.Spec PyProof.Rows
section
variable {X:Cx}{pins:List (Addr×Obj)}{σ:St}{H:Hp}{s:Shared}{a:Addr}{ob:Obj}{u:HO}
theorem Inv.thaw (I:Inv X pins σ H s)(e:H a=some (.frz ob u))(nf:∀ o' u',X.H₀ a≠some (.frz o' u')):Inv X pins σ (upd H a u) s:=by
 have ne:∀ b w,H b=some w->(∀ o' u',w≠ .frz o' u')->b≠a:=fun b w q n z=>by
  rw [z,e] at q;exact n _ _ (Option.some.inj q).symm
 refine ⟨I.ok,I.os,I.bare,⟨I.base.keep,I.base.slot,fun b o q n hx=>?_,I.base.there,fun b xs q=>?_,fun b o w q=>?_,fun b ps q=>?_⟩,I.loc,I.cell,?_,fun x c q=>?_,fun p hp=>?_,fun b w q=>?_,I.len⟩
 ·have:=I.base.free b o q n hx;rw [upd_ne (fun z=>by rw [z,e] at this;cases this)];exact this
 ·have:=I.base.tups b xs q;rw [upd_ne (ne b _ this fun _ _ z=>by cases z)];exact this
 ·rw [upd_ne (fun z=>nf o w (by rw [<-z];exact q))];exact I.base.frzs b o w q
 ·obtain ⟨more,this⟩:=I.base.tbls b ps q;exact ⟨more,by rw [upd_ne (ne b _ this fun _ _ z=>by cases z)];exact this⟩
 ·rw [upd_ne (fun z=>by have:=I.free;rw [z,e] at this;cases this)];exact I.free
 ·rw [upd_ne (fun z=>by have:=I.freeC x c q;rw [z,e] at this;cases this)];exact I.freeC x c q
 ·obtain ⟨h1,h2,h3,h4,h5⟩:=I.pin p hp;exact ⟨h1,by rw [upd_ne (fun z=>by rw [z,e] at h2;cases h2)];exact h2,h3,h4,h5⟩
 ·by_cases hb:b=a
  ·subst hb;rw [zas] at q;cases q;obtain ⟨_,q⟩:=(show ObjOk X.prog X.w H s.heap b (.frz ob u) from I.hok b _ e);exact q.stay (fun _ _ _ z=>z) (fun c z=>by rw [upd_ne (ne c _ z fun _ _ z=>by cases z)];exact z) fun c xs z=>by rw [upd_ne (ne c _ z fun _ _ z=>by cases z)];exact z
  ·rw [upd_ne hb] at q;refine (I.hok b w q).stay (fun _ _ _ z=>z) (fun c z=>?_) fun c xs z=>?_
   ·rw [upd_ne (ne c _ z fun _ _ z=>by cases z)];exact z
   ·rw [upd_ne (ne c _ z fun _ _ z=>by cases z)];exact z
theorem KV.at:∀ {kv:List (Key×V)} {vs:List (Key×Value)} {i:Nat} {p:Key×V},KV kv vs->kv[i]? =some p->∃ v,vs[i]? =some (p.1,v)
 |_,_,i,p,.nil,h=>by simp at h
 |_,_,0,p,.cons (a:=p') (b:=q') r t,h=>by
  have h:p'=p:=by simpa using h
  subst h;refine ⟨q'.2,?_⟩;rw [List.getElem?_cons_zero,show (p'.1,q'.2)=q' from by rw [r.1]]
 |_,_,i+1,p,.cons r t,h=>by
  obtain ⟨v,e⟩:=KV.at (i:=i) t (by simpa using h);exact ⟨v,by simpa using e⟩
end
section
variable {X:Cx}{tg:Expr}
end
end L2
namespace VL
open PySem PySem.Spec PyProof.Rows L2
section
variable {K:PySem.W.Frag}
end
section
variable {X:Cx}{elt:Expr}{ifs:List Expr}{x y:Str}{py px pos spos pz:Pos}{R:List Str}{scope:Scope}{ct:VT}{ee:VE}
end
noncomputable abbrev AM:=List (Md×D)
noncomputable abbrev VAm:=LSt->(AM->Prop)->Prop
section
variable {X:Cx}{e:Expr}{es:List Expr}{ta:VE}{t:VAm}{x:Str}{p:Pos}
end
noncomputable def zjJ (N:List Str)(as:AM):LSt:=as.map (fun a=>some a)++List.replicate (N.length - as.length) none
section
variable {P:Program}{w:World}{K:PySem.W.Frag}{mg:Str->Option Value}{base:Heap}
end
section
variable {X:Cx}{tg l a b c elt iter:Expr}{es ifs:List Expr}{pos p:Pos}
variable {y z:Str}{py pz pt:Pos}{k1:Nat}{R:List Str}{scope:Scope}{src:VAs}{ct:VT}{ee:VE}
end
section
variable {X:Cx}{a:Expr}{pos p:Pos}{tt:VAs}
end
end VL
namespace L2
open PySem PySem.Spec PyProof.Rows
end L2
namespace VL
open PySem PySem.Spec PyProof.Rows L2
noncomputable def zcn (H:Hp)(h:Heap):Hp:=fun b=>match h.get? b,H b with
 |some o,some (.lst xs)=>some (.frz o (.lst xs))
 |some o,some (.tup xs)=>some (.frz o (.tup xs))
 |some o,some (.frz _ (.lst xs))=>some (.frz o (.lst xs))
 |some o,some (.frz _ (.tup xs))=>some (.frz o (.tup xs))
 |_,_=>none
theorem zdj {H:Hp}{h:Heap}{b:Addr}{u:HO}(e:zcn H h b=some u):∃ o w,u= .frz o w/\h.get? b=some o/\Rd H b w/\((∃ xs,w= .lst xs)\/∃ xs,w= .tup xs):=by
 unfold zcn at e;split at e
 ·rename_i o xs h1 h2;cases e;exact ⟨o,_,rfl,h1,.inl h2,.inl ⟨xs,rfl⟩⟩
 ·rename_i o xs h1 h2;cases e;exact ⟨o,_,rfl,h1,.inl h2,.inr ⟨xs,rfl⟩⟩
 ·rename_i o o' xs h1 h2;cases e;exact ⟨o,_,rfl,h1,.inr ⟨o',h2⟩,.inl ⟨xs,rfl⟩⟩
 ·rename_i o o' xs h1 h2;cases e;exact ⟨o,_,rfl,h1,.inr ⟨o',h2⟩,.inr ⟨xs,rfl⟩⟩
 ·cases e
theorem zb2 {H:Hp}{h:Heap}{b:Addr}(e:H b=none):zcn H h b=none:=by
 cases q:zcn H h b with
 |none=>rfl
 |some u=>
  obtain ⟨o,w,_,_,r,_⟩:=zdj q;rcases r with r|⟨o',r⟩<;>rw [e] at r<;>cases r
theorem zih {H:Hp}{h:Heap}{b:Addr}{o:Obj}{xs:List V}(e:h.get? b=some o)(r:Rd H b (.lst xs)):zcn H h b=some (.frz o (.lst xs)):=by
 unfold zcn;rcases r with r|⟨o',r⟩<;>rw [e,r]
theorem zii {H:Hp}{h:Heap}{b:Addr}{o:Obj}{xs:List V}(e:h.get? b=some o)(r:Rd H b (.tup xs)):zcn H h b=some (.frz o (.tup xs)):=by
 unfold zcn;rcases r with r|⟨o',r⟩<;>rw [e,r]
section
variable {P:Program}{w:World}{K:PySem.W.Frag}{mg:Str->Option Value}{base:Heap}{H:Hp}{h:Heap}{a:Addr}{o:HO}
theorem ObjOk.is (x:ObjOk P w H h a o):∃ u,h.get? a=some u:=by
 cases o with
 |lst xs=>obtain ⟨_,_,_,_,e⟩:=x;exact ⟨_,e⟩
 |tup xs=>obtain ⟨_,_,_,o,e,_⟩:=x;exact ⟨_,e⟩
 |dK kvs=>obtain ⟨_,_,_,_,o,_,_,e,_⟩:=x;exact ⟨_,e⟩
 |dT kvs=>obtain ⟨_,_,_,_,o,_,_,e,_⟩:=x;exact ⟨_,e⟩
 |set S n=>obtain ⟨o,_,_,_,e,_⟩:=x;exact ⟨_,e⟩
 |ins C dx fs=>obtain ⟨_,_,_,e,_⟩:=x;exact ⟨_,e⟩
 |own y=>exact x
 |xd fs=>obtain ⟨_,⟨_,_,_,e,_⟩,_⟩:=x;exact ⟨_,e⟩
 |rng lo hi=>obtain ⟨_,_,_,e⟩:=x;exact ⟨_,e⟩
 |frz ob u=>obtain ⟨e,_⟩:=x;exact ⟨_,e⟩
 |tbl ps=>exact ⟨_,show h.get? a=some _ from x⟩
 |met f y=>exact ⟨_,show h.get? a=some _ from x⟩
 |ext φ=>obtain ⟨_,e,_⟩:=x;exact e
theorem HOk.frz (x:HOk P w H h):HOk P w (zcn H h) h:=fun b u e=>by
 obtain ⟨o,v,rfl,h1,r,k⟩:=zdj e;have q:=r.ok x;rcases k with ⟨xs,rfl⟩|⟨xs,rfl⟩
 ·exact ⟨h1,q⟩
 ·exact ⟨h1,q⟩
theorem Env0.frz {A:Around}{outer:List Env}{s:Shared}(e:Env0 P w K mg base A outer s H):Env0 P w K mg base A outer s (zcn H s.heap):=
 ⟨e.frames,e.mod,fun b o q=>⟨(e.bs b o q).1,zb2 (e.bs b o q).2⟩,e.bsz,e.funs,fun b hb=>zb2 (e.frf b hb),HOk.frz e.hok,e.bare⟩
end
section
variable {K:PySem.W.Frag}
mutual
theorem Rep.mapS {F F' H H':Hp}(hL:∀ a vs,SqL K F a vs->SqL K F' a vs)(hT:Tp K H H'):∀ (d:D) (v:V),Rep K F H d v->Rep K F' H' d v
 | .non,_,h=>h
 | .bl _,_,h=>h
 | .int _,_,h=>h
 | .str _,_,h=>h
 | .ins c,v,h=>by
  unfold Rep at h ⊢;obtain ⟨a,dx,e,q⟩:=h;exact ⟨a,dx,e,hT.ins a c dx q⟩
 | .tup xs,v,h=>by
  unfold Rep at h ⊢;obtain ⟨a,vs,e,q,r⟩:=h;exact ⟨a,vs,e,hT.tup a vs q,Reps.mapS hL hT xs vs r⟩
 | .lst xs,v,h=>by
  unfold Rep at h ⊢;obtain ⟨a,vs,e,q,r⟩:=h;exact ⟨a,vs,e,hL a vs q,Reps.mapS hL hT xs vs r⟩
theorem Reps.mapS {F F' H H':Hp}(hL:∀ a vs,SqL K F a vs->SqL K F' a vs)(hT:Tp K H H'):∀ (xs:List D) (vs:List V),Reps K F H xs vs->Reps K F' H' xs vs
 | [],_,h=>h
 |x::xs,vs,h=>by
  unfold Reps at h ⊢;obtain ⟨v,r,e,a,b⟩:=h;exact ⟨v,r,e,Rep.mapS hL hT x v a,Reps.mapS hL hT xs r b⟩
end
mutual
theorem Rep.mapN {F F' H H':Hp}(hL:∀ a vs,SqL K F a vs->SqL K F' a vs)(hT:∀ a vs,SqT K H a vs->SqT K H' a vs):∀ (d:D) (v:V),d.dep<1000000->Rep K F H d v->Rep K F' H' d v
 | .non,_,_,h=>h
 | .bl _,_,_,h=>h
 | .int _,_,_,h=>h
 | .str _,_,_,h=>h
 | .ins c,v,z,h=>absurd z (by unfold D.dep;omega)
 | .tup xs,v,z,h=>by
  unfold Rep at h ⊢;unfold D.dep at z;obtain ⟨a,vs,e,q,r⟩:=h;exact ⟨a,vs,e,hT a vs q,Reps.mapN hL hT xs vs (by omega) r⟩
 | .lst xs,v,z,h=>by
  unfold Rep at h ⊢;unfold D.dep at z;obtain ⟨a,vs,e,q,r⟩:=h;exact ⟨a,vs,e,hL a vs q,Reps.mapN hL hT xs vs (by omega) r⟩
theorem Reps.mapN {F F' H H':Hp}(hL:∀ a vs,SqL K F a vs->SqL K F' a vs)(hT:∀ a vs,SqT K H a vs->SqT K H' a vs):∀ (xs:List D) (vs:List V),deps xs<1000000->Reps K F H xs vs->Reps K F' H' xs vs
 | [],_,_,h=>h
 |x::xs,vs,z,h=>by
  unfold Reps at h ⊢;unfold deps at z;obtain ⟨v,r,e,a,b⟩:=h;exact ⟨v,r,e,Rep.mapN hL hT x v (by omega) a,Reps.mapN hL hT xs r (by omega) b⟩
end
theorem zij {P:Program}{w:World}{H:Hp}{h:Heap}(x:HOk P w H h)(a:Addr)(vs:List V)(q:SqL K H a vs):SqL K (zcn H h) a vs:=by
 rcases q with q|q
 ·obtain ⟨o,e⟩:=ObjOk.is (q.ok x);exact .inl (.inr ⟨o,zih e q⟩)
 ·exact .inr q
theorem zik {P:Program}{w:World}{H:Hp}{h:Heap}(x:HOk P w H h)(a:Addr)(vs:List V)(q:SqT K H a vs):SqT K (zcn H h) a vs:=by
 rcases q with q|q
 ·obtain ⟨o,e⟩:=ObjOk.is (q.ok x);exact .inl (.inr ⟨o,zii e q⟩)
 ·exact .inr q
theorem Reps.frz {P:Program}{w:World}{H:Hp}{h:Heap}(x:HOk P w H h){ds:List D}{vs:List V}(z:deps ds<1000000)(r:Reps K H H ds vs):Reps K (zcn H h) (zcn H h) ds vs:=
 Reps.mapN (zij x) (zik x) ds vs z r
end
structure Fly (outer:List Env)(s:Shared)(C e:Addr)(s':Shared):Prop where
 os:s'.os=s.os
 bare:AllBare s'.gens
 fl:∃ B a0,Heap.FlyingW B outer e (.ref C) a0 s'.heap/\∀ b o,s.heap.get? b=some o->b∉frs outer->B.get? b=some o
 up:s.heap.UpToSlots s'.heap
structure FlyF (outer:List Env)(H:Hp)(s:Shared)(C e:Addr)(s':Shared):Prop where
 os:s'.os=s.os
 bare:AllBare s'.gens
 fl:∃ B a0,Heap.FlyingW B outer e (.ref C) a0 s'.heap/\(∀ b o,s.heap.get? b=some o->H b=none->b∉frs outer->B.get? b=some o)/\∀ b o w,H b=some (.frz o w)->b∉frs outer->B.get? b=some o
 up:∀ b o,s.heap.get? b=some o->H b=none->(∀ vs,o.data≠ .fields vs)->∃ sl,s'.heap.get? b=some {o with slots:=sl}
noncomputable abbrev hp0:Hp:=fun _=>none
noncomputable def CXS:CXT:=fun outer _ s E e s'=>∃ C a,e= .ref a/\Fly outer s C a s'/\E (.ref C) none hp0
noncomputable def CXF:CXT:=fun outer H s E e s'=>∃ C a,e= .ref a/\FlyF outer H s C a s'/\E (.ref C) none hp0
noncomputable def zfp (H:Hp):Prop:=∀ b u,H b=some u->∃ o w,u= .frz o w
theorem zfF {H:Hp}{h:Heap}:zfp (zcn H h):=fun b u e=>let ⟨o,w,q,_⟩:=zdj e;⟨o,w,q⟩
theorem FlyF.thaw {outer:List Env}{H:Hp}{s:Shared}{C e:Addr}{s':Shared}(f:FlyF outer (zcn H s.heap) s C e s')(ff:∀ b∈frs outer,H b=none):Fly outer s C e s':=by
 obtain ⟨os,bare,⟨B,a0,fl,k1,k2⟩,up⟩:=f;have kp:∀ b o,s.heap.get? b=some o->b∉frs outer->B.get? b=some o:=fun b o q nb=>by
  cases z:zcn H s.heap b with
  |none=>exact k1 b o q z nb
  |some u=>
   obtain ⟨o',w,rfl,e1,_⟩:=zdj z;rw [e1] at q;cases q;exact k2 b o w z nb
 refine ⟨os,bare,⟨B,a0,fl,kp⟩,fun b o q nf=>?_⟩;by_cases hb:b∈frs outer
 ·exact up b o q (zb2 (ff b hb)) nf
 ·exact ⟨o.slots,fl.1 b o (kp b o q hb)⟩
structure FlyA (outer:List Env)(s:Shared)(C e:Addr)(s':Shared):Prop where
 os:s'.os=s.os
 bare:AllBare s'.gens
 fl:∃ B a0 fl,(B.StaysIn s'.heap/\B.get? e=none/\s'.heap.FunFrames B outer/\s'.heap.TracedAtW B e (.ref C) a0 fl)/\∀ b o,s.heap.get? b=some o->b∉frs outer->B.get? b=some o
 up:s.heap.UpToSlots s'.heap
theorem zfG {M:Model}{A:Around}{E:Value->Shared->Prop}{s:Shared}{B:Heap}{en:Env}{outer:List Env}{L e:Addr}{k a0 fl:Value}{Q:Unit->Shared->Prop}(hfr:A.frames=some (en::outer))(hf:en.frame=some L)
  (h:B.StaysIn s.heap/\B.get? e=none/\s.heap.FunFrames B (en::outer)/\s.heap.TracedAtW B e k a0 fl)(hn:fl≠rawInt L)
  (hQ:∀ h',Heap.HeldW B (en::outer) e k a0 L h'->s.heap.UpToSlots h'->Q () {s with heap:=h'}):wpAny M A (noteFrame (.ref e) en) Q E s:=by
 obtain ⟨st,ne,ff,oe,vs,T,oT,ts,g1,⟨gc,g0⟩,g2,g3,g4,g5,g6,g7,g8⟩:=h;subst gc;have stay:∀ b,b≠T->(s.heap.update T (Obj.mapFields (·.setIfInBounds 3 Value.none))).get? b=s.heap.get? b:=fun b z=>Heap.get?_update_other _ _ (Ne.symm z);have apart:∀ b o,s.heap.get? b=some o->(∀ vs,o.data≠ .fields vs)->b≠T:=fun b o q nf z=>by
  subst z;exact nf ts (by rw [g6] at q;cases q;exact g7)
 unfold noteFrame;simp only [hf];refine wpAny_bind (wpAny_field g1 g2 g3 ?_);rw [if_pos (by simp)];refine wpAny_bind (wpAny_field g6 g7 g8 ?_);rw [if_neg (fun z=>hn (eq_of_beq z))];refine wpAny_bind (wpAny_setField g6 g7 (Array.getElem?_eq_some_iff.mp g8).1 ?_);refine wpAny_entryW (base:=B) (a0:=a0) hfr (ff.of_keeps fun b o q nf=>⟨o,(stay b (apart b o q nf)).trans q,rfl⟩) hf ((stay e (Ne.symm g5)).trans g1) (fun b o q=>(stay b fun z=>?_).trans (st b o q)) ne g2 (Array.getElem?_eq_some_iff.mp g3).1 g0 fun h' w=>?_
 ·subst z;rw [g4] at q;cases q
 ·exact hQ h' ⟨w.1,ne,w.2.1,w.2.2.1⟩ fun b o q nf=>w.2.2.2 b o ((stay b (apart b o q nf)).trans q) nf
theorem zfH {M:Model}{A:Around}{E:Value->Shared->Prop}{s:Shared}{B:Heap}{en:Env}{outer:List Env}{L e:Addr}{k a0 fl:Value}{Q:Unit->Shared->Prop}(hfr:A.frames=some (en::outer))(hf:en.frame=some L)
  (h:B.StaysIn s.heap/\B.get? e=none/\s.heap.FunFrames B (en::outer)/\s.heap.TracedAtW B e k a0 fl)
  (hQ:∀ h',Heap.FlyingW B outer e k a0 h'->s.heap.UpToSlots h'->Q () {s with heap:=h'}):wpAny M A (leaving en (.ref e)) Q E s:=by
 have land:∀ (s2:Shared),Heap.HeldW B (en::outer) e k a0 L s2.heap->(∀ h',Heap.FlyingW B outer e k a0 h'->s2.heap.UpToSlots h'->Q () {s2 with heap:=h'})->wpAny M A (setFlight (.ref e) none) Q E s2:=fun s2 hh hq=>
  wpAny_landsW hh fun h' w up=>by
   obtain ⟨x1,x2,⟨_,_,x3⟩,x4⟩:=w;exact hq h' ⟨x1,x2,x3,x4⟩ up
 unfold leaving;refine wpAny_bind ?_;by_cases z:fl=rawInt L
 ·subst z;exact wpAny_noteFrame_againW hf h.2.2.2 (land s h hQ)
 ·exact zfG hfr hf h z fun h4 hh up4=>land _ hh fun h5 w up5=>hQ h5 w (up4.trans up5)
structure RP (X:Cx)(R:Addr->Prop):Prop where
 pass:∀ (pins:List (Addr×Obj)) (σ:St) (H:Hp) (s:Shared) (C e:Addr) (s':Shared),Inv X pins σ H s->Fly X.stack s C e s'->R C->X.xe (.ref e) s'
structure RX (X:Cx)(R:Addr->Prop):Prop extends RP X R where
 made:∀ (pins:List (Addr×Obj)) (σ:St) (H:Hp) (s:Shared) (h':Heap) (C e:Addr) (args:List Value),Inv X pins σ H s->Heap.MadeExcOf s.heap h' e (.ref C) args->R C->X.xe (.ref e) {s with heap:=h'}
 po:PassesOwn (model X.prog X.w) X.A X.env X.xe
 any:∀ (pins:List (Addr×Obj)) (σ:St) (H:Hp) (s:Shared) (C e:Addr) (s':Shared),Inv X pins σ H s->FlyA X.stack s C e s'->R C->X.xe (.ref e) s'
section
variable {P:Program}{w:World}{K:PySem.W.Frag}{mg:Str->Option Value}{base:Heap}{N:List Str}{qual:Str}{scope:Scope}{f:Addr}{cd:Value}{A:Around}{outer:List Env}{s:Shared}{H:Hp}{E:XK}
theorem Inv.stood {X:Cx}{pins:List (Addr×Obj)}{σ:St}{H2:Hp}{s2:Shared}(I:Inv X pins σ H2 s2)(hx:X.ex=[]):
  (∀ b o,X.s₀.heap.get? b=some o->X.H₀ b=none->b∉X.fs->s2.heap.get? b=some o)/\(∀ b o w,X.H₀ b=some (.frz o w)->s2.heap.get? b=some o)/\
  ∀ b o,X.s₀.heap.get? b=some o->X.H₀ b=none->∃ sl,s2.heap.get? b=some {o with slots:=sl}:=by
 refine ⟨fun b o q n nb=>I.base.keep b o q n nb (by rw [hx];simp),fun b o w e=>(I.hok b _ (I.base.frzs b o w e)).1,fun b o q n=>I.base.any q n (by rw [hx];simp)⟩
theorem zkB (fz:zfp H):RX (zd4 CXF P w K mg base N qual scope f cd A outer s H E) (fun C=>E (.ref C) none hp0):=by
 have nl:∀ {pins:List (Addr×Obj)} {σ:St} {H2:Hp} {s2:Shared},Inv (zd4 CXF P w K mg base N qual scope f cd A outer s H E) pins σ H2 s2->∀ b o,s.heap.get? b=some o->b∉frs outer->b∉frs (envOfC qual scope s.heap.objs.size f cd::outer):=fun {pins σ H2 s2} I b o q nb hb=>by
  rcases List.mem_cons.mp (I.stkSub b hb) with z|z
  ·exact absurd (Heap.lt_size q) (by rw [z];exact Nat.not_lt.mpr I.ok.above)
  ·exact nb z
 have nlF:∀ {pins:List (Addr×Obj)} {σ:St} {H2:Hp} {s2:Shared},Inv (zd4 CXF P w K mg base N qual scope f cd A outer s H E) pins σ H2 s2->∀ b o u,H b=some (.frz o u)->b∉frs (envOfC qual scope s.heap.objs.size f cd::outer):=fun {pins σ H2 s2} I b o u q hb=>by
  have:=I.stkFree b hb;rw [I.base.frzs b o u q] at this;cases this
 refine ⟨⟨fun pins σ H2 s2 C e s' I fl hR=>?_⟩,fun pins σ H2 s2 h' C e args I hm hR=>?_,PassesOwn.leaving,fun pins σ H2 s2 C e s' I fl hR=>?_⟩
 ·obtain ⟨k1,k2,k3⟩:=Inv.stood I rfl;obtain ⟨os,bare,⟨B,a0,fw,kp⟩,up⟩:=fl;refine wpAny_leaves_onW I.ok.frames rfl fw fun h' x1 x2=>?_;refine ⟨C,e,rfl,⟨os.trans I.os,bare,⟨B,a0,x1,fun b o q n nb=>kp b o (k1 b o q n nb) (nl I b o q nb),fun b o u q nb=>kp b o (k2 b o u q) (nlF I b o u q)⟩,fun b o q n nf=>?_⟩,hR⟩;obtain ⟨s1,e1⟩:=k3 b o q n;obtain ⟨s2',e2⟩:=up b _ e1 nf;obtain ⟨s3,e3⟩:=x2 b _ e2 nf;exact ⟨s3,e3⟩
 ·obtain ⟨k1,k2,k3⟩:=Inv.stood I rfl;have hin:∀ env∈(envOfC qual scope s.heap.objs.size f cd::outer),∀ b,env.frame=some b->b∈frs (envOfC qual scope s.heap.objs.size f cd::outer):=fun env he b hb=>List.mem_filterMap.mpr ⟨env,he,hb⟩;refine wpAny_leaves_madeW (base:=PySem.W.hideAll s2.heap (frs (envOfC qual scope s.heap.objs.size f cd::outer))) I.ok.frames rfl (fun b o q=>PySem.W.of_hideAll _ q) (PySem.W.funFrames_hide I.stack hin) hm fun h2 t x1 x2 x3 x4=>?_;refine ⟨C,e,rfl,⟨I.os,I.bare,⟨_,_,x1,fun b o q n nb=>PySem.W.hideAll_get _ (k1 b o q n nb) (nl I b o q nb),fun b o u q nb=>PySem.W.hideAll_get _ (k2 b o u q) (nlF I b o u q)⟩,fun b o q n nf=>?_⟩,hR⟩;obtain ⟨s1,e1⟩:=k3 b o q n;obtain ⟨s3,e3⟩:=x4 b _ (hm.keeps _ _ e1) nf;exact ⟨s3,e3⟩
 ·obtain ⟨k1,k2,k3⟩:=Inv.stood I rfl;obtain ⟨os,bare,⟨B,a0,fl,fw,kp⟩,up⟩:=fl;refine zfH I.ok.frames rfl fw fun h' x1 x2=>?_;refine ⟨C,e,rfl,⟨os.trans I.os,bare,⟨B,a0,x1,fun b o q n nb=>kp b o (k1 b o q n nb) (nl I b o q nb),fun b o u q nb=>kp b o (k2 b o u q) (nlF I b o u q)⟩,fun b o q n nf=>?_⟩,hR⟩;obtain ⟨s1,e1⟩:=k3 b o q n;obtain ⟨s2',e2⟩:=up b _ e1 nf;obtain ⟨s3,e3⟩:=x2 b _ e2 nf;exact ⟨s3,e3⟩
end
noncomputable abbrev VX:=List D->(Addr->Prop)->(D->Prop)->Prop
noncomputable def spX (K:PySem.W.Frag)(m:VX):Sp:=fun vs H Q E=>∃ ds Qn,Reps K H H ds vs/\m ds (fun C=>E (.ref C) none hp0) Qn/\∀ d,Qn d->∀ v H',Same H H'->Rep K H' H' d v->Q v H'
noncomputable def spF (K:PySem.W.Frag)(m:VX):Sp:=fun vs H Q E=>zfp H/\∃ ds Qn,Reps K H H ds vs/\m ds (fun C=>E (.ref C) none hp0) Qn/\∀ d,Qn d->∀ v H',Rep K H' H' d v->Q v H'
noncomputable def ovl (H H2:Hp)(h:Heap):Hp:=fun b=>match h.get? b with
 |some _=>H b
 |none=>H2 b
section
variable {P:Program}{w:World}{K:PySem.W.Frag}{mg:Str->Option Value}{base:Heap}{outer:List Env}{s s':Shared}{H H2:Hp}
theorem zcO {b:Addr}{o:Obj}{h:Heap}(e:h.get? b=some o):ovl H H2 h b=H b:=by unfold ovl;rw [e]
theorem zcP {b:Addr}{h:Heap}(e:h.get? b=none):ovl H H2 h b=H2 b:=by unfold ovl;rw [e]
theorem zdy (u:Un (frs outer) [] (zcn H s.heap) H2 s.heap s'.heap){b:Addr}{o:Obj}(e:s.heap.get? b=some o):H2 b=none\/∃ v,H2 b=some (.frz o v)/\Rd H b v:=by
 cases z:zcn H s.heap b with
 |none=>exact .inl (u.free b o e z (by simp))
 |some y=>
  obtain ⟨o',v,rfl,e1,r,_⟩:=zdj z;rw [e1] at e;cases e;exact .inr ⟨v,u.frzs b _ _ z,r⟩
theorem zgi (u:Un (frs outer) [] (zcn H s.heap) H2 s.heap s'.heap)(hok:HOk P w H2 s'.heap){b:Addr}{o:Obj}(e:s.heap.get? b=some o)(nb:b∉frs outer):s'.heap.get? b=some o:=by
 cases z:zcn H s.heap b with
 |none=>exact u.keep b o e z nb (by simp)
 |some y=>
  obtain ⟨o',v,rfl,e1,r,_⟩:=zdj z;rw [e1] at e;cases e;exact (hok b _ (u.frzs b _ _ z)).1
theorem zbb (hk:HOk P w H s.heap):Same H (ovl H H2 s.heap):=fun b o e=>by
 obtain ⟨y,q⟩:=ObjOk.is (hk b o e);rw [zcO q];exact e
theorem zil (hk:HOk P w H s.heap)(u:Un (frs outer) [] (zcn H s.heap) H2 s.heap s'.heap):Un (frs outer) [] H (ovl H H2 s.heap) s.heap s'.heap:=
 ⟨fun b o e n hb hx=>u.keep b o e (zb2 n) hb hx,fun b o e n hb hx=>u.slot b o e (zb2 n) hb hx,fun b o e n hx=>by rw [zcO e];exact n,u.there,
  fun b xs e=>zbb hk b _ e,fun b o v e=>zbb hk b _ e,fun b ps e=>⟨#[],by rw [zbb hk b _ e];simp⟩⟩
theorem zg3 (hk:HOk P w H s.heap)(ff:∀ b∈frs outer,H b=none)(u:Un (frs outer) [] (zcn H s.heap) H2 s.heap s'.heap)(hok:HOk P w H2 s'.heap):HOk P w (ovl H H2 s.heap) s'.heap:=fun b o e=>by
 cases q:s.heap.get? b with
 |some y=>
  rw [zcO q] at e;refine (hk b o e).stay (fun c v hc q'=>zgi u hok q' fun z=>?_) (fun c r=>zbb hk c _ r) fun c xs r=>zbb hk c _ r;rcases hc with rfl|hc
  ·rw [ff _ z] at e;cases e
  ·rw [ff _ z] at hc;cases hc
 |none=>
  rw [zcP q] at e;have nw:∀ c v,H2 c=some v->(∀ o' v',v≠ .frz o' v')->ovl H H2 s.heap c=some v:=fun c v r nf=>by
   cases z:s.heap.get? c with
   |none=>rw [zcP z];exact r
   |some y=>
    rcases zdy u z with n|⟨v',n,_⟩
    ·rw [n] at r;cases r
    ·rw [n] at r;cases r;exact absurd rfl (nf _ _)
  exact (hok b o e).stay (fun _ _ _ z=>z) (fun c r=>nw c _ r (fun _ _ z=>by cases z)) fun c xs r=>nw c _ r fun _ _ z=>by cases z
theorem zgj (u:Un (frs outer) [] (zcn H s.heap) H2 s.heap s'.heap){a:Addr}{v:HO}(nf:∀ o' v',v≠ .frz o' v')(r:Rd H2 a v):Rd (ovl H H2 s.heap) a v:=by
 cases z:s.heap.get? a with
 |none=>rcases r with r|⟨o,r⟩
        ·exact .inl (by rw [zcP z];exact r)
        ·exact .inr ⟨o,by rw [zcP z];exact r⟩
 |some y=>
  rcases zdy u z with n|⟨v',n,q⟩
  ·rcases r with r|⟨o,r⟩<;>rw [n] at r<;>cases r
  ·rcases r with r|⟨o,r⟩
   ·rw [n] at r;cases r;exact absurd rfl (nf _ _)
   ·rw [n] at r;cases r;rcases q with q|⟨o',q⟩
    ·exact .inl (by rw [zcO z];exact q)
    ·exact .inr ⟨o',by rw [zcO z];exact q⟩
theorem zg4 (u:Un (frs outer) [] (zcn H s.heap) H2 s.heap s'.heap){d:D}{v:V}(r:Rep K H2 H2 d v):Rep K (ovl H H2 s.heap) (ovl H H2 s.heap) d v:=by
 refine Rep.mapS (fun a vs q=>?_) ⟨fun a vs q=>?_,fun a c dx q=>?_⟩ d v r
 rotate_left 2
 ·cases z:s.heap.get? a with
  |none=>rw [zcP z];exact q
  |some y=>
   rcases zdy u z with n|⟨v',n,_⟩
   ·rw [n] at q;cases q
   ·rw [n] at q;cases q
 ·rcases q with q|q
  ·exact .inl (zgj u (fun _ _ z=>by cases z) q)
  ·exact .inr q
 ·rcases q with q|q
  ·exact .inl (zgj u (fun _ _ z=>by cases z) q)
  ·exact .inr q
theorem FnOk.thaw {k:Nat}{f:Addr}{fd:FuncData}{ps:List Str}{m:VX}(F:FnOk P w K mg base CXF k f fd ps (spF K m))(hlen:∀ ds R Q,m ds R Q->ds.length=ps.length/\deps ds<1000000):FnOk P w K mg base CXS k f fd ps (spX K m):=by
 refine ⟨fun vs H Q E ⟨ds,Qn,r,h,_⟩=>by rw [<-r.len];exact (hlen ds _ Qn h).1,fun A outer s H args us vs Q E hr e0 hb hv zz=>?_⟩;obtain ⟨ds,Qn,r,h,c⟩:=zz;refine codeAny_mono (F.run A outer s (zcn H s.heap) args us vs (fun v H'=>∃ d,Qn d/\Rep K H' H' d v) E hr (Env0.frz e0) hb hv ⟨zfF,ds,Qn,Reps.frz e0.hok (hlen ds _ Qn h).2 r,h,fun d hd v H' rr=>⟨d,hd,rr⟩⟩) fun res s' hq=>?_;cases res with
 |error e=>
  obtain ⟨C,a,rfl,fl,hR⟩:=hq;exact ⟨C,a,rfl,fl.thaw e0.frf,hR⟩
 |ok fl=>
  cases fl with
  |ret u=>
   obtain ⟨v,H2,os,bare,un,hok,rv,d,hd,rr⟩:=hq;exact ⟨v,ovl H H2 s.heap,os,bare,zil e0.hok un,zg3 e0.hok e0.frf un hok,rv,c d hd v _ (zbb e0.hok) (zg4 un rr)⟩
  |next=>exact False.elim hq
  |brk=>exact False.elim hq
  |cont=>exact False.elim hq
theorem Fun.okF {x qual:Str}{st:Stmt}{f:Addr}{fd:FuncData}{N ps:List Str}{k:Nat}{m:VX}(F:Fun K x qual st f fd)(S:FnScope N ps (zaa st))(hlen:∀ ds R Q,m ds R Q->ds.length=ps.length/\deps ds<1000000)
  (hb:∀ (cdv:Value) (A:Around) (outer:List Env) (s:Shared) (H:Hp) (vs:List V) (ds:List D) (Qn:D->Prop) (E:XK),Room k (A.deeper (envOfC qual (zaa st) s.heap.objs.size f cdv))->zfp H->Reps K H H ds vs->m ds (fun C=>E (.ref C) none hp0) Qn->
   ∃ t,PSs (zd4 CXF P w K mg base N qual (zaa st) f cdv A outer s H E) (zai st) t/\t {nx:=fun _ H'=>Qn .non,rt:=fun v H'=>∃ d,Qn d/\Rep K H' H' d v} (zcr N vs) H):
  FnOk P w K mg base CXS (k+1) f fd ps (spX K m):=by
 refine FnOk.thaw ?_ hlen;obtain ⟨oc,od,kV,doc,pm,an,cdv,ct,osl,rfl,lk,hcd⟩:=F.ex;refine zjd lk hcd S (fun vs H Q E ⟨_,ds,Qn,r,h,_⟩=>by rw [<-r.len];exact (hlen ds _ Qn h).1) fun A outer s H vs Q E hr zz=>?_;obtain ⟨fz,ds,Qn,r,h,c⟩:=zz;obtain ⟨t,ht,q⟩:=hb cdv A outer s H vs ds Qn E hr fz r h;refine ⟨fun De σ H'=>∃ De',t De' σ H'/\(∀ σ H,De'.nx σ H->De.nx σ H)/\(∀ v H,De'.rt v H->De.rt v H)/\(∀ σ H,De'.bk σ H->De.bk σ H)/\∀ σ H,De'.ct σ H->De.ct σ H,?_,_,q,fun σ H' z=>c .non z .non H' rfl,fun v H' ⟨d,hd,rr⟩=>c d hd v H' rr,fun _ _ z=>z,fun _ _ z=>z⟩;intro pins s1 σ H1 De I ⟨De',h1,a1,a2,a3,a4⟩;refine wpAny_mono (ht pins s1 σ H1 De' I h1) (fun fl s2 q=>?_) fun _ _ z=>z;cases fl with
 |next=>obtain ⟨σ',H',I,q⟩:=q;exact ⟨σ',H',I,a1 _ _ q⟩
 |brk=>obtain ⟨σ',H',I,q⟩:=q;exact ⟨σ',H',I,a3 _ _ q⟩
 |cont=>obtain ⟨σ',H',I,q⟩:=q;exact ⟨σ',H',I,a4 _ _ q⟩
 |ret u=>obtain ⟨v,σ',H',I,r,q⟩:=q;exact ⟨v,σ',H',I,r,a2 _ _ q⟩
structure CalX (P:Program)(w:World)(K:PySem.W.Frag)(mg:Str->Option Value)(base:Heap)(k:Nat)(x:Str)(m:VX):Prop where
 ex:∃ f fd ps,FnOk P w K mg base CXS k f fd ps (spX K m)/\mg x=some (.ref f)/\PySem.W.keepIn K (.ref f)=true/\Binds K fd ps []
theorem CalX.mono {k j:Nat}{x:Str}{m:VX}(c:CalX P w K mg base k x m)(h:k<=j):CalX P w K mg base j x m:=
 let ⟨f,fd,ps,F,a,b,d⟩:=c.ex;⟨f,fd,ps,F.mono h,a,b,d⟩
theorem zlh {x qual:Str}{st:Stmt}{f:Addr}{fd:FuncData}{N ps:List Str}{k:Nat}{m:VX}{t:(Addr->Prop)->VS}(F:Fun K x qual st f fd)(hm:mg x=some (.ref f))(hbi:Binds K fd ps [])(S:FnScope N ps (zaa st))(hlen:∀ ds R Q,m ds R Q->ds.length=ps.length/\deps ds<1000000)
  (hb:∀ (cdv:Value) (A:Around) (outer:List Env) (s:Shared) (H:Hp) (E:XK),Room k (A.deeper (envOfC qual (zaa st) s.heap.objs.size f cdv))->∀ R,RX (zd4 CXF P w K mg base N qual (zaa st) f cdv A outer s H E) R->SSs (zd4 CXF P w K mg base N qual (zaa st) f cdv A outer s H E) (zai st) (t R))
  (hv:∀ ds R Q,m ds R Q->t R {nx:=fun _=>Q .non,rt:=fun _ d=>Q d} (zbl N ds)):CalX P w K mg base (k+1) x m:=by
 refine ⟨f,fd,ps,Fun.okF F S hlen fun cdv A outer s H vs ds Qn E hr fz r h=>?_,hm,F.kp,hbi⟩;refine ⟨_,hb cdv A outer s H E hr _ (zkB fz),H,_,_,zdq r,hv ds _ Qn h,?_⟩;refine ⟨fun F' H' st' σ' fw ok q=>q,fun _ _ _ _ _ _ q=>q.elim,fun _ _ _ _ _ _ q=>q.elim,fun F' H' md d v os fw s2 r nd q=>⟨d,q,r.read s2⟩,fun _ _ _ _ _ _ _ _ _ q=>q.elim⟩
theorem CalX.cal {k:Nat}{x:Str}{m:VX}{mv:VF}(c:CalX P w K mg base k x m)(h:∀ ds Q,mv ds Q->m ds (fun _=>False) (fun d=>Q .sh d)):Cal P w K mg base k x mv:=by
 obtain ⟨f,fd,ps,F,a,b,d⟩:=c.ex;refine ⟨f,fd,ps,⟨fun vs H Q E ⟨ds,Qd,r,q,_⟩=>F.len vs H (fun _ _=>True) E0 ⟨ds,_,r,h ds Qd q,fun _ _ _ _ _ _=>trivial⟩,fun A outer s H args us vs Q E hr e0 hb hv zz=>?_⟩,a,b,d⟩;obtain ⟨ds,Qd,r,q,c⟩:=zz;refine codeAny_mono (F.run A outer s H args us vs Q E0 hr e0 hb hv ⟨ds,_,r,h ds Qd q,fun d hd v H' sm rr=>c .sh d hd v H' H' [] ⟨sm,fun b o e=>(sm b o e).trans e.symm,Same.refl _⟩ ⟨rr,rfl⟩ List.nodup_nil (by simp)⟩) fun res s' hq=>?_;cases res with
 |error e=>obtain ⟨C,a,_,_,z⟩:=hq;exact z.elim
 |ok fl=>cases fl<;>exact hq
end
section
variable {X:Cx}{R:Addr->Prop}{e:Expr}{es:List Expr}{t:VAs}{x:Str}{p pos:Pos}{k:Nat}{m:VX}
theorem RP.passes (r:RP X R):zdf CXS X (fun cls _ _=>∃ C,cls= .ref C/\R C):=fun pins σ H s e s' I zz=>by
 obtain ⟨C,a,he,fl,C',hc,hR⟩:=zz;subst he;cases hc;exact r.pass pins σ H s C a s' I fl hR
theorem RX.passes (r:RX X R):zdf CXS X (fun cls _ _=>∃ C,cls= .ref C/\R C):=r.toRP.passes
noncomputable def zgk (m:VX)(R:Addr->Prop)(t:VAs):VE:=fun st Q=>t st fun ds=>m ds R Q
theorem zg5 (r:RP X R)(c:CalX X.prog X.w X.K X.mg X.base k x m)(hm0:∀ ds (R R':Addr->Prop) Q,(∀ C,R C->R' C)->m ds R Q->m ds R' Q)(hr:Room k X.A)(ha:SA X (e::es) t)(hg:Gl X x:=by rfl)(hdb:(x==("__debug__":Str))=false:=by decide)(he:starEach (e::es) X.env=(false,eval e X.env)::starEach es X.env:=by rfl)
  (hpl:(backTo pos (starEach es X.env)).any (·.1)=false:=by rfl):SB X (.Call (.Name x p) (e::es) [] pos) (zgk m R t):=by
 obtain ⟨f,fd,ps,F,hm,hk,hb⟩:=c.ex;refine PE.wk (zeM F hr hg hm hk hb .nil r.passes ha hdb he hpl) fun σ H Q ⟨F,st,Qd,ok,h,k⟩=>⟨F,st,_,ok,h,fun ds hd vs H1 s1 r1=>?_⟩;show spX X.K m (vs++[]) H1 Q _
 rw [List.append_nil];exact ⟨ds,_,r1,hm0 _ _ _ _ (fun C hC=>⟨C,rfl,hC⟩) hd,fun d q v H' sm rr=>k d q v H' (s1.trans sm) rr⟩
end
theorem zim {K:PySem.W.Frag}{h:Heap}{C:Addr}{bmB:List Value}{newId:String}(X:K.In h)(q:PySem.W.excIn K C bmB newId=true):
  ∃ bm N nm qn bs hdct sn sub ab col dd k0 k1 k2 k3 k5 mN,h.get? C=some (excClassObj nm qn C N bs bm hdct sn sub ab col dd k0 k1 k2 k3 k5 newId)/\h.Ns N mN/\mN "__init__"=none/\OwnTail h bmB bm:=by
 unfold PySem.W.excIn at q;split at q
 ·rename_i dd cd sl ho;split at q
  ·rename_i C' bm k0 k1 k2 k3 n k5 hm hs;simp only [Bool.and_eq_true,beq_iff_eq,Bool.not_eq_true'] at q;obtain ⟨⟨⟨⟨⟨rfl,rfl⟩,hdel⟩,ht⟩,hok⟩,hni⟩:=q;obtain ⟨nm,bs,mro,ns,qn,hd,sn,sub,ab,col,del⟩:=cd;dsimp only at hm hdel hok hni;subst hm hdel;have hsl:sl= #[k0,k1,k2,k3,some (.builtin n),k5]:=by
    obtain ⟨l⟩:=sl;simp only at hs;rw [hs]
   subst hsl;exact ⟨bm,ns,nm,qn,bs,hd,sn,sub,ab,col,dd,k0,k1,k2,k3,k5,_,X _ _ ho,.of_isNs (PySem.W.isNs_of_in X hok),PySem.W.nsMap_none_of_in X hok hni,PySem.W.tail_of_in X ht⟩
  ·cases q
 ·cases q
noncomputable abbrev bmV:List Value:=[.type "ValueError",.type "Exception",.type "BaseException",.type "object"]
section
variable {X:Cx}{R:Addr->Prop}{e:Expr}{t:VE}{x:Str}{C:Addr}{np cpos pos:Pos}
noncomputable def zgl (R:Addr->Prop)(C:Addr)(t:VE):VS:=fun _ st=>t st fun _=>R C
theorem zin (r:RX X R)(hc:X.calm=true)(hm:X.mg x=some (.ref C))(hq:PySem.W.excIn X.K C bmV "ValueError.__new__"=true)(ha:SB X e t)(hg:Gl X x:=by rfl)(hdb:(x==("__debug__":Str))=false:=by decide)
  (he:starEach [e] X.env=(false,eval e X.env)::starEach [] X.env:=by rfl):SS X (.Raise (some (.Call (.Name x np) [e] [] cpos)) none pos) (zgl R C t):=by
 intro pins s σ H De I ⟨F,st,E,ok,h,c⟩;obtain ⟨bm,N,nm,qn,bs,hdct,sn,sub,ab,col,dd,k0,k1,k2,k3,k5,mN,hC,hN,hni,T⟩:=zim I.mod.kin hq
 refine wpAny_Raise_call_subU (C:=C) (nm:=nm) (q:=qn) (N:=N) (bs:=bs) (bm:=bm) (hdct:=hdct) (sn:=sn) (sub:=sub) (ab:=ab) (col:=col) (dd:=dd) (k0:=k0) (k1:=k1) (k2:=k2) (k3:=k3) (k5:=k5)
  PySem.F.excBase_ValueError (by decide+kernel) PySem.F.excBase_ValueError (mN:=mN) (T.hasType PySem.F.excBase_ValueError.hasBase) (I.ok.hd hc) (by rw [he];rfl) hni (ld_glob I hg hm ⟨rfl,?_⟩ hdb)
 rw [he];refine Calls.evalArgs_plain ?_;refine Calls.spliced_cons ?_;refine thn (ha pins s σ H _ I ⟨F,st,_,ok,h,fun d hd v H1 sm rr=>(hd:R C)⟩) fun u s1 zz=>?_;obtain ⟨v,H1,I1,rv,hR⟩:=zz;refine Calls.spliced_nil ⟨rfl,(by decide:1<=sizeLine),I1.bk _ _ hC,hN.keeps I1.bk,T.keeps I1.bk,fun h' a hm=>?_⟩;exact r.made pins σ H1 s1 h' C a _ I1 hm hR
end
noncomputable def za1 (K:PySem.W.Frag)(C:Addr):Bool:=
 PySem.W.findIn K (.ref C) "__getattribute__"==some (some (.builtin "BaseException.__getattribute__"))&&PySem.W.findIn K (.ref C) "__getattr__"==some none&&
 PySem.W.findIn K (.ref C) "__class__"==some (some (.builtin "object.__class__"))&&PySem.W.mroIn K C (.type "object")==some true&&PySem.W.mroIn K C (.type "BaseException")==some true&&(PySem.W.clsIn K C).isSome
section
variable {prog:Program}{w:World}{A:Around}{E:Value->Shared->Prop}{h:Heap}{g:Array GenState}{d:Drawn}{t:Nat}{os:OsState}{a C:Addr}{K:PySem.W.Frag}
structure XAt (h:Heap)(a:Addr)(C:Addr):Prop where
 ex:∃ o,h.get? a=some o/\o.cls= .ref C
theorem zg6 {M:Model}{nameV:Value}{Q:Unit->Shared->Prop}(X:K.In h)(hmB:PySem.W.mroIn K C (.type "BaseException")=some true)(xI:XAt h a C)(hq:Q () ⟨h,g,d,t,os⟩):
  wpAny M A (checkBuiltinCall "BaseException.__getattribute__" ⟨[.ref a,nameV],[]⟩) Q E ⟨h,g,d,t,os⟩:=by
 have hk:builtinKind "BaseException.__getattribute__"=some .slot:=by decide+kernel
 have hsplit:splitId "BaseException.__getattribute__"=some ("BaseException","__getattribute__"):=by decide+kernel
 have ha:=PySem.F.args_bexc_ga (.ref a) nameV;have L1:=PySem.W.looks_mroIn (M:=M) X hmB;obtain ⟨o,hx,hc⟩:=id xI.ex;simp only [checkBuiltinCall,hk,hsplit];refine wpAny_bind ?_
 ·unfold isInstance
  repeat (first| (with_reducible refine wpAny_loadPart_at hx ?_;rw [hc])|with_reducible refine L1.at ?_|wp_step)
  exact hq
theorem XAt.type {M:Model}(x:XAt h a C):PySem.W.Looks M h (typeOf (.ref a)) (.ref C):=by
 obtain ⟨o,h1,h2⟩:=x.ex;exact h2▸(PySem.W.Looks.ld h1).andThen .now
theorem zjK {R:Result->Shared->Prop}(X:K.In h)(hm:PySem.W.mroIn K C (.type "object")=some true)(xI:XAt h a C)(hq:R (.ok (.ret (.ref C))) ⟨h,g,d,t,os⟩):
  codeAny (model prog w) A (.call (.builtin "getset_descriptor.__get__") ⟨[.builtin "object.__class__",.ref a,.ref C],[]⟩) R ⟨h,g,d,t,os⟩:=by
 obtain ⟨o,hx,hc⟩:=xI.ex;have hT5:(⟨h,g,d,t,os⟩:Shared).TypeIs (.builtin "object.__class__") "getset_descriptor":=PySem.F.typeOf_object_class;have L1:PySem.W.Looks (model prog w) h (isSubtype (.ref C) (.type (".".intercalate ("object.__class__".cutAt '.').dropLast))) true:=by
  rw [PySem.F.owner_object_class];exact PySem.W.looks_mroIn X hm
 refine codeAny_call_builtin PySem.F.slot_gs_get.plain PySem.F.entry_gs_get (PySem.F.slot_gs_get.check _ _ _ _ _ _ _ _ hT5 (PySem.F.args_gs_get _ _ _) ?_)
 repeat (any_goals (first|assumption| (with_reducible refine wpAny_loadPart_at hx ?_;rw [hc])|with_reducible refine L1.at ?_|wp_step))
 refine ⟨Code.quiet_builtin _ (by decide+kernel),codeAny_builtin PySem.F.entry_object_class ?_⟩
 repeat (any_goals (first|assumption| (with_reducible refine wpAny_loadPart_at hx ?_;rw [hc])|with_reducible refine L1.at ?_|wp_step))
theorem zg7 {tk:Tok}{Q:Fin->Shared->Prop}(X:K.In h)(ha:PySem.W.findIn K (.ref C) "__class__"=some (some (.builtin "object.__class__")))(hm:PySem.W.mroIn K C (.type "object")=some true)
  (xI:XAt h a C)(hq:Q (.done (.ret (.ref C))) ⟨h,g,d,t,os⟩):
  wpAny (model prog w) A (Builtin.«object.__getattribute__» ⟨[.ref a,.str "__class__" tk],[]⟩) Q E ⟨h,g,d,t,os⟩:=by
 obtain ⟨o,hx,hc⟩:=id xI.ex;have hT5:(⟨h,g,d,t,os⟩:Shared).TypeIs (.builtin "object.__class__") "getset_descriptor":=PySem.F.typeOf_object_class;have f5:=PySem.F.typeOf_object_class;have f6:=PySem.F.slot_gs_get.lookup;have f7:=PySem.F.slot_gs_set.lookup;have L1:=PySem.W.looks_findIn (M:=model prog w) X ha
 repeat (any_goals (first|assumption| (with_reducible refine wpAny_loadPart_at hx ?_;rw [hc])|with_reducible refine L1.at ?_|wp_step))
 refine zjK X hm xI ?_
 repeat (any_goals (first|assumption|wp_step))
theorem zio {tk:Tok}{R:Result->Shared->Prop}(X:K.In h)(q:za1 K C=true)(xI:XAt h a C)(hq:R (.ok (.ret (.ref C))) ⟨h,g,d,t,os⟩):
  codeAny (model prog w) A (.call (.builtin "BaseException.__getattribute__") ⟨[.ref a,.str "__class__" tk],[]⟩) R ⟨h,g,d,t,os⟩:=by
 unfold za1 at q;simp only [Bool.and_eq_true,beq_iff_eq] at q;obtain ⟨⟨⟨⟨⟨h1,h2⟩,h3⟩,h4⟩,h5⟩,h6⟩:=q;exact codeAny_call_builtin PySem.F.attr_ValueError.ga.plain PySem.F.entry_bexc_ga (zg6 X h5 xI (zg7 X h3 h4 xI hq))
theorem zkC {tk:Tok}{Q:Value->Shared->Prop}(X:K.In h)(q:za1 K C=true)(xI:XAt h a C)(hq:Q (.ref C) ⟨h,g,d,t,os⟩):
  wpAny (model prog w) A (getAttrBy (.ref a) (.str "__class__" tk) false) Q E ⟨h,g,d,t,os⟩:=by
 have q0:=q;unfold za1 at q0;simp only [Bool.and_eq_true,beq_iff_eq] at q0;obtain ⟨⟨⟨⟨⟨h1,h2⟩,h3⟩,h4⟩,h5⟩,h6⟩:=q0;obtain ⟨o,hx,hc⟩:=id xI.ex;have f3:=PySem.F.attr_ValueError.ga.bind (.ref a);have hx0:(false&&onTheHeap (Value.builtin "BaseException.__getattribute__"))=false:=rfl;have hx2:(Value.builtin "BaseException.__getattribute__"==Value.builtin "object.__getattribute__")=false:=by decide+kernel
 have hx1:(onTheHeap (Value.ref C)&&Value.builtin "BaseException.__getattribute__"==Value.builtin "object.__getattribute__")=false:=by rw [hx2];rfl
 have L1:=PySem.W.looks_findIn (M:=model prog w) X h1;have L2:=PySem.W.looks_findIn (M:=model prog w) X h2
 repeat (any_goals (first|assumption| (with_reducible refine wpAny_loadPart_at hx ?_;rw [hc])|with_reducible refine L1.at ?_|with_reducible refine L2.at ?_|wp_step))
 refine zio X q xI ?_
 repeat (any_goals (first|assumption|wp_step))
theorem ziq {Q:Option Value->Shared->Prop}(X:K.In h)(q:za1 K C=true)(xI:XAt h a C)(hq:Q (some (.ref C)) ⟨h,g,d,t+1,os⟩):wpAny (model prog w) A (getAttr? (.ref a) "__class__") Q E ⟨h,g,d,t,os⟩:=by
 unfold getAttr? getAttrBy?
 repeat (any_goals (first|assumption|with_reducible apply zkC X q xI|wp_step))
end
section
variable {K:PySem.W.Frag}{a C:Addr}
theorem zdz (q:za1 K C=true):PySem.W.KitX K (.ref a) (.ref C) (fun h=>XAt h a C) where
 ty:=fun _ _ _ I=>I.type
 it:=fun _ _ X _=>by
  unfold za1 at q;rw [Bool.and_eq_true] at q;have h6:=q.2;unfold PySem.W.clsIn at h6;split at h6
  ·rename_i c' d' cd' sl' ho;intro A' Q' E' s' k q;unfold isType loadHead;exact wpAny_bind (wpAny_loadPart (k _ _ (X _ _ ho)) (wpAny_pure q))
  ·cases h6
 ne:=fun h tp dd its n sl X htp=>by
  unfold za1 at q;rw [Bool.and_eq_true] at q;have h6:=q.2;refine Bool.eq_false_iff.mpr fun z=>?_;have e:C=tp:=Value.ref.inj (beq_iff_eq.mp z);subst e;unfold PySem.W.clsIn at h6;split at h6
  ·rename_i c' d' cd' sl' ho;have z:=(X _ _ ho).symm.trans htp;cases z
  ·cases h6
 ca:=fun {_ _ _ _ _ s} X I k=>by obtain ⟨h,g,d,t,os⟩:=s;exact ziq X q I k
end
noncomputable def EXC (e C:Addr):HO:=.ext fun h=>∃ o,h.get? e=some o/\o.cls= .ref C
theorem zjL {P:Program}{w:World}{H:Hp}{h:Heap}{e C:Addr}(x:XAt h e C):ObjOk P w H h e (EXC e C):=
 ⟨x.ex,let ⟨o,q,_⟩:=x.ex;⟨o,q⟩,fun h1 h2 ⟨o,q,c⟩ k=>⟨o,k o q,c⟩⟩
theorem zeo:∀ {cs:List Addr} {us:List Value},Vals (cs.map V.ref) us->us=cs.map Value.ref
 | [],_,.nil=>rfl
 |_::_,_,.cons r t=>by
  cases (show _=Value.ref _ from r);rw [zeo t];rfl
section
variable {X:Cx}{e:Expr}{es:List Expr}{i:Nat}{y c:Str}{p1 p2 p3 p4 p5:Pos}
noncomputable def zir (K:PySem.W.Frag)(i:Nat)(cs:List Value):TE:=fun σ H Q=>∃ e C b,σ[i]? =some (some (.ref e))/\H e=some (EXC e C)/\za1 K C=true/\PySem.W.kitAny K (.ref C) cs=some b/\∀ H',Same H H'->Q (.bl b) H'
theorem zdk {K:PySem.W.Frag}{t c:Value}{b:Bool}(h:PySem.W.kitAny K t [c]=some b):PySem.W.kitOne K t c=some b:=by
 unfold PySem.W.kitAny at h;split at h
 ·rename_i q;rw [q];exact h
 ·rename_i q;rw [q];exact h
 ·cases h
theorem zdA:CallR X (.builtin "isinstance") (fun xs H Q=>∃ e C v b,xs=[.ref e,v]/\H e=some (EXC e C)/\za1 X.K C=true/\
  ((∃ c,v= .ref c/\PySem.W.kitOne X.K (.ref C) (.ref c)=some b)\/(∃ T,v= .ty T/\PySem.W.kitOne X.K (.ref C) (.type T)=some b)\/∃ p cs,v= .ref p/\H p=some (.tup (List.map V.ref cs))/\PySem.W.kitAny X.K (.ref C) (cs.map Value.ref)=some b)/\Q (.bl b) H):=by
 intro pins s σ H xs us Q I rv ⟨e,C,v,b,hxs,he,hx,hv,q⟩;subst hxs;have xI:XAt s.heap e C:=⟨(I.hok e _ he).1⟩;obtain ⟨u1,u2,rfl,r1,r2⟩:=Vals.two rv;cases (show u1=Value.ref e from r1);rcases hv with ⟨c,rfl,hk⟩|⟨T,rfl,hk⟩|⟨p,cs,rfl,hp,hk⟩
 ·cases (show u2=Value.ref c from r2);exact PySem.W.kia_one (zdz hx) I.kIn xI hk (fun z=>nomatch z) fun tk=>zbU (I.tok tk) q rfl
 ·cases (show u2=Value.type T from r2);exact PySem.W.kia_one (zdz hx) I.kIn xI hk (fun z=>nomatch z) fun tk=>zbU (I.tok tk) q rfl
 ·cases (show u2=Value.ref p from r2);obtain ⟨_,its,rv,o,h1,h2,n,h3⟩:=(show ObjOk X.prog X.w H s.heap p (.tup _) from I.hok p _ hp);have ei:=zeo rv;subst ei;obtain ⟨oc,od,odt,osl⟩:=o;dsimp only at h2 h3;subst h2 h3;exact PySem.W.kia_tup (zdz hx) I.kIn xI h1 hk (fun z=>nomatch z) fun tk=>zbU (I.tok tk) q rfl
theorem zjM {C:Addr}(hm:X.mg "isinstance"=none)(hm2:X.mg c=some (.ref C))(hN:X.N[i]? =some y)(hv:Vis X.env.scope y:=by first|exact Or.inl rfl|exact Or.inr (Or.inl rfl))(hg:Gl X "isinstance":=by rfl)(hg2:Gl X c:=by rfl)(hd:(y==("__debug__":Str))=false:=by decide)
  (hcd:(y==("__classdict__":Str))=false:=by decide)(hdb:(c==("__debug__":Str))=false:=by decide):PE X (.Call (.Name "isinstance" p1) [.Name y p2,.Name c p3] [] p4) (zir X.K i [.ref C]):=
 PE.wk (zbz zdA hg hm (by rfl) (zaC (zbT hN hv hd hcd) (zaC (zeH hg2 hm2 (v:=.ref C) rfl hdb) zbE rfl) rfl) (by decide) (by decide) rfl rfl) fun σ H Q ⟨e,C',b,h1,h2,h3,h4,h5⟩=>
  ⟨.ref e,h1,e,C',.ref C,b,rfl,h2,h3,.inl ⟨C,rfl,zdk h4⟩,h5 H (Same.refl H)⟩
theorem zis {T:String}(hm:X.mg "isinstance"=none)(hm2:X.mg c=none)(hvb:bootBuiltins c=some (.type T))(hN:X.N[i]? =some y)(hv:Vis X.env.scope y:=by first|exact Or.inl rfl|exact Or.inr (Or.inl rfl))(hg:Gl X "isinstance":=by rfl)(hg2:Gl X c:=by rfl)
  (hd:(y==("__debug__":Str))=false:=by decide)(hcd:(y==("__classdict__":Str))=false:=by decide)(hn:c≠"__name__":=by decide)(hdb:(c==("__debug__":Str))=false:=by decide):PE X (.Call (.Name "isinstance" p1) [.Name y p2,.Name c p3] [] p4) (zir X.K i [.type T]):=
 PE.wk (zbz zdA hg hm (by rfl) (zaC (zbT hN hv hd hcd) (zaC (zfN hg2 hm2 hvb (v:=.ty T) rfl hn hdb) zbE rfl) rfl) (by decide) (by decide) rfl rfl) fun σ H Q ⟨e,C',b,h1,h2,h3,h4,h5⟩=>
  ⟨.ref e,h1,e,C',.ty T,b,rfl,h2,h3,.inr (.inl ⟨T,rfl,zdk h4⟩),h5 H (Same.refl H)⟩
theorem zgm {cs:List Addr}{k1}(hm:X.mg "isinstance"=none)(ha:PA X es (fun _ H Q=>Q (cs.map V.ref) H))(hz:cs.length<=sizeLine)(hN:X.N[i]? =some y)(hv:Vis X.env.scope y:=by first|exact Or.inl rfl|exact Or.inr (Or.inl rfl))(hg:Gl X "isinstance":=by rfl)
  (hd:(y==("__debug__":Str))=false:=by decide)(hcd:(y==("__classdict__":Str))=false:=by decide):PE X (.Call (.Name "isinstance" p1) [.Name y p2,.Tuple es k1 p3] [] p4) (zir X.K i (cs.map Value.ref)):=
 PE.wk (zbz zdA hg hm (by rfl) (zaC (zbT hN hv hd hcd) (zaC (zhl ha) zbE rfl) rfl) (by decide) (by decide) rfl rfl) fun σ H Q ⟨e,C',b,h1,h2,h3,h4,h5⟩=>
  ⟨.ref e,h1,by rw [List.length_map];exact hz,fun p hp=>⟨e,C',.ref p,b,rfl,by rw [upd_ne (zan h2 hp)];exact h2,h3,.inr (.inr ⟨p,cs,rfl,zas,h4⟩),h5 _ fun b o q=>by rw [upd_ne (zan q hp)];exact q⟩⟩
end
noncomputable abbrev cxP (X:Cx)(pins:List (Addr×Obj))(E:Value->Shared->Prop):Cx:={X with pn:=X.pn++pins,xe:=E}
noncomputable abbrev cxM (X:Cx)(e:Addr)(E:Value->Shared->Prop):Cx:={X with A:=X.A.mark (some (.ref e)),calm:=false,xe:=E}
section
variable {X:Cx}{pins pins2:List (Addr×Obj)}{σ:St}{H:Hp}{s:Shared}{E:Value->Shared->Prop}{e:Addr}
theorem zit (I:Inv X pins σ H s):Inv (cxP X pins E) [] σ H s:=
 ⟨⟨I.ok.mod,I.ok.kind,I.ok.glob,I.ok.blt,I.ok.above,I.ok.inj,I.ok.has,I.ok.cab,I.ok.hd,I.ok.frames,I.ok.stk,I.ok.exf,I.ok.bs,I.ok.bsz,I.ok.noex,I.ok.exfs,I.ok.funs,I.ok.frf⟩,I.os,I.bare,I.base,I.loc,I.cell,I.free,I.freeC,
  fun p hp=>I.pin p (by simpa using hp),I.hok,I.len⟩
theorem ziu (I:Inv (cxP X pins E) pins2 σ H s):Inv X pins σ H s:=
 ⟨⟨I.ok.mod,I.ok.kind,I.ok.glob,I.ok.blt,I.ok.above,I.ok.inj,I.ok.has,I.ok.cab,I.ok.hd,I.ok.frames,I.ok.stk,I.ok.exf,I.ok.bs,I.ok.bsz,I.ok.noex,I.ok.exfs,I.ok.funs,I.ok.frf⟩,I.os,I.bare,I.base,I.loc,I.cell,I.free,I.freeC,
  fun p hp=>I.pin p (List.mem_append_left _ hp),I.hok,I.len⟩
theorem zeW (I:Inv X pins σ H s):Inv (cxM X e E) pins σ H s:=
 ⟨⟨I.ok.mod,I.ok.kind,I.ok.glob,I.ok.blt,I.ok.above,I.ok.inj,I.ok.has,I.ok.cab,(fun z=>Bool.noConfusion z),I.ok.frames,I.ok.stk,I.ok.exf,I.ok.bs,I.ok.bsz,I.ok.noex,I.ok.exfs,I.ok.funs,I.ok.frf⟩,I.os,I.bare,I.base,I.loc,I.cell,I.free,I.freeC,
  I.pin,I.hok,I.len⟩
theorem zgn (k:X.calm=true->X.A.handled=none)(I:Inv (cxM X e E) pins σ H s):Inv X pins σ H s:=
 ⟨⟨I.ok.mod,I.ok.kind,I.ok.glob,I.ok.blt,I.ok.above,I.ok.inj,I.ok.has,I.ok.cab,k,I.ok.frames,I.ok.stk,I.ok.exf,I.ok.bs,I.ok.bsz,I.ok.noex,I.ok.exfs,I.ok.funs,I.ok.frf⟩,I.os,I.bare,I.base,I.loc,I.cell,I.free,I.freeC,
  I.pin,I.hok,I.len⟩
theorem zep {s':Shared}(I:Inv X pins σ H s)(ho:s'.os=s.os)(hg:AllBare s'.gens)(kp:∀ b o,s.heap.get? b=some o->b∉frs X.stack->s'.heap.get? b=some o)(up:s.heap.UpToSlots s'.heap):Inv X pins σ H s':=by
 have nf:∀ b o,s.heap.get? b=some o->b∈frs X.stack->∀ vs,o.data≠ .fields vs:=fun b o q hb=>by
  obtain ⟨_,o',e1,e2⟩:=I.stack.mem hb;rw [q] at e1;cases e1;exact e2
 refine I.call' (ch:=[]) ho ⟨fun b o q n hb _=>kp b o q hb,fun b o q n hb _=>up b o q (nf b o q hb),fun _ _ _ n _=>n,fun b o q _=>?_,fun _ _ q=>q,fun _ _ _ q=>q,fun b ps q=>⟨#[],by rw [q];simp⟩⟩ (fun b o q=>?_) hg fun b z=>by cases z
 ·by_cases hb:b∈frs X.stack
  ·obtain ⟨sl,e⟩:=up b o q (nf b o q hb);exact ⟨_,e⟩
  ·exact ⟨o,kp b o q hb⟩
 ·refine (I.hok b o q).stay (fun c v hc z=>kp c v z fun hm=>?_) (fun _ z=>z) fun _ _ z=>z;have n:=I.stkFree c hm;rcases hc with rfl|hc
  ·rw [n] at q;cases q
  ·rw [n] at hc;cases hc
theorem zg8 {a:Addr}{o:HO}{n:Nat}(I:Inv X pins σ H s)(hn:H a=none)(h0:X.s₀.heap.get? a=none)(hL:a≠X.env.locals)(hC:∀ x c,X.env.cells.lookup x=some c->c≠a)(hp:∀ p∈X.pn++pins,p.1≠a)
  (hx:a∉X.ex)(new:ObjOk X.prog X.w (upd H a o) s.heap a o):Inv X pins σ (upd H a o) s:=by
 have ne:∀ b u,H b=some u->b≠a:=fun b u q z=>by rw [z,hn] at q;cases q
 have up:∀ b u,H b=some u->upd H a o b=some u:=fun b u q=>by rw [upd_ne (ne b u q)];exact q
 refine ⟨I.ok,I.os,I.bare,⟨I.base.keep,I.base.slot,fun b ob q n hb=>?_,I.base.there,fun b xs q=>up _ _ (I.base.tups b xs q),fun b x y q=>up _ _ (I.base.frzs b x y q),fun b ps q=>?_⟩,I.loc,I.cell,?_,fun x c q=>?_,fun p hp'=>?_,fun b u q=>?_,I.len⟩
 ·rw [upd_ne (fun z=>by rw [z,h0] at q;cases q)];exact I.base.free b ob q n hb
 ·obtain ⟨m,e1⟩:=I.base.tbls b ps q;exact ⟨m,up _ _ e1⟩
 ·rw [upd_ne (Ne.symm hL)];exact I.free
 ·rw [upd_ne (hC x c q)];exact I.freeC x c q
 ·obtain ⟨e1,e2,e3⟩:=I.pin p hp';exact ⟨e1,by rw [upd_ne (hp p hp')];exact e2,e3⟩
 ·by_cases hb:b=a
  ·subst hb;rw [zas] at q;cases q;exact new
  ·rw [upd_ne hb] at q;exact (I.hok b u q).stay (fun _ _ _ z=>z) (fun c z=>up _ _ z) fun c xs z=>up _ _ z
theorem zg9 {j:Nat}{n:Str}{h':Heap}{t':Nat}{v:Option Value}{m:Str->Option Value}(I:Inv X pins σ H s)(hj:X.N[j]? =some n)(hN:X.N.Nodup)(hl:X.env.kindOf n=some .local)
  (hm:∀ (i:Nat) (x:Str) (v:V),X.N[i]? =some x->σ[i]? =some (some v)->Vis X.env.scope x->∃ u,RelV v u/\zkM X.env s.heap m x u)
  (hn:h'.Ns X.env.locals (fun x=>if x=n then v else m x))(hs:Heap.SameBut X.env.locals s.heap h'):Inv X pins (σ.set j none) H {s with heap:=h',toks:=t'}:=by
 have nl:∀ b o,X.s₀.heap.get? b=some o->b≠X.env.locals:=fun b o q=>Nat.ne_of_lt (Nat.lt_of_lt_of_le (Heap.lt_size q) I.ok.above);have cne:=I.cne;refine ⟨I.ok,I.os,I.bare,⟨fun b o q n hb hx=>(hs.2 b (nl b o q)).trans (I.base.keep b o q n hb hx),fun b o q n hb hx=>?_,I.base.free,fun b o q hx=>?_,I.base.tups,I.base.frzs,I.base.tbls⟩,⟨_,hn,fun i x v' e1 e2 e3=>?_⟩,fun y c q=>?_,I.free,I.freeC,fun p hp=>?_,fun b u q=>?_,by simpa using I.len⟩
 ·obtain ⟨sl,e1⟩:=I.base.slot b o q n hb hx;exact ⟨sl,(hs.2 b (nl b o q)).trans e1⟩
 ·obtain ⟨o',e1⟩:=I.base.there b o q hx;exact ⟨o',(hs.2 b (nl b o q)).trans e1⟩
 ·by_cases hi:i=j
  ·subst hi;by_cases hz:i<σ.length
   ·rw [List.getElem?_set_self hz] at e2;cases e2
   ·rw [List.getElem?_eq_none (by simpa using Nat.not_lt.mp hz)] at e2;cases e2
  ·rw [List.getElem?_set_ne (Ne.symm hi)] at e2;obtain ⟨u,r,q⟩:=hm i x v' e1 e2 e3;have ne:x≠n:=fun z=>hi (nodup_ix hN e1 (z▸hj));refine ⟨u,r,?_⟩;rcases q with ⟨k,q⟩|⟨k,c,q,z⟩
   ·exact .inl ⟨k,by simp [ne,q]⟩
   ·exact .inr ⟨k,c,q,z.sameBut hs (cne x c q)⟩
 ·obtain ⟨w',z⟩:=I.cell y c q;exact ⟨w',z.sameBut hs (cne y c q)⟩
 ·obtain ⟨q,n,ne,nf,d⟩:=I.pin p hp;exact ⟨(hs.2 p.1 ne).trans q,n,ne,nf,d⟩
 ·refine (I.hok b u q).stay (fun c w' hc z=>(hs.2 c ?_).trans z) (fun _ z=>z) fun _ _ z=>z;intro hz;rcases hc with hc|hc
  ·rw [<-hc,hz,I.free] at q;cases q
  ·rw [hz,I.free] at hc;cases hc
end
section
variable {X:Cx}{R:Addr->Prop}{body:List Stmt}{tb:TS}{i j:Nat}{xh n y:Str}{CH:Addr}{hp hpos pos p1 p2 p3:Pos}
noncomputable def zk0 (tb:TS)(R:Addr->Prop)(i:Nat):TS:=fun De σ H=>tb {nx:=fun _ _=>False,rt:=fun _ _=>False} σ H/\∀ C,R C->∀ σ2 H2 e,σ2[i]? =some (some (.ref e))->H2 e=some (EXC e C)->De.nx σ2 H2
theorem zjN (hb:∀ pins E,RP (cxP X pins E) R->PSs (cxP X pins E) body tb)(hR:∀ C,R C->PySem.W.exmOne X.K (.ref C) (.ref CH)=some true)(hm:X.mg xh=some (.ref CH))(hN:X.N.Nodup)(hi:X.N[i]? =some y)(hj:X.N[j]? =some n)(hij:i≠j)
  (hst:X.stack=X.env::X.outer)(hfr:X.env.frame=some X.env.locals)(hex:X.ex=[])(hly:X.env.kindOf y=some .local)(hln:X.env.kindOf n=some .local)(hg:Gl X xh)(hdb:(xh==("__debug__":Str))=false:=by decide)
  (hd:(n==("__debug__":Str))=false:=by decide)(hcd:(n==("__classdict__":Str))=false:=by decide):
  PS X (.Try body [.ExceptHandler (some (.Name xh hp)) (some n) [.Assign [.Name y p1] (.Name n p2) p3] hpos] [] [] pos) (zk0 tb R i):=by
 intro pins s σ H De I ⟨h1,h2⟩;refine wpAny_Try_except ?_;refine wpAny_mono (hb pins _ ⟨fun pins2 σ2 H2 s2 C e s' I2 fl hr=>?_⟩ [] s σ H _ (zit I) h1) (fun f s1 q=>?_) (fun _ _ z=>z)
 ·have I3:Inv X pins σ2 H2 s2:=ziu I2;obtain ⟨os,bare,⟨B,a0,fw,kp⟩,up⟩:=fl;have fw':Heap.FlyingW B (X.env::X.outer) e (.ref C) a0 s'.heap:=hst▸fw;refine wpAny_looks_onW (by rw [I3.ok.frames,hst]) hfr fw' fun h4 hheld hsm4=>?_;refine wpAny_landsW hheld fun h5 hfl5 hsm5=>?_;have I5:Inv X pins σ2 H2 {s' with heap:=h5}:=zep I3 os bare (fun b o q nb=>hfl5.1 b o (kp b o q nb)) ((up.trans hsm4).trans hsm5);have xI5:XAt h5 e C:=⟨hfl5.there⟩;refine wpAny_handleBy_cons (codeAny_handlers_test ?_) (by intro q;cases q);refine ld_glob (X:=cxM X e (fun _ _=>False)) (zeW I5) hg hm ?_ hdb;refine (PySem.W.exm_one I5.kIn xI5.type (hR C hr)).here ?_;refine codeAny_handlers_suite_as ?_;refine lands_againW hfl5 fun h6 hfl6 hsm6=>?_;have up6:=((up.trans hsm4).trans hsm5).trans hsm6;have I6:Inv X pins σ2 H2 {s' with heap:=h6}:=zep I3 os bare (fun b o q nb=>hfl6.1 b o (kp b o q nb)) up6;have xI6:XAt h6 e C:=⟨hfl6.there⟩;have ne2:s2.heap.get? e=none:=by
   cases q:s2.heap.get? e with
   |none=>rfl
   |some o=>
    by_cases hb:e∈frs X.stack
    ·obtain ⟨_,o',e1,nf⟩:=I3.stack.mem hb;rw [q] at e1;cases e1;obtain ⟨sl,e2⟩:=up6 e o q nf;obtain ⟨oe,vs,e3,_,e4,_⟩:=hfl6.first;rw [e2] at e3;cases e3;exact absurd e4 (nf vs)
    ·have:=kp e o q hb;rw [fw.2.1] at this;cases this
  have n2:H2 e=none:=by
   cases q:H2 e with
   |none=>rfl
   |some u=>
    obtain ⟨o,e1⟩:=ObjOk.is (I3.hok e u q);rw [ne2] at e1;cases e1
  have I7:Inv X pins σ2 (upd H2 e (EXC e C)) {s' with heap:=h6}:=by
   refine zg8 (n:=0) I6 n2 ?_ ?_ ?_ ?_ (by rw [hex];simp) (zjL xI6)
   ·cases q:X.s₀.heap.get? e with
    |none=>rfl
    |some o=>
     obtain ⟨o',e1⟩:=I3.base.there e o q (by rw [hex];simp);rw [ne2] at e1;cases e1
   ·intro z;obtain ⟨m,⟨o,_,_,e1,_⟩,_⟩:=I3.loc;rw [<-z,ne2] at e1;cases e1
   ·intro x c q z;obtain ⟨v,o,e1,_⟩:=I3.cell x c q;rw [z,ne2] at e1;cases e1
   ·intro p hp z;have e1:=(I3.pin p hp).1;rw [z,ne2] at e1;cases e1
  refine store_ok (X:=cxM X e (fun _ _=>False)) (zeW I7) hN hj (.inl hln) (v:=.ref e) rfl (fun s8 I8=>?_) (.inr hln);have lj:j<σ2.length:=by rw [I3.len];exact (List.getElem?_eq_some_iff.mp hj).1
  have li:i<σ2.length:=by rw [I3.len];exact (List.getElem?_eq_some_iff.mp hi).1
  refine wpAny_mono (zdm (zhj (X:=cxM X e _) hN hi (.inl hly) (zbT hj (.inl hln) hd hcd) rfl (.inr hly)) pins s8 _ _ {nx:=fun σ H=>σ[i]? =some (some (.ref e))/\H e=some (EXC e C),rt:=fun _ _=>False} (zeW (zgn I3.ok.hd I8)) ⟨.ref e,List.getElem?_set_self lj,List.getElem?_set_self (by simpa using li),zas⟩) (fun f s9 q=>?_) (fun _ _ z=>z);cases f with
  |next=>
   obtain ⟨σ9,H9,I9,hσ,hH⟩:=q;obtain ⟨m,hn,hl⟩:=id I9.loc;refine wpAny_nameGoes_keeps hln hn (by rw [I3.ok.kind];rfl) fun h' v hn' hs=>?_;exact ⟨_,_,zg9 (zgn I3.ok.hd I9) hj hN hln hl hn' hs,h2 C hr _ _ e (by rw [List.getElem?_set_ne (Ne.symm hij)];exact hσ) hH⟩
  |brk=>obtain ⟨_,_,_,z⟩:=q;exact z.elim
  |cont=>obtain ⟨_,_,_,z⟩:=q;exact z.elim
  |ret u=>obtain ⟨_,_,_,_,_,z⟩:=q;exact z.elim
 ·cases f with
  |next=>obtain ⟨_,_,_,z⟩:=q;exact z.elim
  |brk=>obtain ⟨_,_,_,z⟩:=q;exact z.elim
  |cont=>obtain ⟨_,_,_,z⟩:=q;exact z.elim
  |ret u=>obtain ⟨_,_,_,_,_,z⟩:=q;exact z.elim
end
noncomputable abbrev VJ:=LSt->Prop->Prop
noncomputable def SJ (X:Cx)(parts:List Expr)(t:VJ):Prop:=∀ (pins:List (Addr×Obj)) (s:Shared) (σ:St) (H F:Hp) (st:LSt) (Q:Prop) (out:Str),out.length+2000 * parts.length<=sizeLine->Inv X pins σ H s->Ok X.K F H st σ->t st Q->
 wpAny (model X.prog X.w) X.A (joinParts out (evalEach parts X.env)) (fun u s'=>∃ x tk H',u= .str x tk/\Inv X pins σ H' s'/\Same H H'/\Q) X.xe s
noncomputable def zkD:VJ:=fun _ Q=>Q
section
variable {X:Cx}{e v1 v2:Expr}{parts:List Expr}{t:VJ}{te:VE}{x:Str}{k:Nat}{pos:Pos}
theorem zjO:SJ X [] zkD:=fun pins s σ H F st Q out hz I ok h=>joinParts_nil ⟨_,_,H,rfl,I.tok _,Same.refl H,h⟩ (by simpa using hz)
theorem zjP (hr:SJ X parts t)(hx:x.length<=2000:=by decide):SJ X (.Constant (.str x) k pos::parts) t:=fun pins s σ H F st Q out hz I ok h=>by
 have hz':(out++x).length+2000 * parts.length<=sizeLine:=by
  rw [strLen_append];rw [List.length_cons] at hz;omega
 refine joinParts_cons (Calls.Constant_str ⟨by omega,?_⟩);exact hr pins _ σ H F st Q (out++x) hz' (I.tok _) ok h
noncomputable def vFs (t:VJ):VE:=fun st Q=>t st (∀ x,Q (.str x))
theorem zkE (h:SJ X (v1::v2::parts) t)(hz:2000 * (v1::v2::parts).length<=sizeLine:=by decide):SB X (.JoinedStr (v1::v2::parts) pos) (vFs t):=fun pins s σ H Q I zz=>by
 obtain ⟨F,st,Qd,ok,hq,k⟩:=zz;refine JoinedStr_many ?_;refine wpAny_mono (h pins s σ H F st _ Str.empty (by rw [show Str.empty.length=0 from rfl,Nat.zero_add];exact hz) I ok hq) (fun u s' zz=>?_) fun _ _ z=>z;obtain ⟨x,tk,H',e1,I',s2,q⟩:=zz;subst e1;exact ⟨.str x,H',I',⟨tk,rfl⟩,k (.str x) (q x) _ H' s2 rfl⟩
end
section
variable {X:Cx}{es:List Expr}{c:Str}{C:Addr}{cs:List Addr}{p:Pos}
theorem zhy:PA X [] (fun _ H Q=>Q (([]:List Addr).map V.ref) H):=PA.wk zbE fun _ _ _ h=>h
theorem zfI (hm:X.mg c=some (.ref C))(ha:PA X es (fun _ H Q=>Q (cs.map V.ref) H))(hg:Gl X c:=by rfl)(hdb:(c==("__debug__":Str))=false:=by decide)(he:starEach (.Name c p::es) X.env=(false,eval (.Name c p) X.env)::starEach es X.env:=by rfl):
  PA X (.Name c p::es) (fun _ H Q=>Q ((C::cs).map V.ref) H):=PA.wk (zaC (zeH hg hm (v:=.ref C) rfl hdb) ha he) fun _ _ _ h=>h
end
section
variable {K:PySem.W.Frag}{C c CH:Addr}{t x:Value}{cs:List Value}{b:Bool}{cd:ClassData}
theorem zgo (h1:PySem.W.findIn K (.ref C) "__getattribute__"=some (some (.builtin "BaseException.__getattribute__")))(h2:PySem.W.findIn K (.ref C) "__getattr__"=some none)
  (h3:PySem.W.findIn K (.ref C) "__class__"=some (some (.builtin "object.__class__")))(h4:PySem.W.mroIn K C (.type "object")=some true)(h5:PySem.W.mroIn K C (.type "BaseException")=some true)(h6:PySem.W.clsIn K C=some cd):za1 K C=true:=by
 unfold za1;rw [h1,h2,h3,h4,h5,h6];simp
theorem zeq (h1:PySem.W.clsIn K c=some cd)(h2:PySem.W.typeIn K (.ref c)=some (.type "type"))(h3:PySem.W.subIn K t (.ref c)=some b):PySem.W.kitCls K t (.ref c)=some b:=by
 unfold PySem.W.kitCls;simp only;rw [h1,h2,if_pos (by simp)];exact h3
theorem zgp (h0:PySem.W.subIn K (.ref c) (.type "BaseException")=some true)(h1:PySem.W.clsIn K c=some cd)(h2:PySem.W.typeIn K (.ref c)=some (.type "type"))(h3:PySem.W.subIn K t (.ref c)=some b):PySem.W.exmOne K t (.ref c)=some b:=by
 unfold PySem.W.exmOne;rw [h0,if_pos (by simp)];exact zeq h1 h2 h3
theorem za2 (hs:PySem.W.subIn K (.ref C) (.ref C)=some true)(h1:PySem.W.clsIn K c=some cd)(h2:PySem.W.typeIn K (.ref c)=some (.type "type"))(h3:PySem.W.subIn K (.ref C) (.ref c)=some b):PySem.W.kitOne K (.ref C) (.ref c)=some b:=by
 unfold PySem.W.kitOne;by_cases e:(Value.ref C==Value.ref c)=true
 ·rw [if_pos e];have z:C=c:=Value.ref.inj (beq_iff_eq.mp e);rw [z] at hs h3;rw [hs] at h3;exact h3
 ·rw [if_neg e];exact zeq h1 h2 h3
theorem zgq {T:String}(hm:PySem.W.kitMeta T=true)(h3:PySem.W.subIn K (.ref C) (.type T)=some b):PySem.W.kitOne K (.ref C) (.type T)=some b:=by
 unfold PySem.W.kitOne;rw [if_neg (by simp)];unfold PySem.W.kitCls;simp only;rw [if_pos hm];exact h3
theorem zfq:PySem.W.kitAny K t []=some false:=rfl
theorem zfr (h:PySem.W.kitOne K t x=some true):PySem.W.kitAny K t (x::cs)=some true:=by unfold PySem.W.kitAny;rw [h]
theorem zbA (h:PySem.W.kitOne K t x=some false)(h2:PySem.W.kitAny K t cs=some b):PySem.W.kitAny K t (x::cs)=some b:=by unfold PySem.W.kitAny;rw [h];exact h2
theorem zcQ:PySem.W.kitMeta "ValueError"=true:=by decide+kernel
end
structure Kl where
 (HallError NoPoint NoWeb NoTie NoText NoKind NoRow NoName:Addr)
noncomputable def zhz (K:PySem.W.Frag)(tt:TS)(i:Nat)(C:Addr)(d:D):Prop:=∀ (De:Ends) (σ:St) (H:Hp) (e:Addr),σ[i]? =some (some (.ref e))->H e=some (EXC e C)->(∀ v H',Rep K H' H' d v->De.rt v H')->tt De σ H
section
variable {P:Program}{w:World}{K:PySem.W.Frag}{mg:Str->Option Value}{base:Heap}
theorem zli {x qual:Str}{st s1 tr:Stmt}{tl:List Stmt}{f CH:Addr}{fd:FuncData}{N ps:List Str}{k i:Nat}{mv:VF}{t1:VS}{tv:(Addr->Prop)->VS}{tt:TS}{res:Addr->D->Prop}(F:Fun K x qual st f fd)(hm:mg x=some (.ref f))(hbi:Binds K fd ps [])(S:FnScope N ps (zaa st))(hlen:∀ ds Q,mv ds Q->ds.length=ps.length/\deps ds<1000000)
  (hbd:zai st=s1::tr::tl)
  (hs:∀ (cdv:Value) (A:Around) (outer:List Env) (s:Shared) (H:Hp) (E:XK),Room k (A.deeper (envOfC qual (zaa st) s.heap.objs.size f cdv))->SS (zd4 CXF P w K mg base N qual (zaa st) f cdv A outer s H E) s1 t1/\
   (∀ R:Addr->Prop,(∀ C,R C->PySem.W.exmOne K (.ref C) (.ref CH)=some true)->PS (zd4 CXF P w K mg base N qual (zaa st) f cdv A outer s H E) tr (zk0 (lS K (tv R)) R i))/\PSs (zd4 CXF P w K mg base N qual (zaa st) f cdv A outer s H E) tl tt)
  (hres:∀ C d,res C d->PySem.W.exmOne K (.ref C) (.ref CH)=some true/\zhz K tt i C d)
  (hv:∀ ds (Q:D->Prop) (R:Addr->Prop),mv ds (fun _=>Q)->(∀ C d,res C d->Q d->R C)->t1 {nx:=fun st=>tv R {nx:=fun _=>False,rt:=fun _ _=>False} st,rt:=fun _ _=>False} (zbl N ds))
  (hmv:∀ ds Q,mv ds Q->mv ds fun _=>Q .sh):Cal P w K mg base (k+1) x mv:=by
 refine CalX.cal (m:=fun ds _ Q=>mv ds fun _=>Q) ⟨f,fd,ps,Fun.okF F S (fun ds R Q h=>hlen ds _ h) fun cdv A outer s H vs ds Qn E hr fz r h=>?_,hm,F.kp,hbi⟩ fun ds Q h=>hmv ds Q h;obtain ⟨a1,a2,a3⟩:=hs cdv A outer s H E hr;let D0:Ends:={nx:=fun _ H'=>Qn .non,rt:=fun v H'=>∃ d,Qn d/\Rep K H' H' d v};let R:Addr->Prop:=fun C=>∃ d,res C d/\Qn d;rw [hbd];refine ⟨_,zcy a1 (zcy (a2 R fun C ⟨d,hd,_⟩=>(hres C d hd).1) a3),H,_,_,zdq r,hv ds Qn R h (fun C d h1 h2=>⟨d,h1,h2⟩),?_⟩;refine ⟨fun F' H' st' σ' fw ok q=>?_,fun _ _ _ _ _ _ q=>q.elim,fun _ _ _ _ _ _ q=>q.elim,fun _ _ _ _ _ _ _ _ _ _ q=>q.elim,fun _ _ _ _ _ _ _ _ _ q=>q.elim⟩;refine ⟨⟨F',st',_,ok,q,⟨fun _ _ _ _ _ _ q=>q.elim,fun _ _ _ _ _ _ q=>q.elim,fun _ _ _ _ _ _ q=>q.elim,fun _ _ _ _ _ _ _ _ _ _ q=>q.elim,fun _ _ _ _ _ _ _ _ _ q=>q.elim⟩⟩,fun C ⟨d,hd,hq⟩ σ2 H2 e h1 h2=>?_⟩;exact (hres C d hd).2 _ σ2 H2 e h1 h2 fun v H3 rr=>⟨d,hq,rr⟩
end
section
variable {X:Cx}{b:Expr}{tb:VE}{pos p:Pos}{x:Str}
end
structure Lt where
 tab:Addr
 pos:Pos
 qual:Str
section
variable {K:PySem.W.Frag}{T:Lt}{H H':Hp}
noncomputable def ziv:LSt->Bool
 | []=>true
 |some (m,_)::r=> !ziK m&&ziv r
 |none::r=>ziv r
end
section
variable {X:Cx}{T:Lt}{H₀:Hp}{s:Stmt}{ss rest:List Stmt}{t u tb:VS}{c e:Expr}{pos p:Pos}
end
section
variable {P:Program}{w:World}{K:PySem.W.Frag}{mg:Str->Option Value}{base:Heap}{T:Lt}
end
section
variable {X:Cx}{T:Lt}{H₀:Hp}{e a:Expr}{es:List Expr}{t:VAs}{x y:Str}{p pos p1 p2:Pos}{k i:Nat}{m:VF}
end
section
variable {K:PySem.W.Frag}{F H F' H':Hp}{st:LSt}{σ:St}{tab c:Addr}
end
section
variable {X:Cx}{pins:List (Addr×Obj)}{σ:St}{H:Hp}{s:Shared}{E:Value->Shared->Prop}
end
section
variable {X:Cx}{T:Lt}{e:Expr}{params:Arguments}{body:Expr}{lscope:Scope}{lpos p p1 p2 p3 kp pos:Pos}{x yk ch y:Str}{c0 cell:Addr}{i j l k:Nat}{tb:VE}
end
open PySem PySem.Spec PyProof.Rows L2 PySem.W PySem.Calls Att
section
variable {prog:Program}{w:World}{A:Around}{E:Value->Shared->Prop}{s:Shared}{l:Addr}{xs:Array (Int×Tok)}
end
section
variable {X:Cx}{a:Expr}{pos p:Pos}{tt:VAs}
end
section
variable {X:Cx}{i1:Expr}{pos p apos cpos:Pos}{x:Str}
end
section
variable {P:Program}{w:World}{K:PySem.W.Frag}{mg:Str->Option Value}{base:Heap}{T:Lt}
end
section
variable {X:Cx}{x y:Str}{i1:Expr}{p q p2 pos:Pos}
end
end VL
namespace L2
open PySem PySem.Spec PyProof.Rows
section
variable {X:Cx}{pins:List (Addr×Obj)}{σ:St}{H:Hp}{s:Shared}{a:Addr}{o:HO}
end
section
variable {prog:Program}{w:World}{A:Around}{E:Value->Shared->Prop}{s:Shared}
end
section
variable {X:Cx}{pins:List (Addr×Obj)}{σ:St}{A:Around}{E:Value->Shared->Prop}{a kS q:Addr}{vs:List Value}{kz:List Int}{P:PySem.Fin->Shared->Prop}{HP:Hp->Prop}{e1:Nat}
end
section
variable {X:Cx}{pins:List (Addr×Obj)}{σ:St}{E:Value->Shared->Prop}{q r:Addr}{HP:Hp->Prop}
end
end L2
namespace VL
open PySem PySem.Spec PyProof.Rows L2
section
variable {X:Cx}{a:Expr}{p2 pos2:Pos}
end
section
variable {X:Cx}{T:Lt}{e a:Expr}{params:Arguments}{body:Expr}{lscope:Scope}{lpos p p1 p2 p3 p4 kp pos:Pos}{x yk y:Str}{c0 cell:Addr}{j l k:Nat}{tb:VE}{te:VAs}
end
noncomputable def zlj:D->Option (List Int)
 | .tup xs=>zg2 xs
 |_=>none
section
variable {K:PySem.W.Frag}{F H:Hp}{st:LSt}{σ:L2.St}
end
section
variable {X:Cx}{k e v:Expr}{x:Str}{p pos:Pos}{tk tv:VE}{i j:Nat}
end
section
variable {X:Cx}{k e v:Expr}{x y:Str}{p pos pos':Pos}{tk tv:VE}
end
section
variable {X:Cx}{x:Str}{p pos:Pos}{tb:VS}
end
section
variable {X:Cx}
end
section
variable {X:Cx}{o e:Expr}{ta tb:VE}{apos cpos:Pos}
end
section
variable {K:PySem.W.Frag}{F H:Hp}
end
section
variable {X:Cx}{x l:Str}{px pl p1 p2 ap1 ap2 cp1 cp2 pos1 pos:Pos}{e0:Expr}
end
end VL
namespace L2
open PySem PySem.Spec PyProof.Rows
section
variable {prog:Program}{w:World}{A:Around}{R:Result->Shared->Prop}{I:Addr}{fp wr:List Addr}{n:Nat}{P:Nat->Value->Prop}{St:Nat->Heap->Prop}{kw:List (Str×Value)}
end
section
variable {X:Cx}{e d:Expr}{pos p kp2:Pos}{t:TA}{td:TE}
end
end L2
namespace VL
open PySem PySem.Spec PyProof.Rows L2
section
variable {X:Cx}{e d:Expr}{pos p kp2:Pos}{t:VAs}{td:VE}
end
section
variable {X:Cx}{e:Expr}{pos:Pos}
end
section
variable {X:Cx}{T:Lt}{e a:Expr}{params:Arguments}{body:Expr}{lscope:Scope}{lpos p p1 p2 p3 p4 kp pos:Pos}{x yk y:Str}{c0 cell:Addr}{j l k:Nat}{tb:VE}{te:VAs}
end
section
variable {X:Cx}{T:Lt}{H₀:Hp}{e e' a:Expr}{es es':List Expr}{t t':VAs}{x y:Str}{p pos p1 p2 p3 p4:Pos}{k i:Nat}{m m':VF}
end
section
variable {X:Cx}{iter:Expr}{tb:VS}{pos:Pos}
end
section
variable {X:Cx}{elt iter:Expr}{ifs:List Expr}{pos spos:Pos}{y z:Str}{py pz pt:Pos}{k1:Nat}{R:List Str}{scope:Scope}{src:VAs}{ct:VT}{ee:VE}
end
noncomputable abbrev VJT:=LSt->(Str->Prop)->Prop
noncomputable def zkF:VJT:=fun _ Q=>Q Str.empty
noncomputable def zkG (x:Str)(t:VJT):VJT:=fun st Q=>t st fun y=>Q (x++y)
noncomputable def zkH (te:VE)(t:VJT):VJT:=fun st Q=>te st fun d=>∃ i,d= .int i/\i.natAbs.log2<1920/\t st fun y=>Q (Str.ofString (toString i)++y)
section
variable {X:Cx}{e v1 v2:Expr}{parts:List Expr}{t:VJT}{te:VE}{x:Str}{k:Nat}{pos:Pos}
end
noncomputable def zcR:V2:=fun d e Q=>match d,e with
 | .str i,.str j=>i.length+j.length<=16777216/\Q (.str (i++j))
 |_,_=>False
noncomputable def ziM:V2:=fun d e Q=>match d,e with
 | .str z,.int i=>z.length<=16777216/\(match atI z.cps.toList i with
  |some c=>Q (.str ⟨#[c]⟩)
  |none=>False)
 |_,_=>False
theorem zfs {n:Nat}(h:n<=16777216):n<=sizeLine:=Nat.le_trans h (by decide)
section
variable {X:Cx}{a b e:Expr}{es:List Expr}{ta tb:VE}{t:VAs}{pos p:Pos}
theorem ziw {K:PySem.W.Frag}:Lf K zcR (fun x y H Q=>∃ i j,x= .str i/\y= .str j/\i.length+j.length<=sizeLine/\Q (.str (i++j)) H):=fun H x y d e Qd Q rx ry h k=>by
 unfold zcR at h;split at h
 ·rename_i i j;exact ⟨i,j,rx,ry,zfs h.1,k _ h.2 _ H (Same.refl H) rfl⟩
 ·exact h.elim
theorem zjQ {K:PySem.W.Frag}:Lf K ziM zkT:=fun H x y d e Qd Q rx ry h k=>by
 unfold ziM at h;split at h
 ·rename_i z i;obtain ⟨hz,h⟩:=h;split at h
  ·rename_i c hc;exact ⟨z,i,c,rx,ry,zfs hz,hc,k _ h _ H (Same.refl H) rfl⟩
  ·exact h.elim
 ·exact h.elim
theorem zbQ (ha:SB X a ta)(hb:SB X b tb):SB X (.BinOp a .Add b pos) (zax zcR ta tb):=zee zfw ziw ha hb
theorem zhA (ha:SB X a ta)(hb:SB X b tb)(hs:zeQ b:=by intro _ _;rfl):SB X (.Subscript a b pos) (zax ziM ta tb):=PE.wk (zjf zjh ha hb hs) fun _ _ _ h=>zed zjQ h
noncomputable def zgr:VB':=fun ds Q=>match ds with
 | [.str z]=>z.length<=16777216/\Q (.int z.length)
 |_=>False
theorem zix {K:PySem.W.Frag}:LfA K zgr (fun xs H Q=>∃ z,xs=[.str z]/\z.length<=sizeLine/\Q (.int z.length) H):=fun H vs ds Qd Q r h k=>by
 unfold zgr at h;split at h
 ·obtain ⟨v,rfl,r1⟩:=zfB r;obtain rfl:v=_:=r1;exact ⟨_,rfl,zfs h.1,k _ h.2 _ H (Same.refl H) rfl⟩
 ·exact h.elim
theorem ziy (hm:X.mg "len"=none)(ha:SA X (e::es) t)(hg:Gl X "len":=by rfl)(he:starEach (e::es) X.env=(false,eval e X.env)::starEach es X.env:=by rfl)(hpl:(backTo pos (starEach es X.env)).any (·.1)=false:=by rfl):
  SB X (.Call (.Name "len" p) (e::es) [] pos) (vCB zgr t):=zfh zd7 zix hg hm PySem.boot_len ha (by decide) (by decide) he hpl
end
noncomputable def ziz (ta:VE)(t:VAs):VE:=fun st Q=>ta st fun d=>match d with
 | .str x=>t st fun ds=>∃ ys:List Str,ds=[.lst (ys.map D.str)]/\(ys.map (·.length)).sum+ys.length * x.length<=16777216/\Q (.str (Txt.join x ys))
 |_=>False
noncomputable def zkI (K:PySem.W.Frag):V->List V->Hp->VK->Prop:=fun v vs H Q=>∃ x p ys,v= .str x/\vs=[.ref p]/\SqL K H p (ys.map V.str)/\(ys.map (·.length)).sum+ys.length * x.length<=16777216/\Q (.str (Txt.join x ys)) H
theorem zer:∀ {ys:List Str} {us:List Value},Vals (ys.map V.str) us->StrsAre us ys
 | [],us,h=>by cases h;exact .nil
 |y::ys,us,h=>by
  cases h with
  |cons h t=>
   obtain ⟨tk,rfl⟩:=h;exact .cons y tk (zer t)
theorem zcS {K:PySem.W.Frag}{F H:Hp}:∀ {ys:List Str} {vs:List V},Reps K F H (ys.map D.str) vs->vs=ys.map V.str
 | [],vs,h=>by unfold Reps at h;exact h
 |y::ys,vs,h=>by
  unfold Reps at h;obtain ⟨v,r,rfl,a,b⟩:=h;rw [zcS b];obtain rfl:v=V.str y:=a;rfl
section
variable {X:Cx}{o e:Expr}{es:List Expr}{ta tb:VE}{t:VAs}{apos cpos pos p:Pos}
theorem ziA:MtR X "str.join" (zkI X.K):=by
 intro pins s σ H x xs v us Q I rx rs h;obtain ⟨z,q,ys,rfl,rfl,hq,hs,h⟩:=h;obtain ⟨tk,rfl⟩:=(show ∃ t,v=Value.str z t from rx);obtain ⟨u,rfl,ru⟩:=zhK rs;cases ru;obtain ⟨its,r',pl,hz⟩:=I.list hq;exact join_list pl.isList (by simpa using zer r') hs fun t' k=>⟨.str _,H,I.tok _,⟨_,rfl⟩,h⟩
theorem ziB (ho:SB X o ta)(ha:SA X [e] t)(hbase:attributeBase o "join" X.env (eval o X.env)=eval o X.env:=by rfl)
  (hfew:((backTo cpos (starEach [e] X.env)).all (fun x=> !x.1)&&(backToKw cpos (keywordEach [] X.env)).all (fun x=>x.1.isSome)&&decide ([e].length+([]:List Keyword).length+(if ([]:List Keyword).isEmpty then 0 else 1)<30))=true:=by rfl)
  (hline:(apos.endLine==cpos.line)=true:=by rfl)(hs:starEach [e] X.env=(false,eval e X.env)::starEach [] X.env:=by rfl)(hplain:(backTo cpos (starEach [] X.env)).any (·.1)=false:=by rfl):
  SB X (.Call (.Attribute o "join" apos) [e] [] cpos) (ziz ta t):=
 PE.wk (zgO PySem.F.plainAttrs_str PySem.F.slot_str_join PySem.F.type_str_join ziA ho ha hbase hfew hline hs hplain) fun σ H Q zz=>by
 obtain ⟨F,st,Qd,ok,h,k⟩:=zz;exact ⟨F,st,_,ok,h,fun d hd v H1 s1 r1=>by
   split at hd
   ·rename_i x;obtain rfl:v=_:=r1;refine ⟨rfl,F,st,_,ok.same s1,hd,fun ds hds vs H2 s2 r2=>?_⟩;obtain ⟨ys,rfl,hl,hQ⟩:=hds;obtain ⟨w,rfl,rw'⟩:=zfB r2;unfold Rep at rw';obtain ⟨a,ws,rfl,hq,rr⟩:=rw';have:=zcS rr;subst this;exact ⟨x,a,ys,rfl,rfl,hq,hl,k _ hQ _ H2 (s1.trans s2) rfl⟩
   ·exact hd.elim⟩
open Builtin Builtin.Str in
end
section
variable {X:Cx}{tg l:Expr}{ta:VE}
end
section
variable {X:Cx}{a o e l:Expr}{parts:List Expr}{ta tb:VE}{pos p2 apos cpos:Pos}{tl tu:VP}{lo hi:Option Expr}
theorem zjR:SlR X (fun x lo hi H Q=>∃ z,x= .str z/\z.length<=sizeLine/\Q (.str (Txt.slice z lo hi)) H):=by
 intro pins s σ H x v vl vu lo hi sl Q I rx hs pl pu h;obtain ⟨z,rfl,hz,q⟩:=h;obtain ⟨t,rfl⟩:=(show ∃ t,v=Value.str z t from rx);have fin:∀ lo hi,Q (.str (Txt.slice z lo hi)) H->(Txt.slice z lo hi).length<=sizeLine/\∀ t' k,EP X pins σ Q (.str (Txt.slice z lo hi) t') {s with toks:=k}:=fun lo hi q=>⟨Nat.le_trans (Txt.slice_le z _ _) hz,fun t' k=>⟨.str _,H,I.tok k,⟨t',rfl⟩,q⟩⟩;refine ⟨"str",_,F.slot_str_getitem.lookup,typeIs_str _ _ _,?_⟩;cases pl with
 |none=>
  cases pu with
  |none=>exact wpAny_getItem_str_slice (l:=none) (u:=none) (st:=none) hs rfl (post_val_or_str (fin _ _ q))
  |int j tj=>exact wpAny_getItem_str_slice (l:=none) (u:=some (j,tj)) (st:=none) hs rfl (post_val_or_str (fin _ _ q))
 |int i ti=>
  cases pu with
  |none=>exact wpAny_getItem_str_slice (l:=some (i,ti)) (u:=none) (st:=none) hs rfl (post_val_or_str (fin _ _ q))
  |int j tj=>exact wpAny_getItem_str_slice (l:=some (i,ti)) (u:=some (j,tj)) (st:=none) hs rfl (post_val_or_str (fin _ _ q))
noncomputable def zgG (ta:VE)(tl tu:VP):VE:=fun st Q=>ta st fun d=>tl st fun lo=>tu st fun hi=>match d with
 | .str z=>z.length<=16777216/\Q (.str (Txt.slice z lo hi))
 |_=>False
theorem zco (ha:SB X a ta)(hl:SPa X lo tl)(hu:SPa X hi tu):SB X (.Subscript a (.Slice lo hi none p2) pos) (zgG ta tl tu):=PE.wk (zfa zjR ha hl hu) fun σ H Q ⟨F,st,Qd,ok,h,k⟩=>
 ⟨F,st,_,ok,h,fun d hd v H1 s1 r1=>⟨F,st,_,ok.same s1,hd,fun l hl H2 s2=>⟨F,st,_,ok.same (s1.trans s2),hl,fun u hu H3 s3=>by
  cases d with
  |str z=>
   obtain rfl:v=_:=r1;exact ⟨z,rfl,zfs hu.1,k _ hu.2 _ H3 (s1.trans (s2.trans s3)) rfl⟩
  |_=>exact hu.elim⟩⟩⟩
noncomputable def zj4 (te:VE)(t:VJ):VJ:=fun st Q=>te st fun d=>∃ x,d= .str x/\(reprText x).length<=2000/\t st Q
theorem zjS {te:VE}{t:VJ}(ha:SB X e te)(hr:SJ X parts t):SJ X (.FormattedValue e 114 none pos::parts) (zj4 te t):=fun pins s σ H F st Q out hz I ok h=>by
 refine joinParts_cons (wpAny_FormattedValue_repr ?_);have hh:lB X.K te σ H (fun v H1=>Same H H1/\∃ x,v= .str x/\(reprText x).length<=2000/\t st Q):=by
  refine ⟨F,st,_,ok,h,fun d hd v H1 sm rr=>?_⟩;obtain ⟨i,rfl,h1,h2⟩:=hd;exact ⟨sm,i,rr,h1,h2⟩
 refine thn (ha pins s σ H _ I hh) fun u s1 zz=>?_;obtain ⟨v,H1,I1,rv,sm,x,hv,hl,hq⟩:=zz;subst hv;obtain ⟨tk,rfl⟩:=(show ∃ t,u=Value.str x t from rv);have hl2:(reprText x).length<=sizeLine:=Nat.le_trans hl (by decide);have hz':(out++reprText x).length+2000 * parts.length<=sizeLine:=by
  rw [strLen_append];rw [List.length_cons] at hz;omega
 have fin:∀ k,wpAny (model X.prog X.w) X.A (joinParts (out++reprText x) (evalEach parts X.env)) (fun u s'=>∃ x tk H',u= .str x tk/\Inv X pins σ H' s'/\Same H H'/\Q) X.xe {s1 with toks:=k}:=fun k=>
  wpAny_mono (hr pins _ σ H1 F st Q (out++reprText x) hz' (I1.tok _) (ok.same sm) hq) (fun u s' ⟨x,tk,H',e1,I',s2,q⟩=>⟨x,tk,H',e1,I',sm.trans s2,q⟩) fun _ _ z=>z
 refine wpAny_pyReprObj_gives (typeIs_str _ _ _) PySem.F.slot_str_repr PySem.F.entry_str_repr (PySem.F.args_str_repr_1 _) (gives_str_repr x tk) ?_ rfl hl2;exact wpAny_formatField_str ⟨by omega,fin _⟩ ⟨by omega,fin _⟩ hl2
end
section
variable {X:Cx}{e:Expr}{te:TE}{x:Str}{p pos:Pos}
end
end VL
namespace L2
open PySem PySem.Spec PyProof.Rows VL
section
variable {prog:Program}{w:World}{A:Around}{R:Result->Shared->Prop}{s:Shared}
end
section
variable {X:Cx}{pins:List (Addr×Obj)}{σ:L2.St}{H:Hp}{s:Shared}
end
section
variable {X:Cx}{N R tn:List Str}{scope:Scope}{pos:Pos}{tg elt iter:Expr}{ifs:List Expr}{wi:TI}{g:TG}{tc:TT}{te:TE}{R0:Addr->Prop}
end
end L2
namespace VL
open PySem PySem.Spec PyProof.Rows L2
section
variable {X:Cx}{elt iter:Expr}{ifs:List Expr}{pos:Pos}{y:Str}{py:Pos}{R:List Str}{scope:Scope}{src:VAs}{ct:VT}{ee:VE}{R0:Addr->Prop}
end
section
variable {X:Cx}{ss:List Stmt}{t:TS}
end
open PySem.W (KasT kas_rev kas_cmp kas_item)
section
variable {prog:Program}{w:World}{A:Around}{E:Value->Shared->Prop}{s:Shared}{κ:SortKind}{it:Array Keyed}{key:Nat->Int}{n:Nat}{p:Array Nat}{P:Array (Nat×Nat×Nat)}{st:SortSt}
end
open PySem.W (KasT kas_rev kas_cmp kas_item)
section
variable {prog:Program}{w:World}{A:Around}{E:Value->Shared->Prop}{s:Shared}{κ:SortKind}{it:Array Keyed}{key:Nat->Int}{n:Nat}{p:Array Nat}{P:Array (Nat×Nat×Nat)}{st:SortSt}
end
open PySem.W (KasT kas_rev kas_cmp kas_item)
section
variable {le:Nat->Nat->Prop}{T o ra rb l:List Nat}
end
noncomputable def tk (x:Array Nat)(i:Nat):List Nat:=(x.toList.take i).reverse
noncomputable def rs (it:Array Keyed)(o:List Nat):Array Keyed:=(o.map (kas_item it)).toArray
section
variable {it:Array Keyed}{o:List Nat}{x y:Array Nat}
end
open PySem.W (KasT kas_rev kas_cmp kas_item)
section
variable {prog:Program}{w:World}{A:Around}{E:Value->Shared->Prop}{s:Shared}{κ:SortKind}{it:Array Keyed}{key:Nat->Int}{n:Nat}{p:Array Nat}{P:Array (Nat×Nat×Nat)}{st:SortSt}{x y:Array Nat}
noncomputable abbrev up (key:Nat->Int)(u v:Nat):Prop:=key u<=key v
section
variable {o T':List Nat}{ia ib k:Nat}
end
end
open PySem.W (KasT kas_rev kas_cmp kas_item)
section
variable {prog:Program}{w:World}{A:Around}{E:Value->Shared->Prop}{s:Shared}{κ:SortKind}{it:Array Keyed}{key:Nat->Int}{n:Nat}{p:Array Nat}{P:Array (Nat×Nat×Nat)}{st:SortSt}{x y:Array Nat}
section
variable {o T':List Nat}{na nb k:Nat}
end
end
open PySem.W (KasT kas_rev kas_cmp kas_item)
section
variable {prog:Program}{w:World}{A:Around}{E:Value->Shared->Prop}{s:Shared}{κ:SortKind}{it:Array Keyed}{key:Nat->Int}{n:Nat}{p:Array Nat}{P:Array (Nat×Nat×Nat)}{st:SortSt}
end
open PySem.W (KasT kas_rev kas_cmp kas_item)
section
variable {prog:Program}{w:World}{A:Around}{E:Value->Shared->Prop}{s:Shared}{κ:SortKind}{it:Array Keyed}{key:Nat->Int}{n:Nat}{p:Array Nat}{P:Array (Nat×Nat×Nat)}{st:SortSt}
end
open PySem.W (KasT kas_sort kas_ask kas_cmp kat_run kat_kind kat_lt KatTups kat_cons kat_nil kat_go kat_yes kat_no kat_one BoolBack kat_snds kas_item KatLex Looks)
section
variable {prog:Program}{w:World}{A:Around}{E:Value->Shared->Prop}{s:Shared}
end
section
variable {X:Cx}{pins:List (Addr×Obj)}{σ:St}{H:Hp}{s:Shared}
end
section
variable {X:Cx}{a:Expr}{pos p:Pos}{t:VAs}
end
structure Kd (K:PySem.W.Frag)(C:Addr):Prop where
 makes:PySem.W.makesIn K C=true
 init:PySem.W.findIn K (.ref C) "__init__"=some (some (.builtin "object.__init__"))
 kp:PySem.W.keepIn K (.ref C)=true
 pg:PySem.W.plainGet K C Str.empty=true
 hd:PySem.W.hasDictIn K C=true
 po:PySem.W.plainOver K C=true
 sa:PySem.W.findIn K (.ref C) "__setattr__"=some (some (.builtin "object.__setattr__"))
 ha:PySem.W.findIn K (.ref C) "__class__"=some (some (.builtin "object.__class__"))
 hn:PySem.W.specialIn K (.builtin "object.__class__") "__get__"=some (some (.builtin "getset_descriptor.__get__"))
 htk:PySem.W.takesIn K (.builtin "object.__class__")=some true
 hm:PySem.W.mroIn K C (.type "object")=some true
theorem Kd.cls {K:PySem.W.Frag}{C:Addr}(k:Kd K C):Cls K C:=⟨k.pg,k.hd,k.po,k.sa⟩
section
variable {X:Cx}{pins:List (Addr×Obj)}{σ:St}{H:Hp}{s:Shared}{x:Str}{p pos:Pos}{C:Addr}
theorem zgs {Q:VK}(M:Kd X.K C)(I:Inv X pins σ H s)(h:∀ a dx,H a=none->H dx=none->dx≠a->Q (.ref a) (upd (upd H dx (.own a)) a (.ins C dx []))):
  wpAny (model X.prog X.w) X.A (call (.ref C) []) (EP X pins σ Q) X.xe s:=by
 have hq:=h (s.heap.objs.size+1) s.heap.objs.size (I.hok.fresh (Nat.le_succ _)) (I.hok.fresh (Nat.le_refl _)) (Nat.ne_of_lt (Nat.lt_succ_self _));have I2:=Inv.made (C:=C) I;refine wpAny_call (zfU I.kIn M.makes M.init (fun self=>PySem.W.Looks.of_pure (PySem.W.oi_bind self)) ?_);refine codeAny_call_builtin (by decide+kernel) PySem.F.entry_object_init ?_;have hget:((s.heap.push PySem.W.emptyDict).push (PySem.W.instObj C s.heap.objs.size)).get? (s.heap.objs.size+1)=some (PySem.W.instObj C s.heap.objs.size):=by
  have:=Heap.get?_push_size (s.heap.push PySem.W.emptyDict) (o:=PySem.W.instObj C s.heap.objs.size) rfl;rwa [Heap.size_push] at this
 refine PySem.W.check_slot (owner:="object") (n:="__init__") (by decide+kernel) (by decide+kernel) ?_ (PySem.F.args_object_init_1 _) ?_
 ·intro A Q E s' k q;unfold isInstance;refine wpAny_bind ?_;show wpAny _ _ (typeOf (.ref (s.heap.objs.size+1))) _ _ _
  refine wpAny_bind (wpAny_loadPart (k _ _ hget) (wpAny_pure ?_));exact PySem.W.looks_mroIn (M:=model X.prog X.w) I.kIn M.hm A Q E s' (fun b o z=>k b o (Heap.get?_push_of_some _ (Heap.get?_push_of_some _ z))) q
 show wpAny _ _ (pure _) _ _ _
 exact (wpAny_pure ⟨rfl,⟨.ref (s.heap.objs.size+1),_,I2,rfl,hq⟩⟩)
theorem zgt {a dx:Addr}{o u:HO}(h1:H a=none)(h2:H dx=none):Same H (upd (upd H dx o) a u):=fun b z e=>by
 rw [upd_ne (fun w=>by rw [w,h1] at e;cases e),upd_ne (fun w=>by rw [w,h2] at e;cases e)];exact e
noncomputable def vMk (C:Addr):VE:=fun _ Q=>Q (.ins C)
theorem zbC (M:Kd X.K C)(hm:X.mg x=some (.ref C))(hg:Gl X x:=by rfl)(hdb:(x==("__debug__":Str))=false:=by decide):SB X (.Call (.Name x p) [] [] pos) (vMk C):=by
 intro pins s σ H Q I ⟨F,st,Qd,ok,h,k⟩;refine wpAny_Call_Name_kw (ld_glob I hg hm ?_ hdb);refine PySem.W.callWith_K0 I.kIn M.kp (zgs M I fun a dx h1 h2 h3=>?_);refine k _ h (.ref a) _ (zgt h1 h2) ?_;unfold Rep;exact ⟨a,dx,rfl,zas⟩
structure MCal (P:Program)(w:World)(K:PySem.W.Frag)(mg:Str->Option Value)(base:Heap)(k:Nat)(m:Str)(C:Addr)(d:D):Prop where
 kd:Kd K C
 ex:∃ f fd ps,FnOk P w K mg base CX0 k f fd ps (spV K fun ds Q=>ds=[.ins C]/\Q .sh d)/\Meth K C m f/\Binds K fd ps []
theorem MCal.mono {P:Program}{w:World}{K:PySem.W.Frag}{mg:Str->Option Value}{base:Heap}{k j:Nat}{m:Str}{C:Addr}{d:D}(c:MCal P w K mg base k m C d)(h:k<=j):MCal P w K mg base j m C d:=
 ⟨c.kd,let ⟨f,fd,ps,F,a,b⟩:=c.ex;⟨f,fd,ps,F.mono h,a,b⟩⟩
noncomputable def zdB (ka:Nat->Addr)(dv:Nat->D)(n:Nat)(t:VE):VE:=fun st Q=>t st fun d=>∃ i,i<n/\d= .ins (ka i)/\Q (dv i)
theorem zeX {o:Expr}{m:Str}{apos:Pos}{t:VE}{k n:Nat}{ka:Nat->Addr}{dv:Nat->D}{pl:Sem Bool}(hc:∀ i,i<n->MCal X.prog X.w X.K X.mg X.base k m (ka i) (dv i))(hr:Room k X.A)(ho:SB X o t)
  (ht:eval (.Call (.Attribute o m apos) [] [] pos) X.env=(do
   let ov <-eval o X.env
   standAt apos.atName
   let (f,first) <-holding [ov] (getMethod ov m pl)
   callWith pos f first (backTo pos (starEach [] X.env)) (backToKw pos (keywordEach [] X.env))):=by rfl):
  SB X (.Call (.Attribute o m apos) [] [] pos) (zdB ka dv n t):=by
 intro pins s σ H Q I ⟨F,st,Qd,ok,h,k'⟩;refine zeL (te:=lB X.K t) (pl:=pl) ho I ⟨F,st,_,ok,h,fun d hd v H1 s1 r1=>?_⟩ ht;obtain ⟨i,hi,rfl,hq⟩:=hd;have r0:=r1;unfold Rep at r1;obtain ⟨a,dx,rfl,q⟩:=r1;obtain ⟨f,fd,ps,Fo,mt,hb⟩:=(hc i hi).ex;refine ⟨a,ka i,dx,[],f,rfl,q,(hc i hi).kd.cls,mt,rfl,fun s2 I2=>?_⟩;refine PySem.W.callWith_K0 (first:=[.ref a]) I2.kIn mt.kp (run_fn (us:=[.ref a]) (vs:=[.ref a]) Fo hr hb .nil zfZ I2 (.cons rfl .nil) ?_);refine ⟨[.ins (ka i)],fun md d=>md= .sh/\d=dv i,Reps.one r0,⟨rfl,rfl,rfl⟩,fun md d hd v H' F' os g r nd new=>?_⟩;obtain ⟨rfl,rfl⟩:=hd;exact k' _ hq v H' (s1.trans g.same) (r.read g.sub)
noncomputable def zft (ka:Nat->Addr)(f:Nat->Bool)(n:Nat)(t:VE):VE:=fun st Q=>t st fun d=>∃ i,i<n/\d= .ins (ka i)/\Q (.bl (f i))
theorem zha {ka:Nat->Addr}{f:Nat->Bool}{n:Nat}{c:Addr}(hk:∀ i,i<n->Kd X.K (ka i))(hf:∀ i,i<n->PySem.W.kitOne X.K (.ref (ka i)) (.ref c)=some (f i)):CallR X (.builtin "isinstance") (fun xs H Q=>∃ y i,xs=[y,.ref c]/\i<n/\Rep X.K H H (.ins (ka i)) y/\Q (.bl (f i)) H):=by
 intro pins s σ H xs us Q I rv ⟨y,i,e,hi,rd,q⟩;subst e;obtain ⟨u,v,rfl,r1,r2⟩:=Vals.two rv;cases r2;unfold Rep at rd;obtain ⟨a,dx,rfl,hq⟩:=rd;have M:=hk i hi;exact zbn I r1 (.ins hq M.cls M.ha M.hn M.htk M.hm) (hf i hi) fun tk=>zbU (I.tok tk) q rfl
theorem zb3 {e:Expr}{C:Str}{t:VE}{p1 p2 p3:Pos}{ka:Nat->Addr}{f:Nat->Bool}{n:Nat}{c:Addr}(hk:∀ i,i<n->Kd X.K (ka i))(hf:∀ i,i<n->PySem.W.kitOne X.K (.ref (ka i)) (.ref c)=some (f i))(hm:X.mg "isinstance"=none)(hc:X.mg C=some (.ref c))(ha:SB X e t)
  (hg:Gl X "isinstance":=by rfl)(hg2:Gl X C:=by rfl)(hdb:(C==("__debug__":Str))=false:=by decide)(he:starEach [e,.Name C p2] X.env=(false,eval e X.env)::starEach [.Name C p2] X.env:=by rfl)
  (he2:starEach [.Name C p2] X.env=(false,eval (.Name C p2) X.env)::starEach [] X.env:=by rfl)(hpl:(backTo p3 (starEach [.Name C p2] X.env)).any (·.1)=false:=by rfl):
  SB X (.Call (.Name "isinstance" p1) [e,.Name C p2] [] p3) (zft ka f n t):=
 PE.wk (zbz (zha hk hf) hg hm (by rfl) (zaC ha (zaC (zeH hg2 hc (v:=.ref c) rfl hdb) zbE he2) he) (by decide) (by decide) he hpl) fun σ H Q ⟨F,st,Qd,ok,h,k⟩=>
  ⟨F,st,_,ok,h,fun d hd v H1 s1 r1=>by
   obtain ⟨i,hi,rfl,hq⟩:=hd;exact ⟨v,i,rfl,hi,r1,k _ hq _ H1 s1 rfl⟩⟩
end
section
noncomputable def kdB (K:PySem.W.Frag)(C:Addr):Bool:=PySem.W.makesIn K C&&PySem.W.findIn K (.ref C) "__init__"==some (some (.builtin "object.__init__"))&&PySem.W.keepIn K (.ref C)&&PySem.W.plainGet K C Str.empty&&PySem.W.hasDictIn K C&&PySem.W.plainOver K C&&
 PySem.W.findIn K (.ref C) "__setattr__"==some (some (.builtin "object.__setattr__"))&&PySem.W.findIn K (.ref C) "__class__"==some (some (.builtin "object.__class__"))&&
 PySem.W.specialIn K (.builtin "object.__class__") "__get__"==some (some (.builtin "getset_descriptor.__get__"))&&PySem.W.takesIn K (.builtin "object.__class__")==some true&&PySem.W.mroIn K C (.type "object")==some true
theorem zbD {K:PySem.W.Frag}{C:Addr}(h:kdB K C=true):Kd K C:=by
 unfold kdB at h;simp only [Bool.and_eq_true,beq_iff_eq] at h;obtain ⟨⟨⟨⟨⟨⟨⟨⟨⟨⟨h1,h2⟩,h3⟩,h4⟩,h5⟩,h6⟩,h7⟩,h8⟩,h9⟩,h10⟩,h11⟩:=h;exact ⟨h1,h2,h3,h4,h5,h6,h7,h8,h9,h10,h11⟩
noncomputable def zkJ (K:PySem.W.Frag)(ka:Nat->Addr)(n m:Nat)(f:Nat->Nat->Bool):Bool:=(List.range n).all fun i=>(List.range m).all fun j=>PySem.W.kitOne K (.ref (ka i)) (.ref (ka j))==some (f i j)
theorem zjT {K:PySem.W.Frag}{ka:Nat->Addr}{n m:Nat}{f:Nat->Nat->Bool}(h:zkJ K ka n m f=true){i j:Nat}(hi:i<n)(hj:j<m):PySem.W.kitOne K (.ref (ka i)) (.ref (ka j))=some (f i j):=by
 unfold zkJ at h;rw [List.all_eq_true] at h;have:=h i (List.mem_range.mpr hi);rw [List.all_eq_true] at this;exact beq_iff_eq.mp (this j (List.mem_range.mpr hj))
end
open PySem PySem.Spec PyProof.Rows L2 PySem.SeqAt
section
variable {X:Cx}{o e:Expr}{ta tb:VE}{apos cpos:Pos}
noncomputable def zgu (ta:VE):VE:=fun st Q=>ta st fun d=>match d with
 | .str x=>Builtin.Str.tooLong (Txt.upper x).length=false/\Q (.str (Txt.upper x))
 |_=>False
theorem zhb:MtR X "str.upper" (fun v vs H Q=>∃ x,v= .str x/\vs=[]/\Builtin.Str.tooLong (Txt.upper x).length=false/\Q (.str (Txt.upper x)) H):=by
 intro pins s σ H x xs v us Q I rx rs h;obtain ⟨z,rfl,rfl,hl,h⟩:=h;obtain ⟨tk,rfl⟩:=(show ∃ t,v=Value.str z t from rx);cases rs;exact SC.upper hl ⟨.str _,H,I.tok _,⟨_,rfl⟩,h⟩
theorem zhc (ho:SB X o ta)(hbase:attributeBase o "upper" X.env (eval o X.env)=eval o X.env:=by rfl)(hline:(apos.endLine==cpos.line)=true:=by rfl):
  SB X (.Call (.Attribute o "upper" apos) [] [] cpos) (zgu ta):=
 PE.wk (zji PySem.F.plainAttrs_str PySem.F.slot_str_upper PySem.F.type_str_upper zhb ho hbase hline) fun σ H Q zz=>by
 obtain ⟨F,st,Qd,ok,h,k⟩:=zz;exact ⟨F,st,_,ok,h,fun d hd v H1 s1 r1=>by
   cases d with
   |str x=>
    obtain rfl:v=_:=r1;exact ⟨rfl,x,rfl,rfl,hd.1,k _ hd.2 _ H1 s1 rfl⟩
   |_=>exact hd.elim⟩
noncomputable def zjU (x:Str):Value->Bool
 | .str y _=>y==x
 |_=>false
noncomputable def ziC (K:PySem.W.Frag):V->List V->Hp->VK->Prop:=fun x vs H Q=>∃ l,∃ ys:List Str,∃ (y:Str) (k:Nat),x= .ref l/\vs=[.str y]/\SqL K H l (ys.map V.str)/\ys[k]? =some y/\(∀ m,m<k->ys[m]? ≠some y)/\ys.length<=1000/\Q (.int (k:Int)) H
theorem zgv:∀ {ys:List Str} {us:List Value},Vals (ys.map V.str) us->us.length=ys.length/\∀ (k:Nat) (v:Value),us[k]? =some v->∃ t,∃ y,ys[k]? =some y/\v= .str y t
 | [],us,h=>by
  cases h;exact ⟨rfl,fun k v e=>by simp at e⟩
 |y::ys,us,h=>by
  cases h with
  |cons r t=>
   obtain ⟨tk,rfl⟩:=r;obtain ⟨l,ih⟩:=zgv t;refine ⟨by simp [l],fun k v e=>?_⟩;cases k with
   |zero=>exact ⟨tk,y,rfl,by simpa using e.symm⟩
   |succ k=>exact ih k v (by simpa using e)
theorem zgw:MtR X "list.index" (ziC X.K):=by
 intro pins s σ H x vs v us Q I rx rv h;obtain ⟨l,ys,y,k,rfl,rfl,sq,hk,hno,hz,q⟩:=h;cases rx;obtain ⟨u,rfl,ru⟩:=rv.one;obtain ⟨t,rfl⟩:=ru;obtain ⟨its,rv1,⟨⟨oc,od,odt,osl⟩,n,e,hc,hd,hdt⟩,_⟩:=I.list sq;simp only at hc hd hdt;subst hc hd hdt;obtain ⟨hlen,hi⟩:=zgv rv1;have hkl:k<ys.length:=(List.getElem?_eq_some_iff.mp hk).1;have get:∀ m (hm:m<its.toArray.size),zjU y its.toArray[m]=decide (ys[m]? =some y):=fun m hm=>by
  obtain ⟨t2,n2,h1,h2⟩:=hi m (its.toArray[m]) (by simp [List.getElem?_eq_getElem (by simpa using hm)]);rw [h2,h1];show (n2==y)=decide (some n2=some y)
  by_cases z:n2=y<;>simp [z]
 refine call_meets F.slot_list_index ⟨_,e,rfl⟩ F.entry_list_index (F.args_list_index_2 _ _)
  (SeqAt.list_indexAt l its.toArray n none osl (.str y t) (zjU y) k (by rw [List.size_toArray];omega) (by omega) (by rw [get k (by rw [List.size_toArray];omega),decide_eq_true hk]) (fun m hm hmk=>by rw [get m hm,decide_eq_false (hno m hmk)])) ⟨e,fun z hz'=>?_,?_⟩
 ·obtain ⟨m,hm,em⟩:=List.mem_iff_getElem.mp (show z∈its by simpa using hz');obtain ⟨t2,n2,h1,h2⟩:=hi m z (by rw [List.getElem?_eq_getElem hm,em]);rw [h2];exact EqAt.str_str _ _ _ _
 ·exact ⟨.int (k:Int),H,I.tok _,⟨_,rfl⟩,q⟩
noncomputable def zeY (ta tb:VE):VE:=fun st Q=>ta st fun d=>match d with
 | .lst xs=>tb st fun e=>(match e with
  | .str y=>∃ (ys:List Str) (k:Nat),xs=ys.map D.str/\ys[k]? =some y/\(∀ m,m<k->ys[m]? ≠some y)/\ys.length<=1000/\Q (.int (k:Int))
  |_=>False)
 |_=>False
theorem zgx (ho:SB X o ta)(he:SB X e tb)(hbase:attributeBase o "index" X.env (eval o X.env)=eval o X.env:=by rfl)
  (hfew:((backTo cpos (starEach [e] X.env)).all (fun x=> !x.1)&&(backToKw cpos (keywordEach [] X.env)).all (fun x=>x.1.isSome)&&decide ([e].length+([]:List Keyword).length+(if ([]:List Keyword).isEmpty then 0 else 1)<30))=true:=by rfl)
  (hline:(apos.endLine==cpos.line)=true:=by rfl)(hst:starEach [e] X.env=(false,eval e X.env)::starEach [] X.env:=by rfl)(hpl:(backTo cpos (starEach [] X.env)).any (·.1)=false:=by rfl):
  SB X (.Call (.Attribute o "index" apos) [e] [] cpos) (zeY ta tb):=
 PE.wk (zgO PySem.F.plainAttrs_list PySem.F.slot_list_index PySem.F.type_list_index zgw ho (zaC he zbE hst) hbase hfew hline hst hpl) fun σ H Q zz=>by
 obtain ⟨F,st,Qd,ok,h,k⟩:=zz;exact ⟨F,st,_,ok,h,fun d hd v H1 s1 r1=>by
   cases d with
   |lst xs=>
    unfold Rep at r1;obtain ⟨a,vs,rfl,hq,rr⟩:=r1;refine ⟨.inl ⟨rfl,vs,hq⟩,F,st,_,ok.same s1,hd,fun e he u H2 s2 r2=>?_⟩;cases e with
    |str i=>
     have r2:u= .str i:=r2;subst r2;obtain ⟨is,j,rfl,h1,h2,h3,q⟩:=he;have ev:=zcS rr;subst ev;exact ⟨a,is,i,j,rfl,rfl,s2.seq hq,h1,h2,h3,k _ q _ H2 (s1.trans s2) (by unfold Rep;rfl)⟩
    |_=>exact he.elim
   |_=>exact hd.elim⟩
end
end VL
namespace Z
open PySem PySem.Spec PyProof.Rows L2 VL
noncomputable def top (i:Nat):Stmt:=PySem.Challenge.pw_cotreehall_k77_the_eight_kinds.main.body.getD i (.Pass ⟨0,0,0,0⟩)
theorem zlk {n:Nat}(h:n<=1000): -(2 ^ 62)<=(n:Int)/\(n:Int)<2 ^ 62:=⟨by omega,by omega⟩
local macro_rules
 | `(tactic| simp! [$ts,*] $[$l:location]?) => `(tactic| simp only [zbm, zfC, zar, zf3, zko, zax, vUn, zap, vC, vI, vI2, zbl, zj3, zcl, vOr, zgU, zbN, zad, zhZ, zdp, zjZ, vCB, zcf, zf6, zek, zcg, zeG, zbO, zbB, zeg, zh3, vSl, vP, zgE, zjr, zj2, zfE, zgb, fEq, fNe, zjo, fIx, zjv, zgX, gV, zj1, zjt, zdr, List.map_cons, List.map_nil, List.length_cons, List.length_nil, List.length_map, List.length_range, List.cons_append, List.nil_append, List.getElem?_cons_zero, List.getElem?_cons_succ, List.replicate, List.set_cons_zero, List.set_cons_succ, Nat.reduceAdd, Nat.reduceSub, Nat.reduceLeDiff, D.flat, flats, zlg, isI, zh9, zkx, zia, zie, zjF, D.dep, Int.zero_add, Int.toNat_natCast, Bool.true_and, Bool.and_true, true_and, zf7, zlf, zjH, zjI, fIn, zfo, ngt, dAt, fdD, dFD, zjJ, ziv, zlj, zg2, Option.map_some, zkF, zkG, zkH, zcR, ziM, zgr, ziz, zgG, zj4, $ts,*] $[$l:location]?)
noncomputable def zes (i j:Nat):Stmt:=match top i with
 | .ClassDef _ _ _ body .. =>body.getD j (.Pass ⟨0,0,0,0⟩)
 |s=>s
noncomputable def ka:Nat->Addr
 |0=>240
 |1=>301
 |2=>355
 |3=>409
 |4=>463
 |5=>524
 |6=>578
 |7=>632
 |_=>184
noncomputable def wd:Nat->D
 |0=>.str "sided"
 |1=>.str "rounds"
 |2=>.str "split"
 |3=>.str "steps"
 |4=>.str "joins"
 |5=>.str "ranked"
 |6=>.str "turned"
 |7=>.str "spans"
 |_=>.non
noncomputable def subF (i j:Nat):Bool:=i==j||j==8||(j==1&&(i==2||i==3||i==7))||(j==5&&i==6)
noncomputable def wz:Nat->Str
 |0=>"sided"
 |1=>"rounds"
 |2=>"split"
 |3=>"steps"
 |4=>"joins"
 |5=>"ranked"
 |6=>"turned"
 |_=>"spans"
theorem ziD:∀ {i:Nat},i<8->wd i= .str (wz i)
 |0,_=>rfl
 |1,_=>rfl
 |2,_=>rfl
 |3,_=>rfl
 |4,_=>rfl
 |5,_=>rfl
 |6,_=>rfl
 |7,_=>rfl
theorem zhB {i j:Nat}(hi:i<8)(hj:j<8)(h:wz i=wz j):i=j:=
 (by decide+kernel:∀ i,i<8->∀ j,j<8->wz i=wz j->i=j) i hi j hj h
theorem zdC (a b:Str):deq (.str a) (.str b)=decide (a=b):=by
 unfold deq;by_cases z:a=b
 ·subst z;simp
 ·rw [decide_eq_false z];exact beq_eq_false_iff_ne.mpr z
theorem in8 {b:Nat}{pre post:List Nat}(e:List.range 8=pre++b::post):b<8:=by
 have:b∈List.range 8:=by rw [e];simp
 exact List.mem_range.mp this
noncomputable def smb (n:Nat)(x:Str):Bool:=x.cps.toList.all (fun c=>decide (c<128))&&decide (x.length<=n)
theorem zcT {x:Str}(h:smb 190 x=true):(reprText x).length<=2000:=by
 unfold smb at h;rw [Bool.and_eq_true,List.all_eq_true] at h;have:=StrLaws.reprText_len x fun c hc=>Nat.lt_trans (of_decide_eq_true (h.1 c hc)) (by decide);have:=of_decide_eq_true h.2;omega
theorem zcU {x y:Str}{m n k:Nat}(hx:smb m x=true)(hy:smb n y=true)(hk:m+n<=k):smb k (x++y)=true:=by
 unfold smb at hx hy ⊢;rw [Bool.and_eq_true,List.all_eq_true] at hx hy ⊢;have e1:(x++y).cps.toList=x.cps.toList++y.cps.toList:=Array.toList_append;have e2:(x++y).length=x.length+y.length:=Array.size_append;rw [e1,e2];refine ⟨fun c hc=>(List.mem_append.mp hc).elim (hx.1 c) (hy.1 c),decide_eq_true ?_⟩;have:=of_decide_eq_true hx.2;have:=of_decide_eq_true hy.2;omega
theorem zfu {x:Str}{n:Nat}(h:smb n x=true):x.length<=n:=by
 unfold smb at h;rw [Bool.and_eq_true] at h;exact of_decide_eq_true h.2
theorem zay {x:Str}{m n:Nat}(h:smb m x=true)(hk:m<=n):smb n x=true:=by
 unfold smb at h ⊢;rw [Bool.and_eq_true] at h ⊢;exact ⟨h.1,decide_eq_true (Nat.le_trans (of_decide_eq_true h.2) hk)⟩
theorem zcV {x y:Str}(hx:smb 190 x=true)(hy:smb 190 y=true):x.length+y.length<=16777216:=by
 have:=zfu hx;have:=zfu hy;omega
theorem zhd {n:Nat}(h:n<=20):Builtin.Str.tooLong n=false:=(by decide+kernel:∀ n,n<21->Builtin.Str.tooLong n=false) n (by omega)
theorem ziE (f:Nat->Nat)(hf:∀ p,f p<128)(l:List Nat):smb l.length (Txt.join (Str.ofString "") (l.map fun p=>⟨#[f p]⟩))=true:=by
 have key:∀ (r p:List Nat),(r.map fun p=>(⟨#[f p]⟩:Str)).foldl (fun acc (q:Str)=>acc++(Str.ofString "").cps++q.cps) p.toArray=(p++r.map f).toArray:=by
  intro r
  induction r with
  |nil=>intro p;simp
  |cons q r ih=>
   intro p;rw [List.map_cons,List.foldl_cons,show (Str.ofString "").cps= #[] from rfl] at *;have e:p.toArray++ #[]++ #[f q]=(p++[f q]).toArray:=by simp
   show List.foldl _ (p.toArray++ #[]++ #[f q]) _=_
   rw [e];exact (ih _).trans (by simp)
 have e:Txt.join (Str.ofString "") (l.map fun p=>⟨#[f p]⟩)=⟨(l.map f).toArray⟩:=by
  unfold Txt.join Builtin.Str.glued;cases l with
  |nil=>rfl
  |cons p r=>exact congrArg Str.mk (key r [f p])
 rw [e];unfold smb;simp [Str.length,hf]
theorem zkK {i a:Nat}(hi:i<8)(ha:a<7):smb 20 (Txt.slice (wz i) none (some ((a:Nat):Int)))=true/\smb 20 (Txt.slice (wz i) (some ((a:Nat):Int)) none)=true/\smb 20 (Txt.upper (Txt.slice (wz i) (some ((a:Nat):Int)) (some ((a:Nat)+1:Int))))=true/\smb 20 (Txt.slice (wz i) (some ((a:Nat)+1:Int)) none)=true:=
 (by decide+kernel:∀ i,i<8->∀ a,a<7->smb 20 (Txt.slice (wz i) none (some ((a:Nat):Int)))=true/\smb 20 (Txt.slice (wz i) (some ((a:Nat):Int)) none)=true/\smb 20 (Txt.upper (Txt.slice (wz i) (some ((a:Nat):Int)) (some ((a:Nat)+1:Int))))=true/\smb 20 (Txt.slice (wz i) (some ((a:Nat)+1:Int)) none)=true) i hi a ha
theorem ziF {i:Nat}(hi:i<8):smb 6 (wz i)=true/\smb 20 (Txt.slice (wz i) none (some (-1)))=true:=
 (by decide+kernel:∀ i,i<8->smb 6 (wz i)=true/\smb 20 (Txt.slice (wz i) none (some (-1)))=true) i hi
noncomputable abbrev abc:Str:="abcdefghijklmnopqrstuvwxyz"
theorem zhC {k:Nat}(hk:k<26):∃ c:Nat,c<128/\atI abc.cps.toList ((k:Nat):Int)=some c:=by
 have h:∀ k,k<26->(match atI abc.cps.toList ((k:Nat):Int) with|some c=>decide (c<128)|none=>false)=true:=by decide+kernel
 have:=h k hk;cases e:atI abc.cps.toList ((k:Nat):Int) with
 |none=>rw [e] at this;cases this
 |some c=>rw [e] at this;exact ⟨c,of_decide_eq_true this,rfl⟩
theorem zhD {c:Nat}(h:c<128):smb 1 ⟨#[c]⟩=true:=by
 unfold smb;simp [h,Str.length]
theorem zbR {x:Int}{m:Nat}(hm:0<m):∃ k:Nat,k<m/\x % (m:Int)=(k:Int):=by
 refine ⟨(x % (m:Int)).toNat,?_,?_⟩
 ·have:=Int.emod_lt_of_pos x (by omega:(0:Int)<m);have:=Int.emod_nonneg x (by omega:(m:Int)≠0);omega
 ·have:=Int.emod_nonneg x (by omega:(m:Int)≠0);omega
theorem ziG {i:Nat}(hi:i<8):atI ((List.range 8).map fun i=>D.str (wz i)) ((i:Nat):Int)=some (.str (wz i)):=by
 rcases (by omega:i=0\/i=1\/i=2\/i=3\/i=4\/i=5\/i=6\/i=7) with rfl|rfl|rfl|rfl|rfl|rfl|rfl|rfl<;>rfl
theorem zkL {i:Nat}(hi:i<8):atI ((List.range 8).map fun i=>D.ins (ka i)) ((i:Nat):Int)=some (.ins (ka i)):=by
 rcases (by omega:i=0\/i=1\/i=2\/i=3\/i=4\/i=5\/i=6\/i=7) with rfl|rfl|rfl|rfl|rfl|rfl|rfl|rfl<;>rfl
noncomputable def za9:VF:=fun ds Q=>ds=[]/\Q .ow (.lst ((List.range 8).map fun i=>.ins (ka i)))
theorem zgy:∀ ds Q,za9 ds Q->ds.length=0:=by rintro _ Q ⟨rfl,h⟩;rfl
noncomputable def zeZ:VS:=(zbm (zf3 (zdp (zad (vMk (ka 0)) (zad (vMk (ka 1)) (zad (vMk (ka 2)) (zad (vMk (ka 3)) (zad (vMk (ka 4)) (zad (vMk (ka 5)) (zad (vMk (ka 6)) (zad (vMk (ka 7)) zbN)))))))))))
noncomputable abbrev zgz:List Str:=[]
theorem zhe:∀ ds Q,za9 ds Q->zeZ {nx:=fun _=>Q .sh .non,rt:=Q} (zbl zgz ds):=by
 rintro _ Q ⟨rfl,h⟩;simp! [zeZ,vMk];exact h
noncomputable def zbc:VF:=fun ds Q=>∃ i,i<8/\ds=[.str (wz i)]/\Q .sh (.ins (ka i))
theorem ze0:∀ ds Q,zbc ds Q->ds.length=1:=by rintro _ Q ⟨i,hi,rfl,h⟩;rfl
noncomputable def ze1:VS:=zf7
noncomputable def zcW:VS:=(zbO (zjv (gV 1) (zcg za9)
 (zeg (zcl (zax fEq (zdB ka wd 8 (zap 1)) (zap 0)))
 (zfC 1)
 zbB)) ze1)
noncomputable abbrev zcX:List Str:=["word","kind"]
theorem zfJ:∀ ds Q,zbc ds Q->zcW {nx:=fun _=>Q .sh .non,rt:=Q} (zbl zcX ds):=by
 rintro _ Q ⟨i,hi,rfl,h⟩;simp! [zcW,zdB];refine ⟨rfl,.inl rfl,?_⟩;refine zdv (fun k=>D.ins (ka k)) (List.range 8) (fun pre st=>i∉pre/\∃ o,st=[some (.sh,.str (wz i)),o]) ?_ ?_ ⟨by simp,_,rfl⟩
 ·rintro pre b post st kk e ⟨hp,o,rfl⟩ hk;have hb:=in8 e;simp! [zdB];refine ⟨b,hb,rfl,?_⟩;rw [ziD hb,zdC];refine ⟨by simp [D.dep],by simp [D.dep],if2 (fun z=>?_) fun z=>?_⟩
  ·obtain rfl:=zhB hb hi (of_decide_eq_true z);exact h
  ·refine hk _ ⟨fun y=>?_,_,rfl⟩;rcases List.mem_append.mp y with q|q
   ·exact hp q
   ·obtain rfl:i=b:=by simpa using q
    exact z (decide_eq_true rfl)
 ·rintro st ⟨hp,_⟩;exact absurd (List.mem_range.mpr hi) hp
noncomputable def zaD (cl:Kl):VX:=fun ds R _=>∃ x:Str,ds=[.str x]/\(reprText x).length<=2000/\(∀ i,i<8->x≠wz i)/\R cl.NoKind
theorem zet (cl:Kl):∀ ds R Q,zaD cl ds R Q->ds.length=1/\deps ds<1000000:=by rintro _ R Q ⟨i,rfl,h⟩;exact ⟨rfl,by simp [deps,D.dep]⟩
theorem ze2 (cl:Kl):∀ ds (R R':Addr->Prop) Q,(∀ C,R C->R' C)->zaD cl ds R Q->zaD cl ds R' Q:=by
 rintro _ R R' Q k ⟨x,rfl,h1,h2,h3⟩;exact ⟨x,rfl,h1,h2,k _ h3⟩
noncomputable def zcY (cl:Kl)(R:Addr->Prop):VS:=(zgl R cl.NoKind (vFs (zj4 (zap 0) zkD)))
noncomputable def zch (cl:Kl)(R:Addr->Prop):VS:=(zbO (zjv (gV 1) (zcg za9)
 (zeg (zcl (zax fEq (zdB ka wd 8 (zap 1)) (zap 0)))
 (zfC 1)
 zbB)) (zcY cl R))
theorem ze3 (cl:Kl):∀ ds R Q,zaD cl ds R Q->zch cl R {nx:=fun _=>Q .non,rt:=fun _ d=>Q d} (zbl zcX ds):=by
 rintro _ R Q ⟨x,rfl,h1,h2,h3⟩;simp! [zch,zdB];refine ⟨rfl,.inl rfl,?_⟩;refine zdv (fun k=>D.ins (ka k)) (List.range 8) (fun pre st=>∃ o,st=[some (.sh,.str x),o]) ?_ ?_ ⟨_,rfl⟩
 ·rintro pre b post st kk e ⟨o,rfl⟩ hk;have hb:=in8 e;simp! [zdB];refine ⟨b,hb,rfl,?_⟩;rw [ziD hb,zdC];exact ⟨by simp [D.dep],by simp [D.dep],ifF (fun z=>h2 b hb (of_decide_eq_true z).symm) (hk _ ⟨_,rfl⟩)⟩
 ·rintro st ⟨o,rfl⟩;simp! [zcY,zgl,vFs,zj4,zkD];exact ⟨_,rfl,h1,fun _=>h3⟩
noncomputable def zau:VF:=fun ds Q=>∃ n k:Int,ds=[.int n,.int k]/\bts n<=4000000/\bts k<=4000000/\Q .sh (.int (zfn n k))
theorem zeu:∀ ds Q,zau ds Q->ds.length=2:=by rintro _ Q ⟨p,k,rfl,h⟩;rfl
noncomputable def zci:VS:=(zbm (zar (zax (vI2 (fun _ j=>0<j) fun i j=>.int (i % j)) (zax (vI2 IntMulOk fun i j=>.int (i * j)) (zax (vI fun i j=>.int (i+j)) (zax (vI fun i j=>.int (i+j)) (zax (vI2 IntMulOk fun i j=>.int (i * j)) (zap 0) (zap 0)) (zax (vI2 IntMulOk fun i j=>.int (i * j)) (zap 1) (zap 0))) (zax (vI2 IntMulOk fun i j=>.int (i * j)) (zax (vI2 IntMulOk fun i j=>.int (i * j)) (vC (.int 7)) (zap 1)) (zap 1))) (vC (.int 1103515245))) (vC (.int 2147483629)))))
noncomputable abbrev zdl:List Str:=["_law_number","_law_k"]
theorem ze4:∀ ds Q,zau ds Q->zci {nx:=fun _=>Q .sh .non,rt:=Q} (zbl zdl ds):=by
 rintro _ Q ⟨n,k,rfl,hn,hk,h⟩;simp! [zci];rw [zif] at h;have h7:bts 7<=64:=by decide
 exact ⟨zid hn hn (by decide),zid hk hn (by decide),zeV h7,zid (zgf h7 hk) hk (by decide),zgg (by decide),by decide,h⟩
noncomputable def zaj:VF:=fun ds Q=>ds=[]/\Q .ow (.lst ((List.range 8).map fun i=>.str (wz i)))
theorem zc3:∀ ds Q,zaj ds Q->ds.length=0:=by rintro _ Q ⟨rfl,h⟩;rfl
noncomputable def zbq:VS:=(zbm (zf3 (zdp (zad (vC (.str "sided")) (zad (vC (.str "rounds")) (zad (vC (.str "split")) (zad (vC (.str "steps")) (zad (vC (.str "joins")) (zad (vC (.str "ranked")) (zad (vC (.str "turned")) (zad (vC (.str "spans")) zbN)))))))))))
noncomputable abbrev zcp:List Str:=[]
theorem zdD:∀ ds Q,zaj ds Q->zbq {nx:=fun _=>Q .sh .non,rt:=Q} (zbl zcp ds):=by
 rintro _ Q ⟨rfl,h⟩;simp! [zbq];exact h
noncomputable def zaQ:VF:=fun ds Q=>∃ c:Int,ds=[.int c]/\bts c<=1048576/\∀ x:Str,(reprText x).length<=2000->Q .sh (.str x)
theorem zdE:∀ ds Q,zaQ ds Q->ds.length=1:=by rintro _ Q ⟨c,rfl,h⟩;rfl
noncomputable def zbG:VS:=(zfC 2)
noncomputable def zbH:VS:=(zbO (zeg (zcl (zax fEq (zap 3) (vC (.int 5))))
 (zbm (zar (ziz (vC (.str "")) (zad (zhZ (zfE (zj2 (zad (zax (vI2 (fun _ j=>0<j) fun i j=>.int (i % j)) (zcf zau (zad (zap 0) (zad (vC (.int 4)) zbN))) (vC (.int 10))) zbN)) zgb (zax ziM (zap 6) (zax (vI2 (fun _ j=>0<j) fun i j=>.int (i % j)) (zcf zau (zad (zax (vI fun i j=>.int (i+j)) (zap 1) (zax (vI2 IntMulOk fun i j=>.int (i * j)) (zap 0) (zap 0))) (zad (zap 0) zbN))) (vC (.int 26)))))) zbN))))
 zbB) zbG)
noncomputable def zb4:VS:=(zbO (zeg (zcl (zax fEq (zap 3) (vC (.int 4))))
 (zbm (zar (zax zcR (zap 2) (zax fIx (zap 1) (zax (vI2 (fun _ j=>0<j) fun i j=>.int (i % j)) (zcf zau (zad (zap 0) (zad (vC (.int 3)) zbN))) (vC (.int 8)))))))
 zbB) zbH)
noncomputable def zb5:VS:=(zbO (zeg (zcl (zax fEq (zap 3) (vC (.int 3))))
 (zbm (zar (zax zcR (zax zcR (zgG (zap 2) zgE (vP (zap 4))) (zgu (zgG (zap 2) (vP (zap 4)) (vP (zax (vI fun i j=>.int (i+j)) (zap 4) (vC (.int 1))))))) (zgG (zap 2) (vP (zax (vI fun i j=>.int (i+j)) (zap 4) (vC (.int 1)))) zgE))))
 zbB) zb4)
noncomputable def zb6:VS:=(zbO (zeg (zcl (zax fEq (zap 3) (vC (.int 2))))
 (zbm (zar (zax zcR (zax zcR (zgG (zap 2) zgE (vP (zap 4))) (vC (.str " "))) (zgG (zap 2) (vP (zap 4)) zgE))))
 zbB) zb5)
noncomputable def zb7:VS:=(zbO (zeg (zcl (zax fEq (zap 3) (vC (.int 1))))
 (zbm (zar (zax zcR (zax zcR (zgG (zap 2) zgE (vP (zap 4))) (zax ziM (zap 5) (zax (vI2 (fun _ j=>0<j) fun i j=>.int (i % j)) (zcf zau (zad (zap 0) (zad (vC (.int 2)) zbN))) (vC (.int 26))))) (zgG (zap 2) (vP (zap 4)) zgE))))
 zbB) zb6)
noncomputable def zb8:VS:=(zbO (zeg (zcl (zax fEq (zap 3) (vC (.int 0))))
 (zbm (zar (zgG (zap 2) zgE (vP (vUn (fun i=> -i) (vC (.int 1)))))))
 zbB) zb7)
noncomputable def zb9:VS:=(zbO (zeG 5 (zar (vC (.str "abcdefghijklmnopqrstuvwxyz")))) zb8)
noncomputable def zca:VS:=(zbO (zeG 4 (zar (zax (vI2 (fun _ j=>0<j) fun i j=>.int (i % j)) (zcf zau (zad (zap 0) (zad (vC (.int 1)) zbN))) (zax (vI fun i j=>.int (i+j)) (vCB zgr (zad (zap 2) zbN)) (vC (.int 1)))))) zb9)
noncomputable def zcb:VS:=(zbO (zeG 3 (zar (zax (vI2 (fun _ j=>0<j) fun i j=>.int (i % j)) (zax (vI2 zgS fun i j=>.int (i / j)) (zap 0) (vC (.int 8))) (vC (.int 8))))) zca)
noncomputable def zcc:VS:=(zbO (zeG 2 (zar (zax fIx (zap 1) (zax (vI2 (fun _ j=>0<j) fun i j=>.int (i % j)) (zap 0) (vC (.int 8)))))) zcb)
noncomputable def zbS:VS:=(zbO (zeG 1 (zcg zaj)) zcc)
noncomputable abbrev zcZ:List Str:=["_law_cell","_law_words_here","_law_word_here","_law_choice","_law_at","_law_letters"]
theorem zev:∀ ds Q,zaQ ds Q->zbS {nx:=fun _=>Q .sh .non,rt:=Q} (zbl zcZ ds):=by
 rintro _ Q ⟨c,rfl,hc,h⟩;simp! [zbS];refine ⟨rfl,.inl rfl,?_⟩;obtain ⟨i,hi,ei⟩:=zbR (x:=c) (m:=8) (by decide);simp! [zcc];rw [show c % 8=(i:Int) from ei,ziG hi];refine ⟨by decide,rfl,?_⟩;simp! [zcb];refine ⟨zkz (by decide) (by decide),by decide,?_⟩;obtain ⟨ch,-,ec⟩:=zbR (x:=c / 8) (m:=8) (by decide);rw [show c / 8 % 8=(ch:Int) from ec];simp! [zca];refine ⟨c,1,rfl,zb0 hc (by decide),by decide,?_⟩;have w6:=ziF hi;have l6:=zfu w6.1;obtain ⟨a,ha,ea⟩:=zbR (x:=zfn c 1) (m:=(wz i).length+1) (by omega);have ha7:a<7:=by omega
 obtain ⟨s1,s2,s3,s4⟩:=zkK hi ha7;refine ⟨Nat.le_trans l6 (by decide),(by omega:(0:Int)<((wz i).length:Int)+1),?_⟩;rw [show zfn c 1 % (((wz i).length:Int)+1)=(a:Int) from ea];have two:∀ k:Int,bts k<=64->bts k<=4000000:=fun k hk=>zb0 hk (by decide);have cb:bts c<=4000000:=zb0 hc (by decide);have big:(wz i).length<=16777216:=Nat.le_trans l6 (by decide);simp! [zb9];simp! [zb8];refine ⟨by decide,if2 (fun _=>⟨big,h _ (zcT (zay w6.2 (by decide)))⟩) fun _=>?_⟩;simp! [zb7];refine ⟨by decide,if2 (fun _=>?_) fun _=>?_⟩
 ·obtain ⟨k,hk,ek⟩:=zbR (x:=zfn c 2) (m:=26) (by decide);obtain ⟨d,hd,ed⟩:=zhC hk;have o1:=zcU s1 (zhD hd) (by decide:20+1<=30);refine ⟨big,c,2,rfl,cb,by decide,by decide,by decide+kernel,?_⟩;rw [show zfn c 2 % 26=(k:Int) from ek,show atI (Str.ofString "abcdefghijklmnopqrstuvwxyz").cps.toList (k:Int)=some d from ed];exact ⟨zcV (zay s1 (by decide)) (zay (zhD hd) (by decide)),big,zcV (zay o1 (by decide)) (zay s2 (by decide)),h _ (zcT (zcU o1 s2 (by decide)))⟩
 simp! [zb6];refine ⟨by decide,if2 (fun _=>?_) fun _=>?_⟩
 ·have sp:smb 1 (Str.ofString " ")=true:=by decide+kernel
  have o1:=zcU s1 sp (by decide:20+1<=30);exact ⟨big,zcV (zay s1 (by decide)) (zay sp (by decide)),big,zcV (zay o1 (by decide)) (zay s2 (by decide)),h _ (zcT (zcU o1 s2 (by decide)))⟩
 simp! [zb5,zgu];refine ⟨by decide,if2 (fun _=>?_) fun _=>?_⟩
 ·have o1:=zcU s1 s3 (by decide:20+20<=40);exact ⟨big,big,zhd (zfu s3),zcV (zay s1 (by decide)) (zay s3 (by decide)),big,zcV (zay o1 (by decide)) (zay s4 (by decide)),h _ (zcT (zcU o1 s4 (by decide)))⟩
 simp! [zb4];refine ⟨by decide,if2 (fun _=>?_) fun _=>?_⟩
 ·obtain ⟨k,hk,ek⟩:=zbR (x:=zfn c 3) (m:=8) (by decide);refine ⟨c,3,rfl,cb,by decide,by decide,?_⟩;rw [show zfn c 3 % 8=(k:Int) from ek,ziG hk];exact ⟨zcV (zay w6.1 (by decide)) (zay (ziF hk).1 (by decide)),h _ (zcT (zcU w6.1 (ziF hk).1 (by decide)))⟩
 simp! [zbH];refine ⟨by decide,if2 (fun _=>?_) fun _=>?_⟩
 ·obtain ⟨k,hk,ek⟩:=zbR (x:=zfn c 4) (m:=10) (by decide);refine ⟨c,4,rfl,cb,by decide,by decide,?_⟩;rw [show zfn c 4 % 10=(k:Int) from ek];simp! [];have lt:∀ p:Nat,∃ d:Nat,d<128/\atI abc.cps.toList (zfn (c+(p:Int) * (p:Int)) (p:Int) % 26)=some d:=fun p=>by
   obtain ⟨k,hk,ek⟩:=zbR (x:=zfn (c+(p:Int) * (p:Int)) (p:Int)) (m:=26) (by decide);rw [show zfn (c+(p:Int) * (p:Int)) (p:Int) % 26=(k:Int) from ek];exact zhC hk
  refine ⟨zlk (by omega),Nat.le_trans (by omega:k<=1000) (by decide),?_⟩;refine zfm zkA (fun p=>.str ⟨#[(lt p).choose]⟩) (List.range k) _ (fun p hp Q h=>?_) ?_
  ·have hp:=List.mem_range.mp hp;have h64:bts (p:Int)<=64:=zgh (by omega) (by omega);simp! [];refine ⟨zgg h64,_,_,rfl,zb0 (zic hc (zb0 (zgf h64 h64) (by decide))) (by decide),two _ h64,by decide,by decide+kernel,?_⟩;rw [show atI (Str.ofString "abcdefghijklmnopqrstuvwxyz").cps.toList (zfn (c+(p:Int) * (p:Int)) (p:Int) % 26)=some (lt p).choose from (lt p).choose_spec.2];exact h
  ·refine ⟨(List.range k).map fun p=>⟨#[(lt p).choose]⟩,by rw [List.map_map];rfl,?_,h _ (zcT (zay (ziE (fun p=>(lt p).choose) (fun p=>(lt p).choose_spec.1) _) (by rw [List.length_range];omega)))⟩;have e:∀ l:List Nat,((l.map fun p=>(⟨#[(lt p).choose]⟩:Str)).map fun x=>x.length).sum=l.length:=by
    intro l
    induction l with
    |nil=>rfl
    |cons p r ih=>rw [List.map_cons,List.map_cons,List.sum_cons,ih,List.length_cons,Nat.add_comm];rfl
   rw [e,show (Str.ofString "").length=0 from rfl,Nat.mul_zero,List.length_range];omega
 simp! [zbG];exact h _ (zcT (zay w6.1 (by decide)))
noncomputable def zaE:VF:=fun ds Q=>∃ i,i<8/\ds=[.ins (ka i)]/\Q .ow (.lst ((List.range 8).map fun j=>.bl (subF i j)))
theorem zc4:∀ ds Q,zaE ds Q->ds.length=1:=by rintro _ Q ⟨c,hi,rfl,h⟩;rfl
noncomputable def zbI:VS:=(zbm (zf3 (zjr (zap 1) (zhZ (zdp (zad (zft ka (fun i=>subF i 7) 8 (zap 0)) zbN))))))
noncomputable def zbJ:VS:=(zbO (zeG 1 (zf3 (zjr (zap 1) (zhZ (zdp (zad (zft ka (fun i=>subF i 4) 8 (zap 0)) (zad (zft ka (fun i=>subF i 5) 8 (zap 0)) (zad (zft ka (fun i=>subF i 6) 8 (zap 0)) zbN)))))))) zbI)
noncomputable def zbr:VS:=(zbO (zeG 1 (zf3 (zdp (zad (zft ka (fun i=>subF i 0) 8 (zap 0)) (zad (zft ka (fun i=>subF i 1) 8 (zap 0)) (zad (zft ka (fun i=>subF i 2) 8 (zap 0)) (zad (zft ka (fun i=>subF i 3) 8 (zap 0)) zbN))))))) zbJ)
noncomputable abbrev zcq:List Str:=["_law_kind","_law_found"]
theorem zdF:∀ ds Q,zaE ds Q->zbr {nx:=fun _=>Q .sh .non,rt:=Q} (zbl zcq ds):=by
 rintro _ Q ⟨i,hi,rfl,h⟩;simp! [zbr,zft];refine ⟨i,hi,rfl,i,hi,rfl,i,hi,rfl,i,hi,rfl,?_⟩;simp! [zbJ,zft];refine ⟨i,hi,rfl,i,hi,rfl,i,hi,rfl,by decide,?_⟩;simp! [zbI,zft];exact ⟨i,hi,rfl,by decide,h⟩
noncomputable def zal:VF:=fun ds Q=>∃ i,i<8/\ds=[.ins (ka i),zkA i]/\Q .sh (.bl true)
theorem zct:∀ ds Q,zal ds Q->ds.length=2:=by rintro _ Q ⟨c,hi,rfl,h⟩;rfl
noncomputable def zaU:VS:=(zbm (zar (zax fEq (zcf zaE (zad (zap 0) zbN)) (zap 3))))
noncomputable def zaV:VS:=(zbO (zjt 3 (zar (zax fIn (zap 1) (zjZ (zad (vC (.int 5)) (zad (vC (.int 6)) zbN))))) (vC (.int 5))) zaU)
noncomputable def zbh:VS:=(zbO (zjt 3 (zar (zko (zax fIn (zap 1) (zjZ (zad (vC (.int 1)) (zad (vC (.int 2)) (zad (vC (.int 3)) zbN))))) (zax fEq (zap 1) (vC (.int 7))))) (vC (.int 1))) zaV)
noncomputable def zbi:VS:=(zbO (zeG 3 (zf3 (zfE (zj2 (zad (vC (.int 8)) zbN)) zgb (zax fEq (zap 0) (zap 2))))) zbh)
noncomputable def zbj:VS:=(zbO (zeg (vOr (zgU (zcl (zj3 zia (zap 2)))) (zcl (zax fNe (zap 2) (zax fIx (zek zaj) (zap 1)))))
 (zbm (zar (vC (.bl false))))
 zbB) zbi)
noncomputable def zbk:VS:=(zbO (zeG 2 (zar (zdB ka wd 8 (zap 0)))) zbj)
noncomputable def zba:VS:=(zbO (zeg (zgU (zcl (zft ka (fun i=>subF i 8) 8 (zap 0))))
 (zbm (zar (vC (.bl false))))
 zbB) zbk)
noncomputable abbrev zbK:List Str:=["_law_kind","_law_at","_law_word_here","_law_due"]
theorem zc0:∀ ds Q,zal ds Q->zba {nx:=fun _=>Q .sh .non,rt:=Q} (zbl zbK ds):=by
 rintro _ Q ⟨i,hi,rfl,h⟩;simp! [zba,zft];refine ⟨i,hi,rfl,ifF (by simp [subF]) ?_⟩;simp! [zbk,zdB];refine ⟨i,hi,rfl,?_⟩;rw [ziD hi];refine ⟨rfl,?_⟩;simp! [zbj,noI];refine ifF (by decide) ⟨rfl,?_⟩;simp! [];rw [ziG hi];refine ⟨by simp [D.dep],ifF (by rw [zbX];decide) ?_⟩;simp! [zbi];refine ⟨by decide,by decide,?_⟩;refine zfm zkA (fun k=>.bl (decide (k=i))) (List.range 8) _ (fun k hk Q h=>?_) ?_
 ·simp! [];refine ⟨by decide,?_⟩;rwa [show decide ((k:Int)=(i:Int))=decide (k=i) from decide_eq_decide.mpr (by omega)]
 refine ⟨zcM (fun t=>by simp [D.flat]) _,?_⟩;rcases (by omega:i=0\/i=1\/i=2\/i=3\/i=4\/i=5\/i=6\/i=7) with rfl|rfl|rfl|rfl|rfl|rfl|rfl|rfl
 all_goals
  simp! [zbh]
  first|refine ⟨by decide,by decide,ifT (by decide+kernel) ?_⟩|refine ⟨by decide,by decide,ifF (by decide+kernel) ⟨by decide,?_⟩⟩
  show zaV {nx:=fun x=>Q Md.sh D.non,rt:=Q} [_,_,_,some (.ow,.lst _)];simp! [zaV];refine ⟨by decide,by decide,?_⟩;show zaU {nx:=fun x=>Q Md.sh D.non,rt:=Q} [_,_,_,some (.ow,.lst _)];simp! [zaU];refine ⟨_,hi,rfl,by decide+kernel,by decide+kernel,?_⟩;refine Eq.mp (congrArg (fun b=>Q .sh (.bl b)) (?_:true=_)) h;decide+kernel
noncomputable def zam:VF:=fun ds Q=>∃ x:Str,ds=[.str x]/\(reprText x).length<=2000/\(∀ i,i<8->x≠wz i)/\Q .sh (.bl true)
theorem zcu:∀ ds Q,zam ds Q->ds.length=1/\deps ds<1000000:=by rintro _ Q ⟨l,rfl,h⟩;exact ⟨rfl,by simp [deps,D.dep]⟩
noncomputable def zaW (cl:Kl)(C:Addr)(d:D):Prop:=C=cl.NoKind/\d= .bl true
theorem zcv:∀ ds Q,zam ds Q->zam ds fun _=>Q .sh:=fun _ _ h=>h
noncomputable def zaO:VS:=(zeG 1 (zar (vC .non)))
noncomputable def zaP (cl:Kl)(R:Addr->Prop):VS:=(zh3 (zgk (zaD cl) R (zad (zap 0) zbN)))
noncomputable def za3 (K:PySem.W.Frag)(cl:Kl):TS:=(zkN (zkO (tOr (tB (zir K 1 ([cl.NoPoint,cl.NoWeb,cl.NoTie].map Value.ref))) (tB (zir K 1 ([cl.NoText,cl.NoRow,cl.NoName].map Value.ref)))) (zj9 (tC (.bl false))) zi1) (zj9 (ziZ (zir K 1 [.ref cl.NoKind]) (zir K 1 [.type "ValueError"]))))
noncomputable abbrev zbL:List Str:=["_law_word_here","_law_caught","e"]
theorem zcj {K:PySem.W.Frag}{cl:Kl}
  (fe_NoKind:PySem.W.exmOne K (.ref cl.NoKind) (.ref cl.HallError)=some true)(fx_NoKind:za1 K cl.NoKind=true)(f0_NoKind:PySem.W.kitAny K (.ref cl.NoKind) ([cl.NoPoint,cl.NoWeb,cl.NoTie].map Value.ref)=some false)(f1_NoKind:PySem.W.kitAny K (.ref cl.NoKind) ([cl.NoText,cl.NoRow,cl.NoName].map Value.ref)=some false)(f2_NoKind:PySem.W.kitAny K (.ref cl.NoKind) [.ref cl.NoKind]=some true)(f3_NoKind:PySem.W.kitAny K (.ref cl.NoKind) [.type "ValueError"]=some true):
  ∀ C d,zaW cl C d->PySem.W.exmOne K (.ref C) (.ref cl.HallError)=some true/\zhz K (za3 K cl) 1 C d:=by
 rintro C d ⟨rfl,rfl⟩;refine ⟨fe_NoKind,?_⟩;intro De σ H e h1 h2 hq;refine ⟨e,_,false,h1,h2,fx_NoKind,f0_NoKind,fun H1 s1=>⟨_,rfl,?_⟩⟩;refine zkV ⟨e,_,false,h1,s1 _ _ h2,fx_NoKind,f1_NoKind,fun H2 s2=>⟨_,rfl,zkV ?_⟩⟩;have e2:=s2 _ _ (s1 _ _ h2);refine ⟨e,_,true,h1,e2,fx_NoKind,f2_NoKind,fun H3 s3=>⟨_,rfl,?_⟩⟩;refine ifT rfl ⟨e,_,true,h1,s3 _ _ e2,fx_NoKind,f3_NoKind,fun H4 s4=>hq _ _ rfl⟩
theorem zc1 (cl:Kl):∀ ds (Q:D->Prop) (R:Addr->Prop),zam ds (fun _=>Q)->(∀ C d,zaW cl C d->Q d->R C)->zaO {nx:=fun st=>zaP cl R {nx:=fun _=>False,rt:=fun _ _=>False} st,rt:=fun _ _=>False} (zbl zbL ds):=by
 rintro _ Q R ⟨x,rfl,h1,h2,h⟩ hr;simp! [zaO,zaP,zgk];exact ⟨x,rfl,h1,h2,hr _ _ ⟨rfl,rfl⟩ h⟩
noncomputable def zbs:VS:=(zj1 3 (zar (zax fIx (zap 3) (vC (.int 0)))))
noncomputable def zc2:VS:=(zbO (zfo 3 (zax (vI2 IntMulOk fun i j=>.int (i * j)) (vC (.int 3)) (zap 2))) zbs)
noncomputable def zew:VS:=(zbO (zgX (gV 4) (zad (vC (.int 8)) zbN)
 (zeg (vOr (zgU (zcl (zcf zal (zad (zax fIx (zap 3) (zap 4)) (zad (zap 4) zbN))))) (zgU (zcl (zcf zal (zad (zax fIx (zap 1) (zap 4)) (zad (zap 4) zbN))))))
 (zbm (zar (vC (.bl false))))
 zbB)) zc2)
noncomputable def zex:VS:=(zbO (zeg (vOr (zgU (zcl (zj3 zh9 (zap 3)))) (zcl (zax fNe (vCB zjo (zad (zap 3) zbN)) (vC (.int 8)))))
 (zbm (zar (vC (.bl false))))
 zbB) zew)
noncomputable def zey:VS:=(zeg (zcl (zax fIn (zap 6) (zek zaj)))
 (zeg (zgU (zcl (zcf zal (zad (zcf zbc (zad (zap 6) zbN)) (zad (zeY (zek zaj) (zap 6)) zbN)))))
 (zbm (zar (vC (.bl false))))
 zbB)
 (zeg (zgU (zcl (zcf zam (zad (zap 6) zbN))))
 (zbm (zar (vC (.bl false))))
 zbB))
noncomputable def zgA:VS:=(zbm (zar (vC (.bl true))))
noncomputable def zdG:VS:=(zbO (zjv (gV 5) (zf3 (zjr (zhZ (zdp (zad (vC (.int 48)) zbN))) (zhZ (vSl (zap 0) zgE (vP (vC (.int 63)))))))
 (zbO (zeG 6 (zf6 zaQ (zad (zap 5) zbN))) zey)) zgA)
noncomputable def zgB:VS:=(zbO (zgX (gV 2) (zad (vC (.int 2)) zbN)
 (zbO (zeG 3 (zcg za9)) zex)) zdG)
noncomputable def ziH:VS:=(zbO (zeG 1 (zf3 (zdp (zad (vMk (ka 0)) (zad (vMk (ka 1)) (zad (vMk (ka 2)) (zad (vMk (ka 3)) (zad (vMk (ka 4)) (zad (vMk (ka 5)) (zad (vMk (ka 6)) (zad (vMk (ka 7)) zbN))))))))))) zgB)
noncomputable abbrev zjV:List Str:=["_law_script","_law_made","_law_k","_law_found","_law_at","_law_cell","_law_word_here"]
theorem ziI:∀ ds Q,zjD ds Q->ds.length=1:=by rintro _ Q ⟨ns,rfl,h⟩;rfl
theorem zjW:∀ ds Q,zjD ds Q->ziH {nx:=fun _=>Q .sh .non,rt:=Q} (zbl zjV ds):=by
 rintro _ Q ⟨ns,rfl,hl,hb,h⟩;simp! [ziH,vMk];simp! [zgB];refine ⟨by decide,?_⟩;refine zfl 2 (fun k st=>∃ o2 o3 o4 o5 o6,st=[some (.sh,.lst (ns.map D.int)),some (.ow,.lst ((List.range 8).map fun i=>.ins (ka i))),o2,o3,o4,o5,o6]) ?_ ?_ ⟨_,_,_,_,_,rfl⟩
 ·rintro k st kk hk ⟨o2,o3,o4,o5,o6,rfl⟩ hkk;simp! [];refine ⟨rfl,.inl rfl,?_⟩;simp! [zex,noI];refine ifF (by decide) ⟨by decide,ifF (by decide) ?_⟩;simp! [zew];refine ⟨by decide,?_⟩;refine zfl 8 (fun j st=>∃ o4,st=[some (.sh,.lst (ns.map D.int)),some (.ow,.lst ((List.range 8).map fun i=>.ins (ka i))),some (.sh,.int (k:Int)),some (.ow,.lst ((List.range 8).map fun i=>.ins (ka i))),o4,o5,o6]) ?_ ?_ ⟨_,rfl⟩
  ·rintro j st k2 hj ⟨o4,rfl⟩ hk2;simp! [];rw [zkL hj];exact ⟨j,hj,rfl,ifF (by decide) ⟨j,hj,rfl,ifF (by decide) (hk2 _ ⟨_,rfl⟩)⟩⟩
  ·rintro st ⟨o4,rfl⟩;rcases (by omega:k=0\/k=1) with rfl|rfl
   ·simp! [zc2];refine ⟨(by intro z;cases z),zeV (by decide),?_⟩;show zbs {nx:=kk,rt:=Q,bk:=zdG {nx:=fun x=>Q Md.sh D.non,rt:=Q},ct:=kk} [some (Md.sh,D.lst (List.map D.int ns)),some (Md.ow,D.lst (List.map (fun i=>D.ins (ka i)) (List.range 8))),some (Md.sh,D.int ((0:Nat):Int)),some (Md.ow,D.lst [.ins (ka 1),.ins (ka 2),.ins (ka 3),.ins (ka 4),.ins (ka 5),.ins (ka 6),.ins (ka 7)]),o4,o5,o6];simp! [zbs];exact ⟨rfl,by decide,hkk _ ⟨_,_,_,_,_,rfl⟩⟩
   ·simp! [zc2];refine ⟨(by intro z;cases z),zeV (by decide),?_⟩;show zbs {nx:=kk,rt:=Q,bk:=zdG {nx:=fun x=>Q Md.sh D.non,rt:=Q},ct:=kk} [some (Md.sh,D.lst (List.map D.int ns)),some (Md.ow,D.lst (List.map (fun i=>D.ins (ka i)) (List.range 8))),some (Md.sh,D.int ((1:Nat):Int)),some (Md.ow,D.lst [.ins (ka 0),.ins (ka 1),.ins (ka 2),.ins (ka 4),.ins (ka 5),.ins (ka 6),.ins (ka 7)]),o4,o5,o6];simp! [zbs];exact ⟨rfl,by decide,hkk _ ⟨_,_,_,_,_,rfl⟩⟩
 ·rintro st ⟨o2,o3,o4,o5,o6,rfl⟩;simp! [zdG];rw [show (some (63:Int))=some ((63:Nat):Int) from rfl,zjG,<-List.map_take];refine ⟨by rw [List.length_map];exact Nat.le_trans (by simp;omega:_<=1000) (by decide),zcM (fun t=>by simp [D.flat]) _,?_⟩;rw [<-List.map_cons];refine zdv D.int (48::ns.take 63) (fun pre st=>∃ o2 o3 o4 o5 o6,st=[some (.sh,.lst (ns.map D.int)),some (.ow,.lst ((List.range 8).map fun i=>.ins (ka i))),o2,o3,o4,o5,o6]) ?_ ?_ ⟨_,_,_,_,_,rfl⟩
  ·rintro pre c post st kk e ⟨o2,o3,o4,o5,o6,rfl⟩ hkk;have hc:bts c<=1048576:=by
    have:c∈48::ns.take 63:=by rw [e];simp
    rcases List.mem_cons.mp this with z|z
    ·subst z;decide
    ·exact hb c (List.mem_of_mem_take z)
   simp! [];refine ⟨c,rfl,hc,fun x hx=>⟨.inr ⟨rfl,rfl⟩,?_⟩⟩;simp! [zey,zeY];refine ⟨rfl,?_⟩;simp! [];refine ⟨by decide,by simp [D.dep],?_⟩;by_cases z:∃ i,i<8/\x=wz i
   ·obtain ⟨i,hi,rfl⟩:=z;refine ifT (List.any_eq_true.mpr ⟨_,List.mem_map.mpr ⟨i,List.mem_range.mpr hi,rfl⟩,zbX _⟩) ⟨i,hi,rfl,rfl,(List.range 8).map wz,i,by rw [List.map_map];rfl,by rw [List.getElem?_map,List.getElem?_range hi];rfl,fun m hm=>?_,by decide,i,hi,rfl,ifF (by decide) (hkk _ ⟨_,_,_,_,_,rfl⟩)⟩;rw [List.getElem?_map,List.getElem?_range (Nat.lt_trans hm hi)];intro y;have:=zhB (Nat.lt_trans hm hi) hi (Option.some.inj y);omega
   ·have nz:∀ i,i<8->x≠wz i:=fun i hi e=>z ⟨i,hi,e⟩;refine ifF (fun y=>?_) ⟨x,rfl,hx,nz,ifF (by decide) (hkk _ ⟨_,_,_,_,_,rfl⟩)⟩;obtain ⟨d,hd,hz⟩:=List.any_eq_true.mp y;obtain ⟨i,hi,rfl⟩:=List.mem_map.mp hd;rw [zdC] at hz;exact nz i (List.mem_range.mp hi) (of_decide_eq_true hz).symm
  ·rintro st ⟨o2,o3,o4,o5,o6,rfl⟩;simp! [zgA];exact h
section
variable {P:Program}{w:World}{K:PySem.W.Frag}{mg:Str->Option Value}{base:Heap}
noncomputable abbrev zaF:Stmt:=zes 12 0
noncomputable abbrev zez:List Str:=["self"]
theorem zdH:FnScope zez ["self"] (zaa zaF):=⟨rfl,rfl,rfl,by decide+kernel,rfl,by decide+kernel,by decide+kernel⟩
noncomputable def zbt:VS:=(zbm (zar (vC (.str "sided"))))
theorem zdI {f:Addr}{fd:FuncData}(F:Fun K "word" "Sided.word" zaF f fd):FnOk P w K mg base CX0 1 f fd ["self"] (spV K fun ds Q=>ds=[.ins (ka 0)]/\Q .sh (wd 0)):=
 okV (t:=zbt) F zdH (by rintro _ Q ⟨rfl,h⟩;rfl) (fun cdv A outer s H E hr=>by unfold zbt;exact (zah (zaT (zae zaN)))) (by rintro _ Q ⟨rfl,h⟩;unfold zbt zbm zar vC;exact ⟨rfl,h⟩)
noncomputable abbrev zaz:Stmt:=zes 13 0
noncomputable abbrev zdJ:List Str:=["self"]
theorem zc5:FnScope zdJ ["self"] (zaa zaz):=⟨rfl,rfl,rfl,by decide+kernel,rfl,by decide+kernel,by decide+kernel⟩
noncomputable def zbe:VS:=(zbm (zar (vC (.str "rounds"))))
theorem zc6 {f:Addr}{fd:FuncData}(F:Fun K "word" "Rounds.word" zaz f fd):FnOk P w K mg base CX0 1 f fd ["self"] (spV K fun ds Q=>ds=[.ins (ka 1)]/\Q .sh (wd 1)):=
 okV (t:=zbe) F zc5 (by rintro _ Q ⟨rfl,h⟩;rfl) (fun cdv A outer s H E hr=>by unfold zbe;exact (zah (zaT (zae zaN)))) (by rintro _ Q ⟨rfl,h⟩;unfold zbe zbm zar vC;exact ⟨rfl,h⟩)
noncomputable abbrev zaG:Stmt:=zes 14 0
noncomputable abbrev zeA:List Str:=["self"]
theorem zdK:FnScope zeA ["self"] (zaa zaG):=⟨rfl,rfl,rfl,by decide+kernel,rfl,by decide+kernel,by decide+kernel⟩
noncomputable def zbu:VS:=(zbm (zar (vC (.str "split"))))
theorem zdL {f:Addr}{fd:FuncData}(F:Fun K "word" "Split.word" zaG f fd):FnOk P w K mg base CX0 1 f fd ["self"] (spV K fun ds Q=>ds=[.ins (ka 2)]/\Q .sh (wd 2)):=
 okV (t:=zbu) F zdK (by rintro _ Q ⟨rfl,h⟩;rfl) (fun cdv A outer s H E hr=>by unfold zbu;exact (zah (zaT (zae zaN)))) (by rintro _ Q ⟨rfl,h⟩;unfold zbu zbm zar vC;exact ⟨rfl,h⟩)
noncomputable abbrev zaH:Stmt:=zes 15 0
noncomputable abbrev zeB:List Str:=["self"]
theorem zdM:FnScope zeB ["self"] (zaa zaH):=⟨rfl,rfl,rfl,by decide+kernel,rfl,by decide+kernel,by decide+kernel⟩
noncomputable def zbv:VS:=(zbm (zar (vC (.str "steps"))))
theorem zdN {f:Addr}{fd:FuncData}(F:Fun K "word" "Steps.word" zaH f fd):FnOk P w K mg base CX0 1 f fd ["self"] (spV K fun ds Q=>ds=[.ins (ka 3)]/\Q .sh (wd 3)):=
 okV (t:=zbv) F zdM (by rintro _ Q ⟨rfl,h⟩;rfl) (fun cdv A outer s H E hr=>by unfold zbv;exact (zah (zaT (zae zaN)))) (by rintro _ Q ⟨rfl,h⟩;unfold zbv zbm zar vC;exact ⟨rfl,h⟩)
noncomputable abbrev zaI:Stmt:=zes 16 0
noncomputable abbrev zeC:List Str:=["self"]
theorem zdO:FnScope zeC ["self"] (zaa zaI):=⟨rfl,rfl,rfl,by decide+kernel,rfl,by decide+kernel,by decide+kernel⟩
noncomputable def zbw:VS:=(zbm (zar (vC (.str "joins"))))
theorem zdP {f:Addr}{fd:FuncData}(F:Fun K "word" "Joins.word" zaI f fd):FnOk P w K mg base CX0 1 f fd ["self"] (spV K fun ds Q=>ds=[.ins (ka 4)]/\Q .sh (wd 4)):=
 okV (t:=zbw) F zdO (by rintro _ Q ⟨rfl,h⟩;rfl) (fun cdv A outer s H E hr=>by unfold zbw;exact (zah (zaT (zae zaN)))) (by rintro _ Q ⟨rfl,h⟩;unfold zbw zbm zar vC;exact ⟨rfl,h⟩)
noncomputable abbrev zaA:Stmt:=zes 17 0
noncomputable abbrev zdQ:List Str:=["self"]
theorem zc7:FnScope zdQ ["self"] (zaa zaA):=⟨rfl,rfl,rfl,by decide+kernel,rfl,by decide+kernel,by decide+kernel⟩
noncomputable def zbf:VS:=(zbm (zar (vC (.str "ranked"))))
theorem zc8 {f:Addr}{fd:FuncData}(F:Fun K "word" "Ranked.word" zaA f fd):FnOk P w K mg base CX0 1 f fd ["self"] (spV K fun ds Q=>ds=[.ins (ka 5)]/\Q .sh (wd 5)):=
 okV (t:=zbf) F zc7 (by rintro _ Q ⟨rfl,h⟩;rfl) (fun cdv A outer s H E hr=>by unfold zbf;exact (zah (zaT (zae zaN)))) (by rintro _ Q ⟨rfl,h⟩;unfold zbf zbm zar vC;exact ⟨rfl,h⟩)
noncomputable abbrev zaB:Stmt:=zes 18 0
noncomputable abbrev zdR:List Str:=["self"]
theorem zc9:FnScope zdR ["self"] (zaa zaB):=⟨rfl,rfl,rfl,by decide+kernel,rfl,by decide+kernel,by decide+kernel⟩
noncomputable def zbg:VS:=(zbm (zar (vC (.str "turned"))))
theorem zda {f:Addr}{fd:FuncData}(F:Fun K "word" "Turned.word" zaB f fd):FnOk P w K mg base CX0 1 f fd ["self"] (spV K fun ds Q=>ds=[.ins (ka 6)]/\Q .sh (wd 6)):=
 okV (t:=zbg) F zc9 (by rintro _ Q ⟨rfl,h⟩;rfl) (fun cdv A outer s H E hr=>by unfold zbg;exact (zah (zaT (zae zaN)))) (by rintro _ Q ⟨rfl,h⟩;unfold zbg zbm zar vC;exact ⟨rfl,h⟩)
noncomputable abbrev zaJ:Stmt:=zes 19 0
noncomputable abbrev zeD:List Str:=["self"]
theorem zdS:FnScope zeD ["self"] (zaa zaJ):=⟨rfl,rfl,rfl,by decide+kernel,rfl,by decide+kernel,by decide+kernel⟩
noncomputable def zbx:VS:=(zbm (zar (vC (.str "spans"))))
theorem zdT {f:Addr}{fd:FuncData}(F:Fun K "word" "Spans.word" zaJ f fd):FnOk P w K mg base CX0 1 f fd ["self"] (spV K fun ds Q=>ds=[.ins (ka 7)]/\Q .sh (wd 7)):=
 okV (t:=zbx) F zdS (by rintro _ Q ⟨rfl,h⟩;rfl) (fun cdv A outer s H E hr=>by unfold zbx;exact (zah (zaT (zae zaN)))) (by rintro _ Q ⟨rfl,h⟩;unfold zbx zbm zar vC;exact ⟨rfl,h⟩)
noncomputable abbrev zck:Stmt:=top 20
theorem zhf:FnScope zgz [] (zaa zck):=⟨rfl,rfl,rfl,by decide+kernel,rfl,by decide+kernel,by decide+kernel⟩
theorem zgC {f:Addr}{fd:FuncData}(F:Fun K "kinds" "kinds" zck f fd)(hm:mg "kinds"=some (.ref f))(hbi:Binds K fd [] [])(hkd:∀ i,i<8->Kd K (ka i))(hsb:∀ i j,i<8->j<9->PySem.W.kitOne K (.ref (ka i)) (.ref (ka j))=some (subF i j))(hmc:∀ i,i<8->MCal P w K mg base 1 "word" (ka i) (wd i))(kk_Spans:mg "Spans"=some (.ref (ka 7)))(kk_Turned:mg "Turned"=some (.ref (ka 6)))(kk_Ranked:mg "Ranked"=some (.ref (ka 5)))(kk_Joins:mg "Joins"=some (.ref (ka 4)))(kk_Steps:mg "Steps"=some (.ref (ka 3)))(kk_Split:mg "Split"=some (.ref (ka 2)))(kk_Rounds:mg "Rounds"=some (.ref (ka 1)))(kk_Sided:mg "Sided"=some (.ref (ka 0))):Cal P w K mg base 1 "kinds" za9:=
 zh5 F hm hbi zhf zgy (fun cdv A outer s H E hr=>by unfold zeZ;exact (zah (zaT (zcI (zcJ (zab (zbC (hkd 0 (by decide)) kk_Sided) (zab (zbC (hkd 1 (by decide)) kk_Rounds) (zab (zbC (hkd 2 (by decide)) kk_Split) (zab (zbC (hkd 3 (by decide)) kk_Steps) (zab (zbC (hkd 4 (by decide)) kk_Joins) (zab (zbC (hkd 5 (by decide)) kk_Ranked) (zab (zbC (hkd 6 (by decide)) kk_Turned) (zab (zbC (hkd 7 (by decide)) kk_Spans) zaq))))))))))))) zhe
noncomputable abbrev za4:Stmt:=top 21
theorem sc_kind_of:FnScope zcX ["word"] (zaa za4):=⟨rfl,rfl,rfl,by decide+kernel,rfl,by decide+kernel,by decide+kernel⟩
theorem ze5 {f:Addr}{fd:FuncData}(F:Fun K "kind_of" "kind_of" za4 f fd)(hm:mg "kind_of"=some (.ref f))(hbi:Binds K fd ["word"] [])(c_kinds:Cal P w K mg base 1 "kinds" za9)(hkd:∀ i,i<8->Kd K (ka i))(hsb:∀ i j,i<8->j<9->PySem.W.kitOne K (.ref (ka i)) (.ref (ka j))=some (subF i j))(hmc:∀ i,i<8->MCal P w K mg base 1 "word" (ka i) (wd i)):Cal P w K mg base 2 "kind_of" zbc:=
 zh5 F hm hbi sc_kind_of ze0 (fun cdv A outer s H E hr=>by unfold zcW;exact (zag (zh4 PassesOwn.never rfl (zcA c_kinds (hr.mono (by decide))) (zcK (i:=1) sc_kind_of.nd)
 (zah (zeT (zej hr (zeX (ka:=ka) (dv:=wd) hmc (hr.mono (by decide)) (zac 1)) (zac 0))
 (zah (zf8 1))
 za5)))
 (zah zh2))) zfJ
theorem zeE {cl:Kl}{f:Addr}{fd:FuncData}(F:Fun K "kind_of" "kind_of" za4 f fd)(hm:mg "kind_of"=some (.ref f))(hbi:Binds K fd ["word"] [])(c_kinds:Cal P w K mg base 1 "kinds" za9)(hkd:∀ i,i<8->Kd K (ka i))(hsb:∀ i j,i<8->j<9->PySem.W.kitOne K (.ref (ka i)) (.ref (ka j))=some (subF i j))(hmc:∀ i,i<8->MCal P w K mg base 1 "word" (ka i) (wd i))(k_NoKind:mg "NoKind"=some (.ref cl.NoKind))(x_NoKind:PySem.W.excIn K cl.NoKind bmV "ValueError.__new__"=true):CalX P w K mg base 2 "kind_of" (zaD cl):=
 zlh F hm hbi sc_kind_of (zet cl) (fun cdv A outer s H E hr R rx=>by unfold zch;exact (zag (zh4 rx.po rfl (zcA c_kinds (hr.mono (by decide))) (zcK (i:=1) sc_kind_of.nd)
 (zah (zeT (zej hr (zeX (ka:=ka) (dv:=wd) hmc (hr.mono (by decide)) (zac 1)) (zac 0))
 (zah (zf8 1))
 za5)))
 (zah (zin rx rfl k_NoKind x_NoKind (zkE (zjP (zjS (zac 0) zjO))))))) (ze3 cl)
noncomputable abbrev zaZ:Stmt:=top 23
theorem ze6:FnScope zdl ["_law_number","_law_k"] (zaa zaZ):=⟨rfl,rfl,rfl,by decide+kernel,rfl,by decide+kernel,by decide+kernel⟩
theorem zeF {f:Addr}{fd:FuncData}(F:Fun K "_law_mix" "_law_mix" zaZ f fd)(hm:mg "_law_mix"=some (.ref f))(hbi:Binds K fd ["_law_number","_law_k"] []):Cal P w K mg base 1 "_law_mix" zau:=
 zh5 F hm hbi ze6 zeu (fun cdv A outer s H E hr=>by unfold zci;exact (zah (zaT (zae (zcm (zcG (zdh (zdh (zcG (zac 0) (zac 0)) (zcG (zac 1) (zac 0))) (zcG (zcG zaf (zac 1)) (zac 1))) zaf) zaf))))) ze4
noncomputable abbrev zaK:Stmt:=top 24
theorem zdU:FnScope zcp [] (zaa zaK):=⟨rfl,rfl,rfl,by decide+kernel,rfl,by decide+kernel,by decide+kernel⟩
theorem zdb {f:Addr}{fd:FuncData}(F:Fun K "_law_words" "_law_words" zaK f fd)(hm:mg "_law_words"=some (.ref f))(hbi:Binds K fd [] []):Cal P w K mg base 1 "_law_words" zaj:=
 zh5 F hm hbi zdU zc3 (fun cdv A outer s H E hr=>by unfold zbq;exact (zah (zaT (zcI (zcJ (zab zaN (zab zaN (zab zaN (zab zaN (zab zaN (zab zaN (zab zaN (zab zaN zaq))))))))))))) zdD
noncomputable abbrev zaR:Stmt:=top 25
theorem sc__law_word:FnScope zcZ ["_law_cell"] (zaa zaR):=⟨rfl,rfl,rfl,by decide+kernel,rfl,by decide+kernel,by decide+kernel⟩
theorem zdV {f:Addr}{fd:FuncData}(F:Fun K "_law_word" "_law_word" zaR f fd)(hm:mg "_law_word"=some (.ref f))(hbi:Binds K fd ["_law_cell"] [])(z_len:mg "len"=none)(z_range:mg "range"=none)(c__law_words:Cal P w K mg base 1 "_law_words" zaj)(c__law_mix:Cal P w K mg base 1 "_law_mix" zau):Cal P w K mg base 2 "_law_word" zaQ:=
 zh5 F hm hbi sc__law_word zdE (fun cdv A outer s H E hr=>by unfold zbS;exact (zag (zcs (i:=1) sc__law_word.nd (zcA c__law_words (hr.mono (by decide))))
 (zag (zcs (i:=2) sc__law_word.nd (zae (zfA (zac 1) (zcm (zac 0) zaf))))
 (zag (zcs (i:=3) sc__law_word.nd (zae (zcm (zhX (zac 0) zaf) zaf)))
 (zag (zcs (i:=4) sc__law_word.nd (zae (zcm (za0 c__law_mix (hr.mono (by decide)) (zab (zac 0) (zab zaf zaq))) (zdh (ziy z_len (zab (zac 2) zaq)) zaf))))
 (zag (zcs (i:=5) sc__law_word.nd (zae zaN))
 (zag (zeT (zej hr (zac 3) zaf)
 (zah (zaT (zae (zco (zac 2) zbp (za6 (zjm zaf))))))
 za5)
 (zag (zeT (zej hr (zac 3) zaf)
 (zah (zaT (zae (zbQ (zbQ (zco (zac 2) zbp (za6 (zac 4))) (zhA (zac 5) (zcm (za0 c__law_mix (hr.mono (by decide)) (zab (zac 0) (zab zaf zaq))) zaf))) (zco (zac 2) (za6 (zac 4)) zbp)))))
 za5)
 (zag (zeT (zej hr (zac 3) zaf)
 (zah (zaT (zae (zbQ (zbQ (zco (zac 2) zbp (za6 (zac 4))) zaN) (zco (zac 2) (za6 (zac 4)) zbp)))))
 za5)
 (zag (zeT (zej hr (zac 3) zaf)
 (zah (zaT (zae (zbQ (zbQ (zco (zac 2) zbp (za6 (zac 4))) (zhc (zco (zac 2) (za6 (zac 4)) (za6 (zdh (zac 4) zaf))))) (zco (zac 2) (za6 (zdh (zac 4) zaf)) zbp)))))
 za5)
 (zag (zeT (zej hr (zac 3) zaf)
 (zah (zaT (zae (zbQ (zac 2) (zfA (zac 1) (zcm (za0 c__law_mix (hr.mono (by decide)) (zab (zac 0) (zab zaf zaq))) zaf))))))
 za5)
 (zag (zeT (zej hr (zac 3) zaf)
 (zah (zaT (zae (ziB zaN (zab (zef (zh6 (R:=["_law_cell","_law_words_here","_law_word_here","_law_choice","_law_at","_law_letters"]) rfl (by decide+kernel) (zhs z_range (zab (zcm (za0 c__law_mix (hr.mono (by decide)) (zab (zac 0) (zab zaf zaq))) zaf) zaq)) (fun _ _ _ _=>zgc) (fun _ _ _ _=>(zhA (zac 6) (zcm (za0 c__law_mix (hr.mono (by decide)) (zab (zdh (zac 1) (zcG (zac 0) (zac 0))) (zab (zac 0) zaq))) zaf))))) zaq)))))
 za5)
 (zah (zf8 2)))))))))))))) zev
noncomputable abbrev zaL:Stmt:=top 26
theorem sc__law_marks:FnScope zcq ["_law_kind"] (zaa zaL):=⟨rfl,rfl,rfl,by decide+kernel,rfl,by decide+kernel,by decide+kernel⟩
theorem zdc {f:Addr}{fd:FuncData}(F:Fun K "_law_marks" "_law_marks" zaL f fd)(hm:mg "_law_marks"=some (.ref f))(hbi:Binds K fd ["_law_kind"] [])(z_isinstance:mg "isinstance"=none)(hkd:∀ i,i<8->Kd K (ka i))(hsb:∀ i j,i<8->j<9->PySem.W.kitOne K (.ref (ka i)) (.ref (ka j))=some (subF i j))(hmc:∀ i,i<8->MCal P w K mg base 1 "word" (ka i) (wd i))(kk_Steps:mg "Steps"=some (.ref (ka 3)))(kk_Split:mg "Split"=some (.ref (ka 2)))(kk_Rounds:mg "Rounds"=some (.ref (ka 1)))(kk_Sided:mg "Sided"=some (.ref (ka 0)))(kk_Turned:mg "Turned"=some (.ref (ka 6)))(kk_Ranked:mg "Ranked"=some (.ref (ka 5)))(kk_Joins:mg "Joins"=some (.ref (ka 4)))(kk_Spans:mg "Spans"=some (.ref (ka 7))):Cal P w K mg base 1 "_law_marks" zaE:=
 zh5 F hm hbi sc__law_marks zc4 (fun cdv A outer s H E hr=>by unfold zbr;exact (zag (zcs (i:=1) sc__law_marks.nd (zcI (zcJ (zab (zb3 hkd (fun i hi=>hsb i 0 hi (by decide)) z_isinstance kk_Sided (zac 0)) (zab (zb3 hkd (fun i hi=>hsb i 1 hi (by decide)) z_isinstance kk_Rounds (zac 0)) (zab (zb3 hkd (fun i hi=>hsb i 2 hi (by decide)) z_isinstance kk_Split (zac 0)) (zab (zb3 hkd (fun i hi=>hsb i 3 hi (by decide)) z_isinstance kk_Steps (zac 0)) zaq)))))))
 (zag (zcs (i:=1) sc__law_marks.nd (zcI (zf5 (zac 1) (zef (zcJ (zab (zb3 hkd (fun i hi=>hsb i 4 hi (by decide)) z_isinstance kk_Joins (zac 0)) (zab (zb3 hkd (fun i hi=>hsb i 5 hi (by decide)) z_isinstance kk_Ranked (zac 0)) (zab (zb3 hkd (fun i hi=>hsb i 6 hi (by decide)) z_isinstance kk_Turned (zac 0)) zaq))))))))
 (zah (zaT (zcI (zf5 (zac 1) (zef (zcJ (zab (zb3 hkd (fun i hi=>hsb i 7 hi (by decide)) z_isinstance kk_Spans (zac 0)) zaq)))))))))) zdF
noncomputable abbrev zav:Stmt:=top 27
theorem sc__law_is_kind:FnScope zbK ["_law_kind","_law_at"] (zaa zav):=⟨rfl,rfl,rfl,by decide+kernel,rfl,by decide+kernel,by decide+kernel⟩
theorem zcw {f:Addr}{fd:FuncData}(F:Fun K "_law_is_kind" "_law_is_kind" zav f fd)(hm:mg "_law_is_kind"=some (.ref f))(hbi:Binds K fd ["_law_kind","_law_at"] [])(z_isinstance:mg "isinstance"=none)(z_str:mg "str"=none)(z_range:mg "range"=none)(c__law_words:Cal P w K mg base 1 "_law_words" zaj)(c__law_marks:Cal P w K mg base 1 "_law_marks" zaE)(hkd:∀ i,i<8->Kd K (ka i))(hsb:∀ i j,i<8->j<9->PySem.W.kitOne K (.ref (ka i)) (.ref (ka j))=some (subF i j))(hmc:∀ i,i<8->MCal P w K mg base 1 "word" (ka i) (wd i))(kk_Kind:mg "Kind"=some (.ref (ka 8))):Cal P w K mg base 2 "_law_is_kind" zal:=
 zh5 F hm hbi sc__law_is_kind zct (fun cdv A outer s H E hr=>by unfold zba;exact (zag (zeT (zcH (zcF (zb3 hkd (fun i hi=>hsb i 8 hi (by decide)) z_isinstance kk_Kind (zac 0))))
 (zah (zaT (zae zeR)))
 za5)
 (zag (zcs (i:=2) sc__law_is_kind.nd (zae (zeX (ka:=ka) (dv:=wd) hmc (hr.mono (by decide)) (zac 0))))
 (zag (zeT (zeS (zhY (zcH (zcF (zhw zib z_isinstance z_str (by rfl) (zac 2)))) (zf2 (zjz hr (zac 2) (zfA (zdu c__law_words (hr.mono (by decide))) (zac 1))))))
 (zah (zaT (zae zeR)))
 za5)
 (zag (zjw (i:=3) (R:=["_law_kind","_law_at","_law_word_here","_law_due"]) rfl sc__law_is_kind.nd (by decide+kernel) (zhs z_range (zab zaf zaq)) (fun _ _ _ _=>zgc) (fun _ _ _ _=>(zh8 hr (zac 0) (zac 2))))
 (zag (zju 3 (zae (zkp (zjB hr (zac 1) (zho (zab zaf (zab zaf (zab zaf zaq))))) (zjn (zh8 hr (zac 1) zaf)))) zaf)
 (zag (zju 3 (zae (zjB hr (zac 1) (zho (zab zaf (zab zaf zaq))))) zaf)
 (zah (zaT (zae (zh8 hr (za0 c__law_marks (hr.mono (by decide)) (zab (zac 0) zaq)) (zac 3)))))))))))) zc0
noncomputable abbrev zaw:Stmt:=top 28
theorem sc__law_refused:FnScope zbL ["_law_word_here"] (zaa zaw):=⟨rfl,rfl,rfl,by decide+kernel,rfl,by decide+kernel,by decide+kernel⟩
theorem zcx {cl:Kl}{f:Addr}{fd:FuncData}(F:Fun K "_law_refused" "_law_refused" zaw f fd)(hm:mg "_law_refused"=some (.ref f))(hbi:Binds K fd ["_law_word_here"] [])(z_isinstance:mg "isinstance"=none)(z_ValueError:mg "ValueError"=none)(cx_kind_of:CalX P w K mg base 2 "kind_of" (zaD cl))(k_NoTie:mg "NoTie"=some (.ref cl.NoTie))(k_NoWeb:mg "NoWeb"=some (.ref cl.NoWeb))(k_NoPoint:mg "NoPoint"=some (.ref cl.NoPoint))(k_NoName:mg "NoName"=some (.ref cl.NoName))(k_NoRow:mg "NoRow"=some (.ref cl.NoRow))(k_NoText:mg "NoText"=some (.ref cl.NoText))(k_NoKind:mg "NoKind"=some (.ref cl.NoKind))(k_HallError:mg "HallError"=some (.ref cl.HallError))(fe_NoKind:PySem.W.exmOne K (.ref cl.NoKind) (.ref cl.HallError)=some true)(fx_NoKind:za1 K cl.NoKind=true)(f0_NoKind:PySem.W.kitAny K (.ref cl.NoKind) ([cl.NoPoint,cl.NoWeb,cl.NoTie].map Value.ref)=some false)(f1_NoKind:PySem.W.kitAny K (.ref cl.NoKind) ([cl.NoText,cl.NoRow,cl.NoName].map Value.ref)=some false)(f2_NoKind:PySem.W.kitAny K (.ref cl.NoKind) [.ref cl.NoKind]=some true)(f3_NoKind:PySem.W.kitAny K (.ref cl.NoKind) [.type "ValueError"]=some true):Cal P w K mg base 3 "_law_refused" zam:=
 zli (CH:=cl.HallError) (t1:=zaO) (tv:=zaP cl) (tt:=za3 K cl) (res:=zaW cl) F hm hbi sc__law_refused zcu rfl (fun cdv A outer s H E hr=>⟨by unfold zaO;exact (zcs (i:=1) sc__law_refused.nd (zae zjl)),fun R hR=>by unfold zaP;exact zjN (CH:=cl.HallError) (i:=1) (j:=2) (fun pins E rp=>(zah (zjs (zg5 rp cx_kind_of (ze2 _) (hr.mono (by decide)) (zab (zac 0) zaq))))) hR k_HallError sc__law_refused.nd rfl rfl (by decide) rfl rfl rfl rfl rfl rfl,by unfold za3;exact (zcy (zi2 ((ziX (zfO (zgm (cs:=[cl.NoPoint,cl.NoWeb,cl.NoTie]) z_isinstance (zfI k_NoPoint (zfI k_NoWeb (zfI k_NoTie zhy))) (show 3<=sizeLine by decide) rfl)) (zhh (zfO (zgm (cs:=[cl.NoText,cl.NoRow,cl.NoName]) z_isinstance (zfI k_NoText (zfI k_NoRow (zfI k_NoName zhy))) (show 3<=sizeLine by decide) rfl))))).pt (zdm (ze7 ziU)) zfP) (zdm (ze7 (zi0 (zjM z_isinstance k_NoKind rfl) (zhi (zis z_isinstance z_ValueError (by rfl) rfl))))))⟩) (zcj fe_NoKind fx_NoKind f0_NoKind f1_NoKind f2_NoKind f3_NoKind) (zc1 cl) zcv
noncomputable abbrev zdW:Stmt:=top 29
theorem sc_law:FnScope zjV ["_law_script"] (zaa zdW):=⟨rfl,rfl,rfl,by decide+kernel,rfl,by decide+kernel,by decide+kernel⟩
theorem zjX {f:Addr}{fd:FuncData}(F:Fun K "law" "law" zdW f fd)(z_isinstance:mg "isinstance"=none)(z_list:mg "list"=none)(z_len:mg "len"=none)(z_range:mg "range"=none)(c_kinds:Cal P w K mg base 1 "kinds" za9)(c__law_is_kind:Cal P w K mg base 2 "_law_is_kind" zal)(c__law_word:Cal P w K mg base 2 "_law_word" zaQ)(c__law_words:Cal P w K mg base 1 "_law_words" zaj)(c_kind_of:Cal P w K mg base 2 "kind_of" zbc)(c__law_refused:Cal P w K mg base 3 "_law_refused" zam)(hkd:∀ i,i<8->Kd K (ka i))(hsb:∀ i j,i<8->j<9->PySem.W.kitOne K (.ref (ka i)) (.ref (ka j))=some (subF i j))(hmc:∀ i,i<8->MCal P w K mg base 1 "word" (ka i) (wd i))(kk_Spans:mg "Spans"=some (.ref (ka 7)))(kk_Turned:mg "Turned"=some (.ref (ka 6)))(kk_Ranked:mg "Ranked"=some (.ref (ka 5)))(kk_Joins:mg "Joins"=some (.ref (ka 4)))(kk_Steps:mg "Steps"=some (.ref (ka 3)))(kk_Split:mg "Split"=some (.ref (ka 2)))(kk_Rounds:mg "Rounds"=some (.ref (ka 1)))(kk_Sided:mg "Sided"=some (.ref (ka 0))):FnOk P w K mg base CX0 4 f fd ["_law_script"] (spV K zjD):=
 okV F sc_law ziI (fun cdv A outer s H E hr=>by unfold ziH;exact (zag (zcs (i:=1) sc_law.nd (zcI (zcJ (zab (zbC (hkd 0 (by decide)) kk_Sided) (zab (zbC (hkd 1 (by decide)) kk_Rounds) (zab (zbC (hkd 2 (by decide)) kk_Split) (zab (zbC (hkd 3 (by decide)) kk_Steps) (zab (zbC (hkd 4 (by decide)) kk_Joins) (zab (zbC (hkd 5 (by decide)) kk_Ranked) (zab (zbC (hkd 6 (by decide)) kk_Turned) (zab (zbC (hkd 7 (by decide)) kk_Spans) zaq)))))))))))
 (zag (zhq PassesOwn.never rfl z_range (zab zaf zaq) (zcK (i:=2) sc_law.nd)
 (zag (zcs (i:=3) sc_law.nd (zcA c_kinds (hr.mono (by decide))))
 (zag (zeT (zeS (zhY (zcH (zcF (zhw zgZ z_isinstance z_list (by rfl) (zac 3)))) (zf2 (zjz hr (zjq z_len (zab (zac 3) zaq)) zaf))))
 (zah (zaT (zae zeR)))
 za5)
 (zag (zhq PassesOwn.never rfl z_range (zab zaf zaq) (zcK (i:=4) sc_law.nd)
 (zah (zeT (zeS (zhY (zcH (zcF (za0 c__law_is_kind (hr.mono (by decide)) (zab (zfA (zac 3) (zac 4)) (zab (zac 4) zaq))))) (zf2 (zcH (zcF (za0 c__law_is_kind (hr.mono (by decide)) (zab (zfA (zac 1) (zac 4)) (zab (zac 4) zaq))))))))
 (zah (zaT (zae zeR)))
 za5)))
 (zag (zig 3 (zcG zaf (zac 2)))
 (zah (zku 3 (zae (zfA (zac 3) zaf)))))))))
 (zag (zh4 PassesOwn.never rfl (zcI (zf5 (zef (zcJ (zab zaf zaq))) (zef (zkr (zac 0) zbp (za6 zaf))))) (zcK (i:=5) sc_law.nd)
 (zag (zcs (i:=6) sc_law.nd (zh1 c__law_word (hr.mono (by decide)) (zab (zac 5) zaq)))
 (zah (zeT (zkw hr (zac 6) (zdu c__law_words (hr.mono (by decide))))
 (zah (zeT (zcH (zcF (za0 c__law_is_kind (hr.mono (by decide)) (zab (za0 c_kind_of (hr.mono (by decide)) (zab (zac 6) zaq)) (zab (zgx (zdu c__law_words (hr.mono (by decide))) (zac 6)) zaq)))))
 (zah (zaT (zae zeR)))
 za5))
 (zah (zeT (zcH (zcF (za0 c__law_refused (hr.mono (by decide)) (zab (zac 6) zaq))))
 (zah (zaT (zae zeR)))
 za5))))))
 (zah (zaT (zae zeR))))))) zjW
end
theorem ln0 {α:Type}{l:List α}(h:l.length=0):l=[]:=List.length_eq_zero_iff.mp h
theorem ln1 {α:Type}{l:List α}(h:l.length=1):∃ x0,l=[x0]:=by match l,h with| [x0],_=>exact ⟨x0,rfl⟩
theorem ln2 {α:Type}{l:List α}(h:l.length=2):∃ x0 x1,l=[x0,x1]:=by match l,h with| [x0,x1],_=>exact ⟨x0,x1,rfl⟩
theorem zjY {l:PySem.W.OpenLaw}{w:World}{K:PySem.W.Frag}{h:Heap}{mg:Str->Option Value}{fa:Addr}{f1 f2 f3 f4 f5 f6 f7 f8 f9:Addr}(X:K.In h)(G:h.Ns mainGlobals mg)(hfa:mg "law"=some (.ref fa))
  {od1 an1 od2 an2 od3 an3 od4 an4 od5 an5 od6 an6 od7 an7 od8 an8 od9 an9:Option Addr}{sl1 sl2 sl3 sl4 sl5 sl6 sl7 sl8 sl9:Array (Option Value)}{oc1 kV1 dc1 pm1 cd1 ct1 oc2 kV2 dc2 pm2 cd2 ct2 oc3 kV3 dc3 pm3 cd3 ct3 oc4 kV4 dc4 pm4 cd4 ct4 oc5 kV5 dc5 pm5 cd5 ct5 oc6 kV6 dc6 pm6 cd6 ct6 oc7 kV7 dc7 pm7 cd7 ct7 oc8 kV8 dc8 pm8 cd8 ct8 oc9 kV9 dc9 pm9 cd9 ct9:Value}
  (a1:PySem.W.nsIn K mainGlobals "kinds"=some (some (.ref f1)))(l1:K.lookup f1=some ⟨oc1,od1,.func (PySem.W.fnOf "kinds" "kinds" (zao zck) (zai zck) (zaa zck) .none kV1 dc1 pm1 an1 cd1 ct1),sl1⟩)(c1:PySem.W.codeIn K cd1 "kinds"=true)(k1:PySem.W.keepIn K (.ref f1)=true)
  (a2:PySem.W.nsIn K mainGlobals "kind_of"=some (some (.ref f2)))(l2:K.lookup f2=some ⟨oc2,od2,.func (PySem.W.fnOf "kind_of" "kind_of" (zao za4) (zai za4) (zaa za4) .none kV2 dc2 pm2 an2 cd2 ct2),sl2⟩)(c2:PySem.W.codeIn K cd2 "kind_of"=true)(k2:PySem.W.keepIn K (.ref f2)=true)
  (a3:PySem.W.nsIn K mainGlobals "_law_mix"=some (some (.ref f3)))(l3:K.lookup f3=some ⟨oc3,od3,.func (PySem.W.fnOf "_law_mix" "_law_mix" (zao zaZ) (zai zaZ) (zaa zaZ) .none kV3 dc3 pm3 an3 cd3 ct3),sl3⟩)(c3:PySem.W.codeIn K cd3 "_law_mix"=true)(k3:PySem.W.keepIn K (.ref f3)=true)
  (a4:PySem.W.nsIn K mainGlobals "_law_words"=some (some (.ref f4)))(l4:K.lookup f4=some ⟨oc4,od4,.func (PySem.W.fnOf "_law_words" "_law_words" (zao zaK) (zai zaK) (zaa zaK) .none kV4 dc4 pm4 an4 cd4 ct4),sl4⟩)(c4:PySem.W.codeIn K cd4 "_law_words"=true)(k4:PySem.W.keepIn K (.ref f4)=true)
  (a5:PySem.W.nsIn K mainGlobals "_law_word"=some (some (.ref f5)))(l5:K.lookup f5=some ⟨oc5,od5,.func (PySem.W.fnOf "_law_word" "_law_word" (zao zaR) (zai zaR) (zaa zaR) .none kV5 dc5 pm5 an5 cd5 ct5),sl5⟩)(c5:PySem.W.codeIn K cd5 "_law_word"=true)(k5:PySem.W.keepIn K (.ref f5)=true)
  (a6:PySem.W.nsIn K mainGlobals "_law_marks"=some (some (.ref f6)))(l6:K.lookup f6=some ⟨oc6,od6,.func (PySem.W.fnOf "_law_marks" "_law_marks" (zao zaL) (zai zaL) (zaa zaL) .none kV6 dc6 pm6 an6 cd6 ct6),sl6⟩)(c6:PySem.W.codeIn K cd6 "_law_marks"=true)(k6:PySem.W.keepIn K (.ref f6)=true)
  (a7:PySem.W.nsIn K mainGlobals "_law_is_kind"=some (some (.ref f7)))(l7:K.lookup f7=some ⟨oc7,od7,.func (PySem.W.fnOf "_law_is_kind" "_law_is_kind" (zao zav) (zai zav) (zaa zav) .none kV7 dc7 pm7 an7 cd7 ct7),sl7⟩)(c7:PySem.W.codeIn K cd7 "_law_is_kind"=true)(k7:PySem.W.keepIn K (.ref f7)=true)
  (a8:PySem.W.nsIn K mainGlobals "_law_refused"=some (some (.ref f8)))(l8:K.lookup f8=some ⟨oc8,od8,.func (PySem.W.fnOf "_law_refused" "_law_refused" (zao zaw) (zai zaw) (zaa zaw) .none kV8 dc8 pm8 an8 cd8 ct8),sl8⟩)(c8:PySem.W.codeIn K cd8 "_law_refused"=true)(k8:PySem.W.keepIn K (.ref f8)=true)
  (a9:PySem.W.nsIn K mainGlobals "law"=some (some (.ref f9)))(l9:K.lookup f9=some ⟨oc9,od9,.func (PySem.W.fnOf "law" "law" (zao zdW) (zai zdW) (zaa zdW) .none kV9 dc9 pm9 an9 cd9 ct9),sl9⟩)(c9:PySem.W.codeIn K cd9 "law"=true)(k9:PySem.W.keepIn K (.ref f9)=true)
  {gw0 gw1 gw2 gw3 gw4 gw5 gw6 gw7:Addr}{odw0 anw0 odw1 anw1 odw2 anw2 odw3 anw3 odw4 anw4 odw5 anw5 odw6 anw6 odw7 anw7:Option Addr}{slw0 slw1 slw2 slw3 slw4 slw5 slw6 slw7:Array (Option Value)}{ocw0 kVw0 dcw0 pmw0 cdw0 ctw0 ocw1 kVw1 dcw1 pmw1 cdw1 ctw1 ocw2 kVw2 dcw2 pmw2 cdw2 ctw2 ocw3 kVw3 dcw3 pmw3 cdw3 ctw3 ocw4 kVw4 dcw4 pmw4 cdw4 ctw4 ocw5 kVw5 dcw5 pmw5 cdw5 ctw5 ocw6 kVw6 dcw6 pmw6 cdw6 ctw6 ocw7 kVw7 dcw7 pmw7 cdw7 ctw7:Value}
  (ek_Sided:PySem.W.nsIn K mainGlobals "Sided"=some (some (.ref 240)))
  (ek_Rounds:PySem.W.nsIn K mainGlobals "Rounds"=some (some (.ref 301)))
  (ek_Split:PySem.W.nsIn K mainGlobals "Split"=some (some (.ref 355)))
  (ek_Steps:PySem.W.nsIn K mainGlobals "Steps"=some (some (.ref 409)))
  (ek_Joins:PySem.W.nsIn K mainGlobals "Joins"=some (some (.ref 463)))
  (ek_Ranked:PySem.W.nsIn K mainGlobals "Ranked"=some (some (.ref 524)))
  (ek_Turned:PySem.W.nsIn K mainGlobals "Turned"=some (some (.ref 578)))
  (ek_Spans:PySem.W.nsIn K mainGlobals "Spans"=some (some (.ref 632)))
  (ek_Kind:PySem.W.nsIn K mainGlobals "Kind"=some (some (.ref 184)))
  (kb0:kdB K 240=true)(mw0:PySem.W.findIn K (.ref 240) "word"=some (some (.ref gw0)))(mf0:PySem.W.isFn K (.ref gw0)=true)(lw0:K.lookup gw0=some ⟨ocw0,odw0,.func (PySem.W.fnOf "word" "Sided.word" (zao zaF) (zai zaF) (zaa zaF) .none kVw0 dcw0 pmw0 anw0 cdw0 ctw0),slw0⟩)(cw0:PySem.W.codeIn K cdw0 "Sided.word"=true)(kw0:PySem.W.keepIn K (.ref gw0)=true)
  (kb1:kdB K 301=true)(mw1:PySem.W.findIn K (.ref 301) "word"=some (some (.ref gw1)))(mf1:PySem.W.isFn K (.ref gw1)=true)(lw1:K.lookup gw1=some ⟨ocw1,odw1,.func (PySem.W.fnOf "word" "Rounds.word" (zao zaz) (zai zaz) (zaa zaz) .none kVw1 dcw1 pmw1 anw1 cdw1 ctw1),slw1⟩)(cw1:PySem.W.codeIn K cdw1 "Rounds.word"=true)(kw1:PySem.W.keepIn K (.ref gw1)=true)
  (kb2:kdB K 355=true)(mw2:PySem.W.findIn K (.ref 355) "word"=some (some (.ref gw2)))(mf2:PySem.W.isFn K (.ref gw2)=true)(lw2:K.lookup gw2=some ⟨ocw2,odw2,.func (PySem.W.fnOf "word" "Split.word" (zao zaG) (zai zaG) (zaa zaG) .none kVw2 dcw2 pmw2 anw2 cdw2 ctw2),slw2⟩)(cw2:PySem.W.codeIn K cdw2 "Split.word"=true)(kw2:PySem.W.keepIn K (.ref gw2)=true)
  (kb3:kdB K 409=true)(mw3:PySem.W.findIn K (.ref 409) "word"=some (some (.ref gw3)))(mf3:PySem.W.isFn K (.ref gw3)=true)(lw3:K.lookup gw3=some ⟨ocw3,odw3,.func (PySem.W.fnOf "word" "Steps.word" (zao zaH) (zai zaH) (zaa zaH) .none kVw3 dcw3 pmw3 anw3 cdw3 ctw3),slw3⟩)(cw3:PySem.W.codeIn K cdw3 "Steps.word"=true)(kw3:PySem.W.keepIn K (.ref gw3)=true)
  (kb4:kdB K 463=true)(mw4:PySem.W.findIn K (.ref 463) "word"=some (some (.ref gw4)))(mf4:PySem.W.isFn K (.ref gw4)=true)(lw4:K.lookup gw4=some ⟨ocw4,odw4,.func (PySem.W.fnOf "word" "Joins.word" (zao zaI) (zai zaI) (zaa zaI) .none kVw4 dcw4 pmw4 anw4 cdw4 ctw4),slw4⟩)(cw4:PySem.W.codeIn K cdw4 "Joins.word"=true)(kw4:PySem.W.keepIn K (.ref gw4)=true)
  (kb5:kdB K 524=true)(mw5:PySem.W.findIn K (.ref 524) "word"=some (some (.ref gw5)))(mf5:PySem.W.isFn K (.ref gw5)=true)(lw5:K.lookup gw5=some ⟨ocw5,odw5,.func (PySem.W.fnOf "word" "Ranked.word" (zao zaA) (zai zaA) (zaa zaA) .none kVw5 dcw5 pmw5 anw5 cdw5 ctw5),slw5⟩)(cw5:PySem.W.codeIn K cdw5 "Ranked.word"=true)(kw5:PySem.W.keepIn K (.ref gw5)=true)
  (kb6:kdB K 578=true)(mw6:PySem.W.findIn K (.ref 578) "word"=some (some (.ref gw6)))(mf6:PySem.W.isFn K (.ref gw6)=true)(lw6:K.lookup gw6=some ⟨ocw6,odw6,.func (PySem.W.fnOf "word" "Turned.word" (zao zaB) (zai zaB) (zaa zaB) .none kVw6 dcw6 pmw6 anw6 cdw6 ctw6),slw6⟩)(cw6:PySem.W.codeIn K cdw6 "Turned.word"=true)(kw6:PySem.W.keepIn K (.ref gw6)=true)
  (kb7:kdB K 632=true)(mw7:PySem.W.findIn K (.ref 632) "word"=some (some (.ref gw7)))(mf7:PySem.W.isFn K (.ref gw7)=true)(lw7:K.lookup gw7=some ⟨ocw7,odw7,.func (PySem.W.fnOf "word" "Spans.word" (zao zaJ) (zai zaJ) (zaa zaJ) .none kVw7 dcw7 pmw7 anw7 cdw7 ctw7),slw7⟩)(cw7:PySem.W.codeIn K cdw7 "Spans.word"=true)(kw7:PySem.W.keepIn K (.ref gw7)=true)
  (sbb:zkJ K ka 8 9 subF=true)
  {kl_HallError kl_NoPoint kl_NoWeb kl_NoTie kl_NoText kl_NoKind kl_NoRow kl_NoName:Addr}{cd_HallError cd_NoPoint cd_NoWeb cd_NoTie cd_NoText cd_NoKind cd_NoRow cd_NoName:ClassData}(e_HallError:PySem.W.nsIn K mainGlobals "HallError"=some (some (.ref kl_HallError)))(e_NoPoint:PySem.W.nsIn K mainGlobals "NoPoint"=some (some (.ref kl_NoPoint)))(e_NoWeb:PySem.W.nsIn K mainGlobals "NoWeb"=some (some (.ref kl_NoWeb)))(e_NoTie:PySem.W.nsIn K mainGlobals "NoTie"=some (some (.ref kl_NoTie)))(e_NoText:PySem.W.nsIn K mainGlobals "NoText"=some (some (.ref kl_NoText)))(e_NoKind:PySem.W.nsIn K mainGlobals "NoKind"=some (some (.ref kl_NoKind)))(e_NoRow:PySem.W.nsIn K mainGlobals "NoRow"=some (some (.ref kl_NoRow)))(e_NoName:PySem.W.nsIn K mainGlobals "NoName"=some (some (.ref kl_NoName)))(x_NoKind:PySem.W.excIn K kl_NoKind [Value.type "ValueError",Value.type "Exception",Value.type "BaseException",Value.type "object"] "ValueError.__new__"=true)(d_HallError:PySem.W.clsIn K kl_HallError=some cd_HallError)(t_HallError:PySem.W.typeIn K (.ref kl_HallError)=some (.type "type"))(d_NoPoint:PySem.W.clsIn K kl_NoPoint=some cd_NoPoint)(t_NoPoint:PySem.W.typeIn K (.ref kl_NoPoint)=some (.type "type"))(d_NoWeb:PySem.W.clsIn K kl_NoWeb=some cd_NoWeb)(t_NoWeb:PySem.W.typeIn K (.ref kl_NoWeb)=some (.type "type"))(d_NoTie:PySem.W.clsIn K kl_NoTie=some cd_NoTie)(t_NoTie:PySem.W.typeIn K (.ref kl_NoTie)=some (.type "type"))(d_NoText:PySem.W.clsIn K kl_NoText=some cd_NoText)(t_NoText:PySem.W.typeIn K (.ref kl_NoText)=some (.type "type"))(d_NoKind:PySem.W.clsIn K kl_NoKind=some cd_NoKind)(t_NoKind:PySem.W.typeIn K (.ref kl_NoKind)=some (.type "type"))(d_NoRow:PySem.W.clsIn K kl_NoRow=some cd_NoRow)(t_NoRow:PySem.W.typeIn K (.ref kl_NoRow)=some (.type "type"))(d_NoName:PySem.W.clsIn K kl_NoName=some cd_NoName)(t_NoName:PySem.W.typeIn K (.ref kl_NoName)=some (.type "type"))(b_H:PySem.W.subIn K (.ref kl_HallError) (.type "BaseException")=some true)(q1_NoKind:PySem.W.findIn K (.ref kl_NoKind) "__getattribute__"=some (some (.builtin "BaseException.__getattribute__")))(q2_NoKind:PySem.W.findIn K (.ref kl_NoKind) "__getattr__"=some none)(q3_NoKind:PySem.W.findIn K (.ref kl_NoKind) "__class__"=some (some (.builtin "object.__class__")))(q4_NoKind:PySem.W.mroIn K kl_NoKind (.type "object")=some true)(q5_NoKind:PySem.W.mroIn K kl_NoKind (.type "BaseException")=some true)(s_NoKind_HallError:PySem.W.subIn K (.ref kl_NoKind) (.ref kl_HallError)=some true)(s_NoKind_NoPoint:PySem.W.subIn K (.ref kl_NoKind) (.ref kl_NoPoint)=some false)(s_NoKind_NoWeb:PySem.W.subIn K (.ref kl_NoKind) (.ref kl_NoWeb)=some false)(s_NoKind_NoTie:PySem.W.subIn K (.ref kl_NoKind) (.ref kl_NoTie)=some false)(s_NoKind_NoText:PySem.W.subIn K (.ref kl_NoKind) (.ref kl_NoText)=some false)(s_NoKind_NoKind:PySem.W.subIn K (.ref kl_NoKind) (.ref kl_NoKind)=some true)(s_NoKind_NoRow:PySem.W.subIn K (.ref kl_NoKind) (.ref kl_NoRow)=some false)(s_NoKind_NoName:PySem.W.subIn K (.ref kl_NoKind) (.ref kl_NoName)=some false)(v_NoKind_ValueError:PySem.W.subIn K (.ref kl_NoKind) (.type "ValueError")=some true)
  (y_len:PySem.W.nsIn K mainGlobals "len"=some none)(y_range:PySem.W.nsIn K mainGlobals "range"=some none)(y_isinstance:PySem.W.nsIn K mainGlobals "isinstance"=some none)(y_str:PySem.W.nsIn K mainGlobals "str"=some none)(y_ValueError:PySem.W.nsIn K mainGlobals "ValueError"=some none)(y_list:PySem.W.nsIn K mainGlobals "list"=some none):
  ∃ fd:FuncData,(∀ (s:Shared) (v:Value),BindsTo s fd ⟨[v],[]⟩ [("_law_script",v)])/\∀ base:Heap,K.In base->base.Ns mainGlobals mg->FnOk l.prog w K mg base CX0 4 fa fd ["_law_script"] (spV K zjD):=by
 have e:=hfa.symm.trans (PySem.W.mg_of X G a9);cases e;have z_len:mg "len"=none:=PySem.W.mg_none_of X G y_len;have z_range:mg "range"=none:=PySem.W.mg_none_of X G y_range;have z_isinstance:mg "isinstance"=none:=PySem.W.mg_none_of X G y_isinstance;have z_str:mg "str"=none:=PySem.W.mg_none_of X G y_str;have z_ValueError:mg "ValueError"=none:=PySem.W.mg_none_of X G y_ValueError;have z_list:mg "list"=none:=PySem.W.mg_none_of X G y_list;have fe_NoKind:PySem.W.exmOne K (.ref kl_NoKind) (.ref kl_HallError)=some true:=zgp b_H d_HallError t_HallError s_NoKind_HallError;have fx_NoKind:za1 K kl_NoKind=true:=zgo q1_NoKind q2_NoKind q3_NoKind q4_NoKind q5_NoKind d_NoKind;have f0_NoKind:PySem.W.kitAny K (.ref kl_NoKind) ([kl_NoPoint,kl_NoWeb,kl_NoTie].map Value.ref)=some false:=(zbA (za2 s_NoKind_NoKind d_NoPoint t_NoPoint s_NoKind_NoPoint) (zbA (za2 s_NoKind_NoKind d_NoWeb t_NoWeb s_NoKind_NoWeb) (zbA (za2 s_NoKind_NoKind d_NoTie t_NoTie s_NoKind_NoTie) zfq)));have f1_NoKind:PySem.W.kitAny K (.ref kl_NoKind) ([kl_NoText,kl_NoRow,kl_NoName].map Value.ref)=some false:=(zbA (za2 s_NoKind_NoKind d_NoText t_NoText s_NoKind_NoText) (zbA (za2 s_NoKind_NoKind d_NoRow t_NoRow s_NoKind_NoRow) (zbA (za2 s_NoKind_NoKind d_NoName t_NoName s_NoKind_NoName) zfq)));have f2_NoKind:PySem.W.kitAny K (.ref kl_NoKind) [.ref kl_NoKind]=some true:=(zfr (za2 s_NoKind_NoKind d_NoKind t_NoKind s_NoKind_NoKind));have f3_NoKind:PySem.W.kitAny K (.ref kl_NoKind) [.type "ValueError"]=some true:=(zfr (zgq zcQ v_NoKind_ValueError));have k_NoKind:mg "NoKind"=some (.ref kl_NoKind):=PySem.W.mg_of X G e_NoKind;have k_NoTie:mg "NoTie"=some (.ref kl_NoTie):=PySem.W.mg_of X G e_NoTie;have k_NoWeb:mg "NoWeb"=some (.ref kl_NoWeb):=PySem.W.mg_of X G e_NoWeb;have k_NoPoint:mg "NoPoint"=some (.ref kl_NoPoint):=PySem.W.mg_of X G e_NoPoint;have k_NoName:mg "NoName"=some (.ref kl_NoName):=PySem.W.mg_of X G e_NoName;have k_NoRow:mg "NoRow"=some (.ref kl_NoRow):=PySem.W.mg_of X G e_NoRow;have k_NoText:mg "NoText"=some (.ref kl_NoText):=PySem.W.mg_of X G e_NoText;have k_HallError:mg "HallError"=some (.ref kl_HallError):=PySem.W.mg_of X G e_HallError;have F1:=zaS (st:=zck) l1 c1 k1;have F2:=zaS (st:=za4) l2 c2 k2;have F3:=zaS (st:=zaZ) l3 c3 k3;have F4:=zaS (st:=zaK) l4 c4 k4;have F5:=zaS (st:=zaR) l5 c5 k5;have F6:=zaS (st:=zaL) l6 c6 k6;have F7:=zaS (st:=zav) l7 c7 k7;have F8:=zaS (st:=zaw) l8 c8 k8;have F9:=zaS (st:=zdW) l9 c9 k9;have b1:=F1.binds (ps:=[]) fun _ _ _ _ _ _ us hl=>by obtain rfl:=ln0 hl;exact rfl
 have b2:=F2.binds (ps:=["word"]) fun _ _ _ _ _ _ us hl=>by obtain ⟨x0,rfl⟩:=ln1 hl;exact rfl
 have b3:=F3.binds (ps:=["_law_number","_law_k"]) fun _ _ _ _ _ _ us hl=>by obtain ⟨x0,x1,rfl⟩:=ln2 hl;exact rfl
 have b4:=F4.binds (ps:=[]) fun _ _ _ _ _ _ us hl=>by obtain rfl:=ln0 hl;exact rfl
 have b5:=F5.binds (ps:=["_law_cell"]) fun _ _ _ _ _ _ us hl=>by obtain ⟨x0,rfl⟩:=ln1 hl;exact rfl
 have b6:=F6.binds (ps:=["_law_kind"]) fun _ _ _ _ _ _ us hl=>by obtain ⟨x0,rfl⟩:=ln1 hl;exact rfl
 have b7:=F7.binds (ps:=["_law_kind","_law_at"]) fun _ _ _ _ _ _ us hl=>by obtain ⟨x0,x1,rfl⟩:=ln2 hl;exact rfl
 have b8:=F8.binds (ps:=["_law_word_here"]) fun _ _ _ _ _ _ us hl=>by obtain ⟨x0,rfl⟩:=ln1 hl;exact rfl
 refine ⟨PySem.W.fnOf "law" "law" (zao zdW) (zai zdW) (zaa zdW) .none kV9 dc9 pm9 an9 cd9 ct9,fun s v=>.of_eq rfl,fun base _ _=>?_⟩;have Fw0:=zaS (st:=zaF) lw0 cw0 kw0;have bw0:=Fw0.binds (ps:=["self"]) fun _ _ _ _ _ _ us hl=>by obtain ⟨x0,rfl⟩:=ln1 hl;exact rfl
 have Fw1:=zaS (st:=zaz) lw1 cw1 kw1;have bw1:=Fw1.binds (ps:=["self"]) fun _ _ _ _ _ _ us hl=>by obtain ⟨x0,rfl⟩:=ln1 hl;exact rfl
 have Fw2:=zaS (st:=zaG) lw2 cw2 kw2;have bw2:=Fw2.binds (ps:=["self"]) fun _ _ _ _ _ _ us hl=>by obtain ⟨x0,rfl⟩:=ln1 hl;exact rfl
 have Fw3:=zaS (st:=zaH) lw3 cw3 kw3;have bw3:=Fw3.binds (ps:=["self"]) fun _ _ _ _ _ _ us hl=>by obtain ⟨x0,rfl⟩:=ln1 hl;exact rfl
 have Fw4:=zaS (st:=zaI) lw4 cw4 kw4;have bw4:=Fw4.binds (ps:=["self"]) fun _ _ _ _ _ _ us hl=>by obtain ⟨x0,rfl⟩:=ln1 hl;exact rfl
 have Fw5:=zaS (st:=zaA) lw5 cw5 kw5;have bw5:=Fw5.binds (ps:=["self"]) fun _ _ _ _ _ _ us hl=>by obtain ⟨x0,rfl⟩:=ln1 hl;exact rfl
 have Fw6:=zaS (st:=zaB) lw6 cw6 kw6;have bw6:=Fw6.binds (ps:=["self"]) fun _ _ _ _ _ _ us hl=>by obtain ⟨x0,rfl⟩:=ln1 hl;exact rfl
 have Fw7:=zaS (st:=zaJ) lw7 cw7 kw7;have bw7:=Fw7.binds (ps:=["self"]) fun _ _ _ _ _ _ us hl=>by obtain ⟨x0,rfl⟩:=ln1 hl;exact rfl
 have hkd:∀ i,i<8->Kd K (ka i):=fun i hi=>match i,hi with|0,_=>zbD kb0|1,_=>zbD kb1|2,_=>zbD kb2|3,_=>zbD kb3|4,_=>zbD kb4|5,_=>zbD kb5|6,_=>zbD kb6|7,_=>zbD kb7
 have hsb:∀ i j,i<8->j<9->PySem.W.kitOne K (.ref (ka i)) (.ref (ka j))=some (subF i j):=fun i j hi hj=>zjT sbb hi hj;have hmc:∀ i,i<8->MCal l.prog w K mg base 1 "word" (ka i) (wd i):=fun i hi=>match i,hi with|0,_=>⟨zbD kb0,gw0,_,_,zdI Fw0,⟨mw0,mf0,kw0⟩,bw0⟩|1,_=>⟨zbD kb1,gw1,_,_,zc6 Fw1,⟨mw1,mf1,kw1⟩,bw1⟩|2,_=>⟨zbD kb2,gw2,_,_,zdL Fw2,⟨mw2,mf2,kw2⟩,bw2⟩|3,_=>⟨zbD kb3,gw3,_,_,zdN Fw3,⟨mw3,mf3,kw3⟩,bw3⟩|4,_=>⟨zbD kb4,gw4,_,_,zdP Fw4,⟨mw4,mf4,kw4⟩,bw4⟩|5,_=>⟨zbD kb5,gw5,_,_,zc8 Fw5,⟨mw5,mf5,kw5⟩,bw5⟩|6,_=>⟨zbD kb6,gw6,_,_,zda Fw6,⟨mw6,mf6,kw6⟩,bw6⟩|7,_=>⟨zbD kb7,gw7,_,_,zdT Fw7,⟨mw7,mf7,kw7⟩,bw7⟩
 have kk_Sided:mg "Sided"=some (.ref (ka 0)):=PySem.W.mg_of X G ek_Sided;have kk_Rounds:mg "Rounds"=some (.ref (ka 1)):=PySem.W.mg_of X G ek_Rounds;have kk_Split:mg "Split"=some (.ref (ka 2)):=PySem.W.mg_of X G ek_Split;have kk_Steps:mg "Steps"=some (.ref (ka 3)):=PySem.W.mg_of X G ek_Steps;have kk_Joins:mg "Joins"=some (.ref (ka 4)):=PySem.W.mg_of X G ek_Joins;have kk_Ranked:mg "Ranked"=some (.ref (ka 5)):=PySem.W.mg_of X G ek_Ranked;have kk_Turned:mg "Turned"=some (.ref (ka 6)):=PySem.W.mg_of X G ek_Turned;have kk_Spans:mg "Spans"=some (.ref (ka 7)):=PySem.W.mg_of X G ek_Spans;have kk_Kind:mg "Kind"=some (.ref (ka 8)):=PySem.W.mg_of X G ek_Kind;have c_kinds:Cal l.prog w K mg base 1 "kinds" za9:=zgC F1 (PySem.W.mg_of X G a1) b1 hkd hsb hmc kk_Spans kk_Turned kk_Ranked kk_Joins kk_Steps kk_Split kk_Rounds kk_Sided;have cx_kind_of:CalX l.prog w K mg base 2 "kind_of" (zaD ⟨kl_HallError,kl_NoPoint,kl_NoWeb,kl_NoTie,kl_NoText,kl_NoKind,kl_NoRow,kl_NoName⟩):=zeE (cl:=⟨kl_HallError,kl_NoPoint,kl_NoWeb,kl_NoTie,kl_NoText,kl_NoKind,kl_NoRow,kl_NoName⟩) F2 (PySem.W.mg_of X G a2) b2 c_kinds hkd hsb hmc k_NoKind x_NoKind;have c_kind_of:Cal l.prog w K mg base 2 "kind_of" zbc:=ze5 F2 (PySem.W.mg_of X G a2) b2 c_kinds hkd hsb hmc;have c__law_mix:Cal l.prog w K mg base 1 "_law_mix" zau:=zeF F3 (PySem.W.mg_of X G a3) b3;have c__law_words:Cal l.prog w K mg base 1 "_law_words" zaj:=zdb F4 (PySem.W.mg_of X G a4) b4;have c__law_word:Cal l.prog w K mg base 2 "_law_word" zaQ:=zdV F5 (PySem.W.mg_of X G a5) b5 z_len z_range c__law_words c__law_mix;have c__law_marks:Cal l.prog w K mg base 1 "_law_marks" zaE:=zdc F6 (PySem.W.mg_of X G a6) b6 z_isinstance hkd hsb hmc kk_Steps kk_Split kk_Rounds kk_Sided kk_Turned kk_Ranked kk_Joins kk_Spans;have c__law_is_kind:Cal l.prog w K mg base 2 "_law_is_kind" zal:=zcw F7 (PySem.W.mg_of X G a7) b7 z_isinstance z_str z_range c__law_words c__law_marks hkd hsb hmc kk_Kind;have c__law_refused:Cal l.prog w K mg base 3 "_law_refused" zam:=zcx (cl:=⟨kl_HallError,kl_NoPoint,kl_NoWeb,kl_NoTie,kl_NoText,kl_NoKind,kl_NoRow,kl_NoName⟩) F8 (PySem.W.mg_of X G a8) b8 z_isinstance z_ValueError cx_kind_of k_NoTie k_NoWeb k_NoPoint k_NoName k_NoRow k_NoText k_NoKind k_HallError fe_NoKind fx_NoKind f0_NoKind f1_NoKind f2_NoKind f3_NoKind;exact zjX F9 z_isinstance z_list z_len z_range c_kinds c__law_is_kind c__law_word c__law_words c_kind_of c__law_refused hkd hsb hmc kk_Spans kk_Turned kk_Ranked kk_Joins kk_Steps kk_Split kk_Rounds kk_Sided
end Z
open PySem PySem.W PyProof.Rows
set_option maxRecDepth 100000 in
set_option maxHeartbeats 0 in
theorem PySem.Challenge.cw_cotreehall_k77_the_eight_kinds_holds : PySem.Challenge.rw_cotreehall_k77_the_eight_kinds.Holds := by
 refine Z.hd ?_
 k_fill
 refine VL.zky (l:=PySem.Challenge.rw_cotreehall_k77_the_eight_kinds) (k:=4) (x:="_law_script") rfl rfl ⟨rfl,by decide,by decide⟩ (fun w h Y=>PySem.W.kIn_of Y) ?F
 case F=>
  intro w mg fa h KX G hmg
  refine' Z.zjY KX G hmg ?a1 ?l1 ?c1 ?k1 ?a2 ?l2 ?c2 ?k2 ?a3 ?l3 ?c3 ?k3 ?a4 ?l4 ?c4 ?k4 ?a5 ?l5 ?c5 ?k5 ?a6 ?l6 ?c6 ?k6 ?a7 ?l7 ?c7 ?k7 ?a8 ?l8 ?c8 ?k8 ?a9 ?l9 ?c9 ?k9 ?ek_Sided ?ek_Rounds ?ek_Split ?ek_Steps ?ek_Joins ?ek_Ranked ?ek_Turned ?ek_Spans ?ek_Kind ?kb0 ?mw0 ?mf0 ?lw0 ?cw0 ?kw0 ?kb1 ?mw1 ?mf1 ?lw1 ?cw1 ?kw1 ?kb2 ?mw2 ?mf2 ?lw2 ?cw2 ?kw2 ?kb3 ?mw3 ?mf3 ?lw3 ?cw3 ?kw3 ?kb4 ?mw4 ?mf4 ?lw4 ?cw4 ?kw4 ?kb5 ?mw5 ?mf5 ?lw5 ?cw5 ?kw5 ?kb6 ?mw6 ?mf6 ?lw6 ?cw6 ?kw6 ?kb7 ?mw7 ?mf7 ?lw7 ?cw7 ?kw7 ?sbb ?e_HallError ?e_NoPoint ?e_NoWeb ?e_NoTie ?e_NoText ?e_NoKind ?e_NoRow ?e_NoName ?x_NoKind ?d_HallError ?t_HallError ?d_NoPoint ?t_NoPoint ?d_NoWeb ?t_NoWeb ?d_NoTie ?t_NoTie ?d_NoText ?t_NoText ?d_NoKind ?t_NoKind ?d_NoRow ?t_NoRow ?d_NoName ?t_NoName ?b_H ?q1_NoKind ?q2_NoKind ?q3_NoKind ?q4_NoKind ?q5_NoKind ?s_NoKind_HallError ?s_NoKind_NoPoint ?s_NoKind_NoWeb ?s_NoKind_NoTie ?s_NoKind_NoText ?s_NoKind_NoKind ?s_NoKind_NoRow ?s_NoKind_NoName ?v_NoKind_ValueError ?y_len ?y_range ?y_isinstance ?y_str ?y_ValueError ?y_list
  (case a1=>k_is)
  (case l1=>k_is)
  (case c1=>k_is)
  (case k1=>k_is)
  (case a2=>k_is)
  (case l2=>k_is)
  (case c2=>k_is)
  (case k2=>k_is)
  (case a3=>k_is)
  (case l3=>k_is)
  (case c3=>k_is)
  (case k3=>k_is)
  (case a4=>k_is)
  (case l4=>k_is)
  (case c4=>k_is)
  (case k4=>k_is)
  (case a5=>k_is)
  (case l5=>k_is)
  (case c5=>k_is)
  (case k5=>k_is)
  (case a6=>k_is)
  (case l6=>k_is)
  (case c6=>k_is)
  (case k6=>k_is)
  (case a7=>k_is)
  (case l7=>k_is)
  (case c7=>k_is)
  (case k7=>k_is)
  (case a8=>k_is)
  (case l8=>k_is)
  (case c8=>k_is)
  (case k8=>k_is)
  (case a9=>k_is)
  (case l9=>k_is)
  (case c9=>k_is)
  (case k9=>k_is)
  (case ek_Sided=>k_is)
  (case ek_Rounds=>k_is)
  (case ek_Split=>k_is)
  (case ek_Steps=>k_is)
  (case ek_Joins=>k_is)
  (case ek_Ranked=>k_is)
  (case ek_Turned=>k_is)
  (case ek_Spans=>k_is)
  (case ek_Kind=>k_is)
  (case kb0=>kernel_rfl)
  (case mw0=>k_is)
  (case mf0=>k_is)
  (case lw0=>k_is)
  (case cw0=>k_is)
  (case kw0=>k_is)
  (case kb1=>kernel_rfl)
  (case mw1=>k_is)
  (case mf1=>k_is)
  (case lw1=>k_is)
  (case cw1=>k_is)
  (case kw1=>k_is)
  (case kb2=>kernel_rfl)
  (case mw2=>k_is)
  (case mf2=>k_is)
  (case lw2=>k_is)
  (case cw2=>k_is)
  (case kw2=>k_is)
  (case kb3=>kernel_rfl)
  (case mw3=>k_is)
  (case mf3=>k_is)
  (case lw3=>k_is)
  (case cw3=>k_is)
  (case kw3=>k_is)
  (case kb4=>kernel_rfl)
  (case mw4=>k_is)
  (case mf4=>k_is)
  (case lw4=>k_is)
  (case cw4=>k_is)
  (case kw4=>k_is)
  (case kb5=>kernel_rfl)
  (case mw5=>k_is)
  (case mf5=>k_is)
  (case lw5=>k_is)
  (case cw5=>k_is)
  (case kw5=>k_is)
  (case kb6=>kernel_rfl)
  (case mw6=>k_is)
  (case mf6=>k_is)
  (case lw6=>k_is)
  (case cw6=>k_is)
  (case kw6=>k_is)
  (case kb7=>kernel_rfl)
  (case mw7=>k_is)
  (case mf7=>k_is)
  (case lw7=>k_is)
  (case cw7=>k_is)
  (case kw7=>k_is)
  (case sbb=>kernel_rfl)
  (case e_HallError=>k_is)
  (case e_NoPoint=>k_is)
  (case e_NoWeb=>k_is)
  (case e_NoTie=>k_is)
  (case e_NoText=>k_is)
  (case e_NoKind=>k_is)
  (case e_NoRow=>k_is)
  (case e_NoName=>k_is)
  (case x_NoKind=>k_exc)
  (case d_HallError=>k_is)
  (case t_HallError=>k_is)
  (case d_NoPoint=>k_is)
  (case t_NoPoint=>k_is)
  (case d_NoWeb=>k_is)
  (case t_NoWeb=>k_is)
  (case d_NoTie=>k_is)
  (case t_NoTie=>k_is)
  (case d_NoText=>k_is)
  (case t_NoText=>k_is)
  (case d_NoKind=>k_is)
  (case t_NoKind=>k_is)
  (case d_NoRow=>k_is)
  (case t_NoRow=>k_is)
  (case d_NoName=>k_is)
  (case t_NoName=>k_is)
  (case b_H=>k_is)
  (case q1_NoKind=>k_is)
  (case q2_NoKind=>k_is)
  (case q3_NoKind=>k_is)
  (case q4_NoKind=>k_is)
  (case q5_NoKind=>k_is)
  (case s_NoKind_HallError=>k_is)
  (case s_NoKind_NoPoint=>k_is)
  (case s_NoKind_NoWeb=>k_is)
  (case s_NoKind_NoTie=>k_is)
  (case s_NoKind_NoText=>k_is)
  (case s_NoKind_NoKind=>k_is)
  (case s_NoKind_NoRow=>k_is)
  (case s_NoKind_NoName=>k_is)
  (case v_NoKind_ValueError=>k_is)
  (case y_len=>k_is)
  (case y_range=>k_is)
  (case y_isinstance=>k_is)
  (case y_str=>k_is)
  (case y_ValueError=>k_is)
  (case y_list=>k_is)
