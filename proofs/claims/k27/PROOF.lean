import PyProof.Rows.All
import Wide.All
import OpenK.AllK
import Wide.FinOn
import Lean
import PyProof.EqAt
import PyProof.EqKinds
import PyProof.TupleCall
import PyProof.NeKinds
import PySem.Challenge.RW_tracebook_k27_whole_moves_and_norms
set_option Elab.async false
set_option linter.all false
set_option maxRecDepth 100000
namespace L2
open PySem PySem.Spec PyProof.Rows
abbrev Key:=Sum Int Str
def ip:Key→Value→Bool
 | .inl k,v=>Value.isInt k v
 | .inr x,v=>Value.isStrOf x v
def A5 (w:World):Key→Int
 | .inl k=>hashInt k
 | .inr x=>hashStr w x
theorem bx:∀ {k:Key} {v:Value},ip k v=true→(∃ i t,k=Sum.inl i∧v=Value.int i t)∨(∃ x t,k=Sum.inr x∧v=Value.str x t)
 | .inl i,v,h=>by
  obtain ⟨t,e⟩:=Value.isInt_shape (k:=i) (v:=v) h;exact .inl ⟨i,t,rfl,e⟩
 | .inr x,v,h=>by
  obtain ⟨t,e⟩:=Value.isStrOf_shape (x:=x) (v:=v) h;exact .inr ⟨x,t,rfl,e⟩
theorem qI (i:Int) (t:Tok):ip (.inl i) (.int i t)=true:=by simp [ip,Value.isInt]
theorem qY (x:Str) (t:Tok):ip (.inr x) (.str x t)=true:=by simp [ip,Value.isStrOf]
theorem xw (a b:Int):decide ((Sum.inl a:Key)=Sum.inl b)=(a == b):=by
 by_cases e:a=b
 ·subst e;simp
 ·have h:¬ (Sum.inl a:Key)=Sum.inl b:=fun q=>e (Sum.inl.inj q);rw [decide_eq_false h];exact (beq_eq_false_iff_ne.mpr e).symm
theorem xc (a b:Str):decide ((Sum.inr a:Key)=Sum.inr b)=decide (a=b):=by
 by_cases e:a=b
 ·subst e;simp
 ·have h:¬ (Sum.inr a:Key)=Sum.inr b:=fun q=>e (Sum.inr.inj q);rw [decide_eq_false h,decide_eq_false e]
theorem vU (a:Int) (b:Str):decide ((Sum.inl a:Key)=Sum.inr b)=false:=decide_eq_false (fun q=>nomatch q)
theorem vP (a:Str) (b:Int):decide ((Sum.inr a:Key)=Sum.inl b)=false:=decide_eq_false (fun q=>nomatch q)
def bA (prog:Program) (w:World):PySem.KeyKind prog w Key where
 is:=ip
 hash:=A5 w
 inj:=fun v a b ha hb=>by
  rcases bx ha with ⟨i,t,rfl,rfl⟩|⟨x,t,rfl,rfl⟩
  ·rcases bx hb with ⟨j,u,rfl,e⟩|⟨y,u,rfl,e⟩
   ·injection e with e1 _;rw [e1]
   ·exact nomatch e
  ·rcases bx hb with ⟨j,u,rfl,e⟩|⟨y,u,rfl,e⟩
   ·exact nomatch e
   ·injection e with e1 _;rw [e1]
 byValue:=fun k v h=>by
  rcases bx h with ⟨i,t,rfl,rfl⟩|⟨x,t,rfl,rfl⟩ <;> rfl
 pyHash:=fun hv h=>by
  rcases bx hv with ⟨i,t,rfl,rfl⟩|⟨x,t,rfl,rfl⟩
  ·exact wpAny_pyHash_int h
  ·exact wpAny_pyHash_str h
 eqBool:=fun hu hv h=>by
  rcases bx hu with ⟨i,t,rfl,rfl⟩|⟨x,t,rfl,rfl⟩
  ·rcases bx hv with ⟨j,u,rfl,rfl⟩|⟨y,u,rfl,rfl⟩
   ·rw [xw] at h;exact wpAny_eqBool_int h
   ·rw [vU] at h;exact SeqAt.EqAt.int_str i t y u _ _ _ _ h
  ·rcases bx hv with ⟨j,u,rfl,rfl⟩|⟨y,u,rfl,rfl⟩
   ·rw [vP] at h;exact SeqAt.EqAt.str_int x t j u _ _ _ _ h
   ·rw [xc] at h;exact wpAny_eqBool_str h
 «strs»:=fun k x t v h=>by
  rcases bx h with ⟨i,u,rfl,e⟩|⟨y,u,rfl,e⟩
  ·exact nomatch e
  ·injection e with e1 _;subst e1;cases v <;> rfl
theorem nQ (prog:Program) (w:World) (i:Int) (t:Tok):(bA prog w).is (.inl i) (.int i t)=true:=qI i t
theorem nZ (prog:Program) (w:World) (x:Str) (t:Tok):(bA prog w).is (.inr x) (.str x t)=true:=qY x t
end L2
namespace L2
open PySem PySem.Spec PyProof.Rows
inductive V where
 | non|bl (b:Bool)|int (i:Int)|str (x:Str)|byt (b:Array UInt8)|flt (b:UInt64)|ref (a:Addr)|ty (n:String)
 deriving DecidableEq
def RelV:V→Value→Prop
 | .non,u=>u=Value.none
 | .bl b,u=>u=Value.bool b
 | .int i,u=>∃ t,u=Value.int i t
 | .str x,u=>∃ t,u=Value.str x t
 | .byt b,u=>∃ t,u=Value.bytes b t
 | .flt b,u=>∃ t,u=Value.float b t
 | .ref a,u=>u=Value.ref a
 | .ty n,u=>u=Value.type n
abbrev Vals:List V→List Value→Prop:=Paired RelV
theorem Vals.length {xs:List V} {us:List Value} (r:Vals xs us):xs.length=us.length:=Paired.length r
theorem Vals.get:∀ {xs:List V} {us:List Value} {i:Nat} {x:V},Vals xs us→xs[i]?=some x→∃ u,us[i]?=some u∧RelV x u
 | _,_,_,_,.nil,e=>by simp at e
 | _,_,0,_,.cons r _,e=>by simp at e;subst e;exact ⟨_,rfl,r⟩
 | _,_,i+1,x,.cons _ t,e=>by
  obtain ⟨u,h1,h2⟩:=Vals.get (i:=i) (x:=x) t (by simpa using e)
  exact ⟨u,by simpa using h1,h2⟩
theorem Vals.set {x:V} {u:Value} (r:RelV x u):∀ {xs:List V} {us:List Value} (i:Nat),Vals xs us→Vals (xs.set i x) (us.set i u)
 | _,_,_,.nil=>.nil
 | _,_,0,.cons _ t=>.cons r t
 | _,_,i+1,.cons q t=>.cons q (Vals.set r i t)
theorem Vals.append:∀ {xs ys:List V} {us ws:List Value},Vals xs us→Vals ys ws→Vals (xs++ys) (us++ws)
 | _,_,_,_,.nil,s=>s
 | _,_,_,_,.cons r t,s=>.cons r (Vals.append t s)
theorem Vals.take:∀ {xs:List V} {us:List Value} (n:Nat),Vals xs us→Vals (xs.take n) (us.take n)
 | _,_,0,_=>.nil
 | _,_,_+1,.nil=>.nil
 | _,_,n+1,.cons r t=>.cons r (Vals.take n t)
theorem Vals.drop:∀ {xs:List V} {us:List Value} (n:Nat),Vals xs us→Vals (xs.drop n) (us.drop n)
 | _,_,0,r=>r
 | _,_,_+1,.nil=>.nil
 | _,_,n+1,.cons _ t=>Vals.drop n t
def cc:Option V→Option Value→Prop
 | some v,some u=>RelV v u
 | none,none=>True
 | _,_=>False
def KV {κ:Type}:List (κ×V)→List (κ×Value)→Prop:=Paired fun (p:κ×V) (q:κ×Value)=>p.1=q.1∧RelV p.2 q.2
def kV:Key→V
 | .inl i=>.int i
 | .inr x=>.str x
inductive HO where
  | lst (xs:List V)
  | tup (xs:List V)
  | dK (kvs:List (Key×V))|dT (kvs:List (List Key×V))
  | set (S:Int→Bool) (n:Nat)
  | ins (C dx:Addr) (fs:List (Str×V))
  | own (x:Addr)
  | xd (fs:List (Str×V))
  | met (f x:Addr)
  | rng (lo hi:Int)
  | frz (o:Obj) (u:HO)
  | tbl (ps:Array Value)
  | ext (φ:Heap→Prop)
abbrev Hp:=Addr→Option HO
def upd (H:Hp) (a:Addr) (o:HO):Hp:=fun b=>if b=a then some o else H b
theorem ai {H:Hp} {a:Addr} {o:HO}:upd H a o a=some o:=by unfold upd;rw [if_pos rfl]
theorem ag {H:Hp} {a b:Addr} {o:HO} (h:b≠a):upd H a o b=H b:=by unfold upd;rw [if_neg h]
theorem zY {H:Hp} {a b:Addr} {o u:HO} (h:H a=some o) (h':H b=some u) (d:o≠u):a≠b:=by
 intro e;subst e;rw [h] at h';exact d (Option.some.inj h')
theorem ao {H:Hp} {a b:Addr} {o:HO} (h:H a=some o) (h':H b=none):a≠b:=by
 intro e;subst e;rw [h] at h';cases h'
section
variable (P:Program) (w:World)
def aY (H:Hp) (h:Heap) (a:Addr):HO→Prop
 | .lst xs=>xs.length≤sizeLine∧∃ (its:List Value) (n:Nat),Vals xs its∧h.get? a=some { cls:=.type "list",data:=.seq its.toArray n }
 | .tup xs=>xs.length≤sizeLine∧∃ its:List Value,Vals xs its∧IsTup h a its.toArray
 | .dK kvs=>kvs.length≤sizeLine∧(a == sysModules)=false∧∃ vs,KV kvs vs∧h.DictOf (bA P w) a vs
 | .dT kvs=>kvs.length≤sizeLine∧(a == sysModules)=false∧∃ xs:List (List Key×Addr×Value),
   Paired (fun (p:List Key×V) (q:List Key×Addr×Value)=>p.1=q.1∧H q.2.1=some (.tup (p.1.map kV))∧RelV p.2 q.2.2) kvs xs ∧
   ∃ o es ep,h.get? a=some o∧o.ExactDict∧o.data=.dict es ep∧es.toList=xs.map (entryOfKey (tupleKind (bA P w)))∧(xs.map (·.1)).Nodup
 | .set S n=>h.SetOf (intKind P w) a S n
 | .ins C dx fs=>H dx=some (.own a)∧fs.length≤1000∧dx≠a∧h.get? a=some (PySem.W.instObj C dx) ∧
   ∃ mA,h.Ns1 dx mA∧(∀ f,cc (fs.lookup f) (mA f))∧PySem.Within mA (fs.map (·.1))
 | .own _=>∃ o,h.get? a=some o
 | .xd fs=>∃ mA,h.Ns1 a mA∧∀ f,cc (fs.lookup f) (mA f)
 | .rng lo hi=>∃ t u v,h.get? a=some { cls:=.type "range",data:=.fields #[.int lo t,.int hi u,.int 1 v] }
 | .frz o u=>h.get? a=some o∧aY H h a u
 | .tbl ps=>h.get? a=some { cls:=.none,data:=.fields ps }
 | .met f x=>h.get? a=some (PySem.W.methodObj (.ref f) (.ref x))
 | .ext φ=>φ h∧(∃ o,h.get? a=some o)∧∀ h1 h2:Heap,φ h1→(∀ o,h1.get? a=some o→h2.get? a=some o)→φ h2
def HOk (H:Hp) (h:Heap):Prop:=∀ a o,H a=some o→aY P w H h a o
end
section
variable {P:Program} {w:World} {H H':Hp} {h h':Heap} {a:Addr} {o:HO}
theorem aY.lt (x:aY P w H h a o):a<h.objs.size:=by
 cases o with
 | lst xs=>obtain ⟨_,_,_,_,e⟩:=x;exact Heap.lt_size e
 | tup xs=>obtain ⟨_,_,_,p⟩:=x;exact p.lt
 | dK kvs=>obtain ⟨_,_,_,_,o,_,_,e,_⟩:=x;exact Heap.lt_size e
 | dT kvs=>obtain ⟨_,_,_,_,o,_,_,e,_⟩:=x;exact Heap.lt_size e
 | set S n=>obtain ⟨o,_,_,_,e,_⟩:=x;exact Heap.lt_size e
 | ins C dx fs=>obtain ⟨_,_,_,e,_⟩:=x;exact Heap.lt_size e
 | own y=>obtain ⟨_,e⟩:=x;exact Heap.lt_size e
 | xd fs=>obtain ⟨_,⟨_,_,_,e,_⟩,_⟩:=x;exact Heap.lt_size e
 | rng lo hi=>obtain ⟨_,_,_,e⟩:=x;exact Heap.lt_size e
 | frz ob u=>obtain ⟨e,_⟩:=x;exact Heap.lt_size e
 | tbl ps=>exact Heap.lt_size (show h.get? a=some _ from x)
 | met f y=>exact Heap.lt_size (show h.get? a=some _ from x)
 | ext φ=>obtain ⟨_,⟨_,e⟩,_⟩:=x;exact Heap.lt_size e
theorem Paired.dq {α β:Type} {F G:α→β→Prop}:∀ {l₁:List α} {l₂:List β},Paired F l₁ l₂→(∀ a b,F a b→G a b)→Paired G l₁ l₂
 | _,_,.nil,_=>.nil
 | _,_,.cons r t,f=>.cons (f _ _ r) (Paired.dq t f)
theorem aY.iC (x:aY P w H h a o) (k:∀ b u,(b=a∨H b=some (.own a))→h.get? b=some u→h'.get? b=some u)
  (ho:∀ b,H b=some (.own a)→H' b=some (.own a)) (ht:∀ b xs,H b=some (.tup xs)→H' b=some (.tup xs)):aY P w H' h' a o:=by
 induction o with
 | lst xs=>obtain ⟨z,its,n,r,e⟩:=x;exact ⟨z,its,n,r,k _ _ (.inl rfl) e⟩
 | tup xs=>obtain ⟨z,its,r,ob,e,c⟩:=x;exact ⟨z,its,r,ob,k _ _ (.inl rfl) e,c⟩
 | dK kvs=>obtain ⟨z,y,vs,r,ob,es,ep,e,c⟩:=x;exact ⟨z,y,vs,r,ob,es,ep,k _ _ (.inl rfl) e,c⟩
 | dT kvs =>
  obtain ⟨z,y,xs,r,ob,es,ep,e,c⟩:=x;exact ⟨z,y,xs,Paired.dq r fun p q z=>⟨z.1,ht _ _ z.2.1,z.2.2⟩,ob,es,ep,k _ _ (.inl rfl) e,c⟩
 | set S n=>obtain ⟨ob,es,ep,t,e,c⟩:=x;exact ⟨ob,es,ep,t,k _ _ (.inl rfl) e,c⟩
 | ins C dx fs =>
  obtain ⟨d,z,ne,e,mA,⟨od,es,ep,e2,c⟩,r⟩:=x;exact ⟨ho _ d,z,ne,k _ _ (.inl rfl) e,mA,⟨od,es,ep,k _ _ (.inr d) e2,c⟩,r⟩
 | own y=>obtain ⟨ob,e⟩:=x;exact ⟨ob,k _ _ (.inl rfl) e⟩
 | xd fs=>obtain ⟨mA,⟨od,es,ep,e,c⟩,r⟩:=x;exact ⟨mA,⟨od,es,ep,k _ _ (.inl rfl) e,c⟩,r⟩
 | rng lo hi=>obtain ⟨t,u,v,e⟩:=x;exact ⟨t,u,v,k _ _ (.inl rfl) e⟩
 | frz ob u ih=>obtain ⟨e,q⟩:=x;exact ⟨k _ _ (.inl rfl) e,ih q⟩
 | tbl ps =>
  have e:h.get? a=some { cls:=.none,data:=.fields ps }:=x;show h'.get? a=some { cls:=.none,data:=.fields ps };exact k a _ (.inl rfl) e
 | met f y =>
  have e:h.get? a=some (PySem.W.methodObj (.ref f) (.ref y)):=x;show h'.get? a=some (PySem.W.methodObj (.ref f) (.ref y));exact k a _ (.inl rfl) e
 | ext φ=>obtain ⟨p,⟨o,e⟩,st⟩:=x;exact ⟨st _ _ p fun o q=>k _ _ (.inl rfl) q,⟨o,k _ _ (.inl rfl) e⟩,st⟩
theorem HOk.lt (x:HOk P w H h) (e:H a=some o):a<h.objs.size:=(x a o e).lt
theorem HOk.fresh (x:HOk P w H h) (e:h.objs.size≤a):H a=none:=by
 cases q:H a with
 | none=>rfl
 | some u=>exact absurd (Nat.lt_of_lt_of_le (x.lt q) e) (Nat.lt_irrefl _)
theorem HOk.kept (x:HOk P w H h) (k:∀ b u,h.get? b=some u→h'.get? b=some u):HOk P w H h':=fun a o e =>
 (x a o e).iC (fun b u _ q=>k b u q) (fun _ q=>q) fun _ _ q=>q
theorem HOk.laid (x:HOk P w H h) (k:∀ b u,h.get? b=some u→h'.get? b=some u) (hp:h.objs.size≤a) (new:aY P w (upd H a o) h' a o):HOk P w (upd H a o) h':=fun b u e=>by
 have hn:=x.fresh hp
 by_cases hb:b=a
 ·subst hb;rw [ai] at e;cases e;exact new
 ·rw [ag hb] at e;exact (x b u e).iC (fun c v _ q=>k c v q) (fun c q=>by rw [ag (ao q hn)];exact q) fun c xs q=>by rw [ag (ao q hn)];exact q
end
def Rd (H:Hp) (a:Addr) (u:HO):Prop:=H a=some u∨∃ o,H a=some (.frz o u)
theorem Rd.of {H:Hp} {a:Addr} {u:HO} (h:H a=some u):Rd H a u:=.inl h
theorem Rd.ok {P:Program} {w:World} {H:Hp} {h:Heap} {a:Addr} {u:HO} (r:Rd H a u) (x:HOk P w H h):aY P w H h a u:=by
 rcases r with r|⟨o,r⟩
 ·exact x a u r
 ·obtain ⟨_,q⟩:=x a _ r;exact q
def Mut:Option HO→Prop
 | some (.lst _)=>True
 | some (.dK _)=>True
 | some (.dT _)=>True
 | some (.set _ _)=>True
 | some (.ins _ _ _)=>True
 | some (.ext _)=>True
 | _=>False
section
variable {P:Program} {w:World} {H:Hp} {h h':Heap} {x e:Addr} {o':HO}
theorem HOk.write (ok:HOk P w H h) (mu:Mut (H x)) (he:e=x∨H e=some (.own x)) (k:∀ b u,b≠e→h.get? b=some u→h'.get? b=some u) (heo:∃ u,h'.get? e=some u)
  (new:aY P w (upd H x o') h' x o'):HOk P w (upd H x o') h':=fun b u q=>by
 have nown:∀ c y,H c=some (.own y)→c≠x:=fun c y r z=>by subst z;rw [r] at mu;exact mu
 have ntup:∀ c xs,H c=some (.tup xs)→c≠x:=fun c xs r z=>by subst z;rw [r] at mu;exact mu
 by_cases hb:b=x
 ·subst hb;rw [ai] at q;cases q;exact new
 ·rw [ag hb] at q
  by_cases hbe:b=e
  ·have q':H b=some (.own x):=by
    rcases he with z|z
    ·exact absurd (hbe.trans z) hb
    ·rw [hbe];exact z
   rw [q] at q';cases q';obtain ⟨v,hv⟩:=heo;exact ⟨v,by rw [hbe];exact hv⟩
  ·refine (ok b u q).iC (fun c v hc r=>k c v ?_ r) (fun c r=>by rw [ag (nown c b r)];exact r) fun c xs r=>by rw [ag (ntup c xs r)];exact r
   rcases hc with rfl|hc
   ·exact hbe
   ·rintro rfl;rcases he with z|z
    ·exact nown c b hc z
    ·rw [hc] at z;cases z;exact hb rfl
end
structure Un (fs ex:List Addr) (H H':Hp) (h h':Heap):Prop where
 keep:∀ b o,h.get? b=some o→H b=none→b∉fs→b∉ex→h'.get? b=some o
 slot:∀ b o,h.get? b=some o→H b=none→b∈fs→b∉ex→∃ sl,h'.get? b=some { o with slots:=sl }
 free:∀ b o,h.get? b=some o→H b=none→b∉ex→H' b=none
 there:∀ b o,h.get? b=some o→b∉ex→∃ o',h'.get? b=some o'
 d4:∀ b xs,H b=some (.tup xs)→H' b=some (.tup xs)
 dF:∀ b o u,H b=some (.frz o u)→H' b=some (.frz o u)
 eh:∀ b ps,H b=some (.tbl ps)→∃ more,H' b=some (.tbl (ps++more))
section
variable {fs fs' ex ex':List Addr} {H H1 H2:Hp} {h h1 h2 h':Heap} {a x e:Addr} {o:HO}
theorem Un.any (u:Un fs ex H H1 h h1) {b:Addr} {ob:Obj} (q:h.get? b=some ob) (n:H b=none) (hx:b∉ex):∃ sl,h1.get? b=some { ob with slots:=sl }:=by
 by_cases hb:b∈fs
 ·exact u.slot b ob q n hb hx
 ·exact ⟨ob.slots,u.keep b ob q n hb hx⟩
theorem Un.trans (a:Un fs ex H H1 h h1) (b:Un fs ex H1 H2 h1 h2):Un fs ex H H2 h h2 where
 keep:=fun c ob q n hc hx=>b.keep c ob (a.keep c ob q n hc hx) (a.free c ob q n hx) hc hx
 slot:=fun c ob q n hc hx=>by
  obtain ⟨sl,e1⟩:=a.slot c ob q n hc hx;obtain ⟨sl',e2⟩:=b.slot c _ e1 (a.free c ob q n hx) hc hx;exact ⟨sl',e2⟩
 free:=fun c ob q n hx=>by
  obtain ⟨o',e1⟩:=a.there c ob q hx;exact b.free c o' e1 (a.free c ob q n hx) hx
 there:=fun c ob q hx=>by
  obtain ⟨o',e1⟩:=a.there c ob q hx;exact b.there c o' e1 hx
 d4:=fun c xs q=>b.d4 c xs (a.d4 c xs q)
 dF:=fun c ob xs q=>b.dF c ob xs (a.dF c ob xs q)
 eh:=fun c ps q=>by
  obtain ⟨m1,e1⟩:=a.eh c ps q;obtain ⟨m2,e2⟩:=b.eh c _ e1;exact ⟨m1++m2,by rw [e2,Array.append_assoc]⟩
theorem Un.kept (k:∀ b u,h.get? b=some u→h'.get? b=some u):Un fs ex H H h h' :=
 ⟨fun b ob q _ _ _=>k b ob q,fun b ob q _ _ _=>⟨ob.slots,k b ob q⟩,fun _ _ _ n _=>n,fun b ob q _=>⟨ob,k b ob q⟩,fun _ _ q=>q,fun _ _ _ q=>q,fun _ ps q=>⟨#[],by rw [q];simp⟩⟩
theorem Un.refl:Un fs ex H H h h:=Un.kept fun _ _ q=>q
theorem Un.laid (k:∀ b u,h.get? b=some u→h'.get? b=some u) (hp:h.objs.size≤a) (hn:H a=none):Un fs ex H (upd H a o) h h' where
 keep:=fun b u q _ _ _=>k b u q
 slot:=fun b u q _ _ _=>⟨u.slots,k b u q⟩
 free:=fun b u q n _=>by rw [ag (Nat.ne_of_lt (Nat.lt_of_lt_of_le (Heap.lt_size q) hp))];exact n
 there:=fun b u q _=>⟨u,k b u q⟩
 d4:=fun b xs q=>by rw [ag (ao q hn)];exact q
 dF:=fun b u xs q=>by rw [ag (ao q hn)];exact q
 eh:=fun b ps q=>⟨#[],by rw [ag (ao q hn),q];simp⟩
theorem Un.write (mu:Mut (H x)) (he:e=x∨H e=some (.own x)) (k:∀ b u,b≠e→h.get? b=some u→h'.get? b=some u) (heo:∃ u,h'.get? e=some u):Un fs ex H (upd H x o) h h':=by
 have hx:∀ b,H b=none→b≠x:=fun b n z=>by subst z;rw [n] at mu;exact mu
 have hb:∀ b,H b=none→b≠e:=fun b n z=>by
  subst z;rcases he with r|r
  ·exact hx b n r
  ·rw [n] at r;cases r
 have hm:∀ b u,H b=some u→¬ Mut (some u)→b≠x:=fun b u q nm z=>by subst z;rw [q] at mu;exact nm mu
 refine ⟨fun b u q n _ _=>k b u (hb b n) q,fun b u q n _ _=>⟨u.slots,k b u (hb b n) q⟩,fun b u q n _=>by rw [ag (hx b n)];exact n,fun b u q _=>?_,
  fun b xs q=>by rw [ag (hm b _ q fun z=>z)];exact q,fun b u xs q=>by rw [ag (hm b _ q fun z=>z)];exact q,fun b ps q=>⟨#[],by rw [ag (hm b _ q fun z=>z),q];simp⟩⟩
 by_cases hbe:b=e
 ·subst hbe;exact heo
 ·exact ⟨u,k b u hbe q⟩
theorem Un.mono (u:Un fs ex H H1 h h1) (hs:∀ b∈fs,b∈fs') (hx:∀ b∈ex,b∈ex'):Un fs' ex' H H1 h h1 :=
 ⟨fun b ob q n hb he=>u.keep b ob q n (fun z=>hb (hs b z)) fun z=>he (hx b z),fun _ _ q n _ he=>u.any q n fun z=>he (hx _ z),fun b ob q n he=>u.free b ob q n fun z=>he (hx b z),fun b ob q he=>u.there b ob q fun z=>he (hx b z),u.d4,u.dF,u.eh⟩
end
def trk (h:Heap) (H:Hp):List Addr:=(List.range h.objs.size).filter fun a=>(H a).isSome
def gq (h:Heap) (H:Hp):Heap:=PySem.W.hideAll h (trk h H)
theorem rZ (h:Heap) (H:Hp):(gq h H).objs.size=h.objs.size:=PySem.W.hideAll_size _ _
theorem tF {h:Heap} {H:Hp} {b:Addr} {o:Obj} (e:h.get? b=some o) (n:H b=none):(gq h H).get? b=some o :=
 PySem.W.hideAll_get _ e fun hm=>by
  have q:(H b).isSome=true:=(List.mem_filter.mp hm).2;rw [n] at q;simp at q
theorem vt {h:Heap} {H:Hp} {b:Addr} {o:Obj} (e:(gq h H).get? b=some o):h.get? b=some o∧H b=none:=by
 have e':h.get? b=some o:=PySem.W.of_hideAll (trk h H) e;refine ⟨e',?_⟩;cases q:H b with
 | none=>rfl
 | some x =>
  have hm:b∈trk h H:=List.mem_filter.mpr ⟨List.mem_range.mpr (Heap.lt_size e'),by simp [q]⟩
  have z:(gq h H).get? b=none:=PySem.W.hideAll_none (trk h H) hm;rw [z] at e;cases e
end L2
namespace L2
open PySem PySem.Spec PyProof.Rows
structure Mod (K:PySem.W.Frag) (mg:Str→Option Value) (base:Heap):Prop where
 kin:K.In base
 glob:base.Ns mainGlobals mg
 blt:∃ mb,base.Ns builtinsNs mb∧∀ x:Str,x ≠ "__name__" → mb x=bootBuiltins x
 nolimit:base.NoLimit
structure Cx where
 prog:Program
 w:World
 K:PySem.W.Frag
 mg:Str→Option Value
 base:Heap
 A:Around
 N:List Str
 s₀:Shared
 H₀:Hp
 env:Env
 outer:List Env
 stack:List Env
 ex:List Addr
 fn:Str→Bool
 calm:Bool
 pn:List (Addr×Obj)
 xe:Value→Shared→Prop
def frs (l:List Env):List Addr:=l.filterMap (·.frame)
abbrev Cx.fs (X:Cx):List Addr:=frs X.outer
def Vis (sc:Scope) (x:Str):Prop:=sc.names.lookup x=some .local∨sc.names.lookup x=some .cell∨sc.names.lookup x=some .free
def Loc (sc:Scope) (x:Str):Prop:=sc.names.lookup x=some .local∨sc.names.lookup x=some .cell
def Look (env:Env) (h:Heap) (m:Str→Option Value) (x:Str) (u:Value):Prop :=
 (env.kindOf x=some .local∧m x=some u)∨((env.kindOf x=some .cell∨env.kindOf x=some .free)∧∃ c,env.cells.lookup x=some c∧h.IsCell c (some u))
structure Cx.Ok (X:Cx):Prop where
 mod:Mod X.K X.mg X.base
 kind:X.env.scope.kind=.function
 glob:X.env.globals=mainGlobals
 blt:X.env.builtins=builtinsNs
 above:X.s₀.heap.objs.size≤X.env.locals
 inj:∀ x y c,X.env.cells.lookup x=some c→X.env.cells.lookup y=some c→x=y
 has:∀ x,(X.env.kindOf x=some .cell∨X.env.kindOf x=some .free)→∃ c,X.env.cells.lookup x=some c
 cab:∀ x c,X.fn x=true→X.env.cells.lookup x=some c→X.s₀.heap.objs.size≤c
 hd:X.calm=true→X.A.handled=none
 frames:X.A.frames=some X.stack
 stk:X.stack=X.outer∨(X.stack=X.env :: X.outer∧X.env.frame=some X.env.locals)
 exf:∀ b∈X.ex,b≠X.env.locals∧∀ x c,X.env.cells.lookup x=some c→c≠b
 bs:∀ b o,X.base.get? b=some o→X.s₀.heap.get? b=some o∧X.H₀ b=none
 bsz:X.base.objs.size≤X.s₀.heap.objs.size
 mK:∀ b o,X.base.get? b=some o→b∉X.ex
 mV:∀ b∈X.ex,b∉X.fs
 dk:X.s₀.heap.FunFrames X.base X.outer
 frf:∀ b∈X.fs,X.H₀ b=none
structure Inv (X:Cx) (pins:List (Addr×Obj)) (σ:List (Option V)) (H:Hp) (s:Shared):Prop where
 ok:X.Ok
 os:s.os=X.s₀.os
 bare:AllBare s.gens
 base:Un X.fs X.ex X.H₀ H X.s₀.heap s.heap
 loc:∃ m,s.heap.Ns X.env.locals m∧∀ (i:Nat) (x:Str) (v:V),X.N[i]?=some x→σ[i]?=some (some v)→Vis X.env.scope x→∃ u,RelV v u∧Look X.env s.heap m x u
 cell:∀ x c,X.env.cells.lookup x=some c→∃ v,s.heap.IsCell c v
 free:H X.env.locals=none
 dw:∀ x c,X.env.cells.lookup x=some c→H c=none
 pin:∀ p∈X.pn++pins,s.heap.get? p.1=some p.2∧H p.1=none∧p.1≠X.env.locals∧p.1∉X.fs∧∀ v,p.2.data≠.cell v
 hok:HOk X.prog X.w H s.heap
 len:σ.length=X.N.length
section
variable {X:Cx} {pins:List (Addr×Obj)} {σ:List (Option V)} {H H':Hp} {s:Shared} {h':Heap}
theorem Cx.Ok.AZ (ok:X.Ok) {b:Addr} {o:Obj} (e:X.base.get? b=some o):b∉X.fs:=fun hb=>by
 have:=(ok.dk.mem hb).1;rw [e] at this;cases this
theorem Inv.bs (I:Inv X pins σ H s):∀ b o,X.base.get? b=some o→s.heap.get? b=some o∧H b=none:=fun b o e =>
 ⟨I.base.keep b o (I.ok.bs b o e).1 (I.ok.bs b o e).2 (I.ok.AZ e) (I.ok.mK b o e),I.base.free b o (I.ok.bs b o e).1 (I.ok.bs b o e).2 (I.ok.mK b o e)⟩
theorem Inv.bk (I:Inv X pins σ H s):∀ b o,X.base.get? b=some o→s.heap.get? b=some o:=fun b o e=>(I.bs b o e).1
theorem Inv.mod (I:Inv X pins σ H s):Mod X.K X.mg X.base:=I.ok.mod
theorem Inv.kIn (I:Inv X pins σ H s):X.K.In s.heap:=I.ok.mod.kin.keeps I.bk
theorem Inv.lt (I:Inv X pins σ H s):X.env.locals<s.heap.objs.size:=let ⟨_,hn,_⟩:=I.loc;hn.lt
theorem Inv.sz (I:Inv X pins σ H s):X.s₀.heap.objs.size≤s.heap.objs.size:=Nat.le_trans I.ok.above (Nat.le_of_lt I.lt)
theorem Inv.A6 (I:Inv X pins σ H s) {a:Addr} (h:s.heap.objs.size≤a):a∉X.fs:=fun hb=>by
 obtain ⟨_,o,ho,_⟩:=I.ok.dk.mem hb;exact absurd (Nat.lt_of_lt_of_le (Heap.lt_size ho) (Nat.le_trans I.sz h)) (Nat.lt_irrefl _)
theorem Inv.cne (I:Inv X pins σ H s):∀ x c,X.env.cells.lookup x=some c→c≠X.env.locals:=fun x c e z=>by
 obtain ⟨v,o,ho,hd⟩:=I.cell x c e;obtain ⟨m,⟨o',es,ep,ho',hd',_⟩,_⟩:=I.loc;rw [z,ho'] at ho;cases ho;rw [hd'] at hd;cases hd
theorem Inv.dk (I:Inv X pins σ H s):s.heap.FunFrames X.base X.outer:=by
 have all:∀ (l:List Env),(∀ b∈frs l,b∈X.fs)→X.s₀.heap.FunFrames X.base l→s.heap.FunFrames X.base l:=by
  intro l
  induction l with
  | nil=>intro _ _;trivial
  | cons env r ih =>
   intro hs hl;obtain ⟨hk,⟨L,o,hf,hn,ho,hd⟩,hr⟩:=hl;have hL:L∈X.fs:=hs L (by unfold frs;rw [List.filterMap_cons,hf];exact List.mem_cons_self)
   obtain ⟨sl,e⟩:=I.base.slot L o ho (I.ok.frf L hL) hL fun z=>I.ok.mV L z hL;exact ⟨hk,⟨L,_,hf,hn,e,hd⟩,ih (fun b hb=>hs b (by unfold frs;rw [List.filterMap_cons,hf];exact List.mem_cons_of_mem _ hb)) hr⟩
 exact all X.outer (fun _ hb=>hb) I.ok.dk
theorem Inv.stack (I:Inv X pins σ H s):s.heap.FunFrames X.base X.stack:=by
 rcases I.ok.stk with e|⟨e,hf⟩
 ·rw [e];exact I.dk
 ·rw [e];obtain ⟨m,hn,_⟩:=I.loc;refine .cons (by rw [I.ok.kind];decide) hf hn ?_ I.dk
  exact Heap.get?_none_of_le (Nat.le_trans I.ok.bsz I.ok.above)
theorem Inv.mU (I:Inv X pins σ H s):∀ b∈frs X.stack,b∈X.env.locals :: X.fs:=fun b hb=>by
 rcases I.ok.stk with e|⟨e,hf⟩
 ·rw [e] at hb;exact List.mem_cons_of_mem _ hb
 ·rw [e] at hb;unfold frs at hb;rw [List.filterMap_cons,hf] at hb;exact hb
theorem Inv.oC (I:Inv X pins σ H s):∀ b∈frs X.stack,H b=none:=fun b hb=>by
 rcases List.mem_cons.mp (I.mU b hb) with e|hb
 ·rw [e];exact I.free
 ·obtain ⟨_,o,ho,_⟩:=I.ok.dk.mem hb;exact I.base.free b o ho (I.ok.frf b hb) fun z=>I.ok.mV b z hb
theorem Inv.step {g':Array GenState} {t':Nat} {d':Drawn} {ch:List Addr} (I:Inv X pins σ H s)
  (hch:∀ b∈ch,(b∈X.ex∨X.s₀.heap.objs.size≤b)∧b≠X.env.locals∧(∀ x c,X.env.cells.lookup x=some c→c≠b)∧∀ p∈X.pn++pins,p.1≠b)
  (keep:∀ b o,b≠X.env.locals→b∉X.fs→b∉ch→s.heap.get? b=some o→H b=none→h'.get? b=some o)
  (slot:∀ b o,b≠X.env.locals→b∈X.fs→b∉ch→s.heap.get? b=some o→H b=none→∃ sl,h'.get? b=some { o with slots:=sl }) (free:∀ b o,b∉ch→s.heap.get? b=some o→H b=none→H' b=none)
  (there:∀ b o,b∉ch→s.heap.get? b=some o→∃ o',h'.get? b=some o')
  (d4:∀ b xs,H b=some (.tup xs)→H' b=some (.tup xs)) (dF:∀ b o u,H b=some (.frz o u)→H' b=some (.frz o u)) (eh:∀ b ps,H b=some (.tbl ps)→∃ more,H' b=some (.tbl (ps++more)))
  (ns:∀ m,s.heap.Ns X.env.locals m→h'.Ns X.env.locals m) (hok:HOk X.prog X.w H' h') (hg:AllBare g') :
  Inv X pins σ H' { s with heap:=h',gens:=g',drawn:=d',toks:=t' }:=by
 have neL:∀ b o,X.s₀.heap.get? b=some o→b≠X.env.locals:=fun b o e=>Nat.ne_of_lt (Nat.lt_of_lt_of_le (Heap.lt_size e) I.ok.above);have neC:∀ b o,X.s₀.heap.get? b=some o→b∉X.ex→b∉ch:=fun b o e hx hb=>by
  rcases (hch b hb).1 with z|z
  ·exact hx z
  ·exact absurd (Nat.lt_of_lt_of_le (Heap.lt_size e) z) (Nat.lt_irrefl _)
 have cellK:∀ x c,X.env.cells.lookup x=some c→∀ v,s.heap.IsCell c v→h'.IsCell c v:=fun x c e v ⟨o,ho,hd⟩=>by
  have nch:c∉ch:=fun z=>(hch c z).2.2.1 x c e rfl
  by_cases hc:c∈X.fs
  ·obtain ⟨sl,q⟩:=slot c o (I.cne x c e) hc nch ho (I.dw x c e);exact ⟨_,q,hd⟩
  ·exact ⟨o,keep c o (I.cne x c e) hc nch ho (I.dw x c e),hd⟩
 refine ⟨I.ok,I.os,hg,⟨fun b o e n hb hx=>?_,fun b o e n hb hx=>?_,fun b o e n hx=>?_,fun b o e hx=>?_,fun b xs e=>d4 b xs (I.base.d4 b xs e),fun b o xs e=>dF b o xs (I.base.dF b o xs e),fun b ps e=>?_⟩,?_,fun x c e=>?_,?_,fun x c e=>?_,fun p hp=>?_,hok,I.len⟩
 ·exact keep b o (neL b o e) hb (neC b o e hx) (I.base.keep b o e n hb hx) (I.base.free b o e n hx)
 ·obtain ⟨sl,e1⟩:=I.base.slot b o e n hb hx;obtain ⟨sl',e2⟩:=slot b _ (neL b o e) hb (neC b o e hx) e1 (I.base.free b o e n hx);exact ⟨sl',e2⟩
 ·obtain ⟨o',e1⟩:=I.base.there b o e hx;exact free b o' (neC b o e hx) e1 (I.base.free b o e n hx)
 ·obtain ⟨o',e1⟩:=I.base.there b o e hx;exact there b o' (neC b o e hx) e1
 ·obtain ⟨m1,e1⟩:=I.base.eh b ps e;obtain ⟨m2,e2⟩:=eh b _ e1;exact ⟨m1++m2,by rw [e2,Array.append_assoc]⟩
 ·obtain ⟨m,hn,hl⟩:=I.loc;refine ⟨m,ns m hn,fun i x v e1 e2 e3=>?_⟩;obtain ⟨u,r,l⟩:=hl i x v e1 e2 e3;refine ⟨u,r,?_⟩;rcases l with l|⟨k,c,e,z⟩
  ·exact .inl l
  ·exact .inr ⟨k,c,e,cellK x c e _ z⟩
 ·obtain ⟨v,z⟩:=I.cell x c e;exact ⟨v,cellK x c e v z⟩
 ·obtain ⟨m,⟨o,_,_,ho,_⟩,_⟩:=I.loc;exact free _ o (fun z=>(hch _ z).2.1 rfl) ho I.free
 ·obtain ⟨v,o,ho,hd⟩:=I.cell x c e;exact free c o (fun z=>(hch c z).2.2.1 x c e rfl) ho (I.dw x c e)
 ·obtain ⟨e,n,ne,nf,d⟩:=I.pin p hp;have nch:p.1∉ch:=fun z=>(hch p.1 z).2.2.2 p hp rfl;exact ⟨keep p.1 p.2 ne nf nch e n,free p.1 p.2 nch e n,ne,nf,d⟩
theorem Inv.un {t':Nat} (I:Inv X pins σ H s) (u:Un X.fs [] H H' s.heap h') (hok:HOk X.prog X.w H' h'):Inv X pins σ H' { s with heap:=h',toks:=t' }:=by
 obtain ⟨m,⟨o,es,ep,ho,r⟩,_⟩:=id I.loc;obtain ⟨sl,hL⟩:=u.any ho I.free (by simp)
 exact I.step (g':=s.gens) (d':=s.drawn) (ch:=[]) (fun _ z=>nomatch z) (fun b o _ hb _ e n=>u.keep b o e n hb (by simp)) (fun b o _ hb _ e n=>u.slot b o e n hb (by simp)) (fun b o _ e n=>u.free b o e n (by simp)) (fun b o _ e=>u.there b o e (by simp)) u.d4 u.dF u.eh (fun m' hm=>by
  obtain ⟨o',es',ep',ho',r'⟩:=hm;rw [ho] at ho';cases ho';exact ⟨_,es',ep',hL,r'⟩) hok I.bare
theorem Inv.call {g':Array GenState} {t':Nat} {d':Drawn} {ch:List Addr} (I:Inv X pins σ H s) (u:Un (frs X.stack) ch H H' s.heap h') (hok:HOk X.prog X.w H' h') (hg:AllBare g')
  (hch:∀ b∈ch,(b∈X.ex∨X.s₀.heap.objs.size≤b)∧b≠X.env.locals∧(∀ x c,X.env.cells.lookup x=some c→c≠b)∧∀ p∈X.pn++pins,p.1≠b) :
  Inv X pins σ H' { s with heap:=h',gens:=g',drawn:=d',toks:=t' }:=by
 obtain ⟨m,⟨o,es,ep,ho,r⟩,_⟩:=id I.loc;obtain ⟨sl,hL⟩:=u.any ho I.free fun z=>(hch _ z).2.1 rfl;exact I.step (ch:=ch) hch (fun b o hL hb hc e n=>u.keep b o e n (fun z=>(List.mem_cons.mp (I.mU b z)).elim hL hb) hc) (fun b o _ _ hc e n=>u.any e n hc) (fun b o hc e n=>u.free b o e n hc) (fun b o hc e=>u.there b o e hc) u.d4 u.dF u.eh (fun m' hm=>by
  obtain ⟨o',es',ep',ho',r'⟩:=hm;rw [ho] at ho';cases ho';exact ⟨_,es',ep',hL,r'⟩) hok hg
theorem Inv.turned {t':Nat} {it:Addr} (I:Inv X pins σ H s) (k:∀ b o,b≠it→s.heap.get? b=some o→h'.get? b=some o) (hn:H it=none) (hL:it≠X.env.locals)
  (h1:it∈X.ex∨X.s₀.heap.objs.size≤it) (h2:∀ x c,X.env.cells.lookup x=some c→c≠it) (h3:∀ p∈X.pn++pins,p.1≠it):Inv X pins σ H { s with heap:=h',toks:=t' }:=by
 have nit:∀ b u,H b=some u→b≠it:=fun b u e z=>by rw [z,hn] at e;cases e
 refine I.step (g':=s.gens) (d':=s.drawn) (ch:=[it]) (fun b hb=>?_) (fun b o _ _ hc e _=>k b o (fun z=>hc (by simp [z])) e) (fun b o _ _ hc e _=>⟨o.slots,k b o (fun z=>hc (by simp [z])) e⟩) (fun _ _ _ _ n=>n)
  (fun b o hc e=>⟨o,k b o (fun z=>hc (by simp [z])) e⟩) (fun _ _ e=>e) (fun _ _ _ e=>e) (fun b ps e=>⟨#[],by rw [e];simp⟩) (fun m hm=>?_) (fun b u e=>?_) I.bare
 ·have e:b=it:=by simpa using hb
  subst e;exact ⟨h1,hL,h2,h3⟩
 ·obtain ⟨o,es,ep,ho,r⟩:=hm;exact ⟨o,es,ep,k _ o (Ne.symm hL) ho,r⟩
 ·refine (I.hok b u e).iC (fun c v hc q=>k c v ?_ q) (fun _ q=>q) fun _ _ q=>q;rcases hc with z|z
  ·rw [z];exact nit b u e
  ·exact nit c _ z
theorem Inv.tok (I:Inv X pins σ H s) (t:Nat):Inv X pins σ H { s with toks:=t }:=I.un (h':=s.heap) (t':=t) Un.refl I.hok
theorem Inv.kept {t':Nat} (I:Inv X pins σ H s) (k:∀ b u,s.heap.get? b=some u→h'.get? b=some u):Inv X pins σ H { s with heap:=h',toks:=t' }:=I.un (Un.kept k) (I.hok.kept k)
theorem Inv.laid {a:Addr} {o:HO} {t':Nat} (I:Inv X pins σ H s) (k:∀ b u,s.heap.get? b=some u→h'.get? b=some u) (hp:s.heap.objs.size≤a) (new:aY X.prog X.w (upd H a o) h' a o) :
  Inv X pins σ (upd H a o) { s with heap:=h',toks:=t' }:=I.un (Un.laid k hp (I.hok.fresh hp)) (I.hok.laid k hp new)
theorem Inv.write {x e:Addr} {o:HO} {t':Nat} (I:Inv X pins σ H s) (mu:Mut (H x)) (he:e=x∨H e=some (.own x)) (k:∀ b u,b≠e→s.heap.get? b=some u→h'.get? b=some u) (heo:∃ u,h'.get? e=some u)
  (new:aY X.prog X.w (upd H x o) h' x o):Inv X pins σ (upd H x o) { s with heap:=h',toks:=t' }:=I.un (Un.write mu he k heo) (I.hok.write mu he k heo new)
theorem Inv.oG {pins':List (Addr×Obj)} (I:Inv X pins σ H s) (h:∀ p∈pins',s.heap.get? p.1=some p.2∧H p.1=none∧p.1≠X.env.locals∧p.1∉X.fs∧∀ v,p.2.data≠.cell v):Inv X pins' σ H s :=
 ⟨I.ok,I.os,I.bare,I.base,I.loc,I.cell,I.free,I.dw,fun p hp=>(List.mem_append.mp hp).elim (fun z=>I.pin p (List.mem_append_left _ z)) (h p),I.hok,I.len⟩
theorem my {N:List Str} (hN:N.Nodup) {i j:Nat} {x:Str} (a:N[i]?=some x) (b:N[j]?=some x):i=j:=by
 obtain ⟨h1,e1⟩:=List.getElem?_eq_some_iff.mp a;obtain ⟨h2,e2⟩:=List.getElem?_eq_some_iff.mp b;exact (List.getElem_inj hN).mp (e1.trans e2.symm)
theorem lj {M:Model} {A:Around} {E:Value→Shared→Prop} {i:Nat} {x:Str} {v:V} {u:Value} {Q:Unit→Shared→Prop} (I:Inv X pins σ H s) (hN:X.N.Nodup) (hi:X.N[i]?=some x) (hx:Loc X.env.scope x) (r:RelV v u)
  (h:∀ s',Inv X pins (σ.set i (some v)) H s'→(∃ a,Heap.SameBut a s.heap s'.heap∧(a=X.env.locals∨X.env.cells.lookup x=some a))→Q () s') (hf:X.fn x=true∨X.env.scope.names.lookup x=some .local:=by first|exact .inl rfl|exact .inr rfl|assumption):wpAny M A (storeName X.env x u) Q E s:=by
 obtain ⟨m,hn,hl⟩:=id I.loc;have hcls:(X.env.scope.kind == .class || (X.env.scope.kind == .module && X.env.locals != X.env.globals))=false:=by rw [I.ok.kind];rfl
 have hiσ:i<σ.length:=by rw [I.len];exact (List.getElem?_eq_some_iff.mp hi).1
 have cne:=I.cne;have tracked:∀ {a:Addr} {h':Heap},(∃ o,s.heap.get? a=some o∧H a=none)→Heap.SameBut a s.heap h'→HOk X.prog X.w H h':=fun {a h'} ha hs b ob e=>by
  obtain ⟨_,_,hfree⟩:=ha;refine (I.hok b ob e).iC (fun c w' hc q=>(hs.2 c ?_).trans q) (fun _ q=>q) fun _ _ q=>q;rintro rfl;rcases hc with rfl|hc
  ·rw [hfree] at e;cases e
  ·rw [hfree] at hc;cases hc
 rcases hx with hk|hk
 ·refine wpAny_storeName_local hk hn (fun h' hn' hs=>?_) hcls;obtain ⟨oL,_,_,hoL,_⟩:=id hn;refine h _ ⟨I.ok,I.os,I.bare,⟨fun b o e n hb hx=>?_,fun b o e n hb hx=>?_,I.base.free,fun b o e hx=>?_,I.base.d4,I.base.dF,I.base.eh⟩,⟨_,hn',fun j y v' e1 e2 e3=>?_⟩,fun y c e=>?_,I.free,I.dw,fun p hp=>?_,tracked ⟨oL,hoL,I.free⟩ hs,by simpa using I.len⟩ ⟨_,hs,.inl rfl⟩
  ·exact (hs.2 b (Nat.ne_of_lt (Nat.lt_of_lt_of_le (Heap.lt_size e) I.ok.above))).trans (I.base.keep b o e n hb hx)
  ·obtain ⟨sl,e1⟩:=I.base.slot b o e n hb hx;exact ⟨sl,(hs.2 b (Nat.ne_of_lt (Nat.lt_of_lt_of_le (Heap.lt_size e) I.ok.above))).trans e1⟩
  ·obtain ⟨o',e1⟩:=I.base.there b o e hx;exact ⟨o',(hs.2 b (Nat.ne_of_lt (Nat.lt_of_lt_of_le (Heap.lt_size e) I.ok.above))).trans e1⟩
  ·by_cases hj:j=i
   ·subst hj;rw [hi] at e1;cases e1;rw [List.getElem?_set_self hiσ] at e2;cases e2;exact ⟨u,r,.inl ⟨hk,by simp⟩⟩
   ·rw [List.getElem?_set_ne (Ne.symm hj)] at e2;obtain ⟨u',r',q⟩:=hl j y v' e1 e2 e3;refine ⟨u',r',?_⟩;rcases q with ⟨k,e⟩|⟨k,c,e,z⟩
    ·refine .inl ⟨k,?_⟩;have:y≠x:=fun e=>hj (my hN e1 (e ▸ hi));simp [this,e]
    ·exact .inr ⟨k,c,e,z.sameBut hs (cne y c e)⟩
  ·obtain ⟨w',z⟩:=I.cell y c e;exact ⟨w',z.sameBut hs (cne y c e)⟩
  ·obtain ⟨e,n,ne,nf,d⟩:=I.pin p hp;exact ⟨(hs.2 p.1 ne).trans e,n,ne,nf,d⟩
 ·have hfn:X.fn x=true:=by
   rcases hf with z|z
   ·exact z
   ·rw [z] at hk;cases hk
  obtain ⟨c,hc⟩:=I.ok.has x (.inl hk);obtain ⟨w',z⟩:=I.cell x c hc;refine wpAny_storeName_cell I.ok.kind hk hc z (fun h' hc' hs=>?_);obtain ⟨oc,hoc,hocd⟩:=id z;refine h { s with heap:=h' } ⟨I.ok,I.os,I.bare,⟨fun b o e n hb hx=>?_,fun b o e n hb hx=>?_,I.base.free,fun b o e hx=>?_,I.base.d4,I.base.dF,I.base.eh⟩,⟨m,hn.sameBut hs (Ne.symm (cne x c hc)),fun j y v' e1 e2 e3=>?_⟩,fun y c' e=>?_,I.free,I.dw,fun p hp=>?_,tracked ⟨oc,hoc,I.dw x c hc⟩ hs,by simpa using I.len⟩ ⟨c,hs,.inr hc⟩
  ·exact (hs.2 b (Nat.ne_of_lt (Nat.lt_of_lt_of_le (Heap.lt_size e) (I.ok.cab x c hfn hc)))).trans (I.base.keep b o e n hb hx)
  ·obtain ⟨sl,e1⟩:=I.base.slot b o e n hb hx;exact ⟨sl,(hs.2 b (Nat.ne_of_lt (Nat.lt_of_lt_of_le (Heap.lt_size e) (I.ok.cab x c hfn hc)))).trans e1⟩
  ·obtain ⟨o',e1⟩:=I.base.there b o e hx;exact ⟨o',(hs.2 b (Nat.ne_of_lt (Nat.lt_of_lt_of_le (Heap.lt_size e) (I.ok.cab x c hfn hc)))).trans e1⟩
  ·by_cases hj:j=i
   ·subst hj;rw [hi] at e1;cases e1;rw [List.getElem?_set_self hiσ] at e2;cases e2;exact ⟨u,r,.inr ⟨.inl hk,c,hc,hc'⟩⟩
   ·rw [List.getElem?_set_ne (Ne.symm hj)] at e2;obtain ⟨u',r',q⟩:=hl j y v' e1 e2 e3;refine ⟨u',r',?_⟩;rcases q with q|⟨k,c',e,z'⟩
    ·exact .inl q
    ·refine .inr ⟨k,c',e,z'.sameBut hs ?_⟩;rintro rfl;exact hj (my hN e1 (I.ok.inj _ _ _ e hc ▸ hi))
  ·by_cases hcc:c'=c
   ·subst hcc;exact ⟨_,hc'⟩
   ·obtain ⟨w2,z2⟩:=I.cell y c' e;exact ⟨w2,z2.sameBut hs hcc⟩
  ·obtain ⟨e,n,ne,nf,d⟩:=I.pin p hp;refine ⟨(hs.2 p.1 ?_).trans e,n,ne,nf,d⟩;intro q;rw [q,hoc] at e;have q':oc=p.2:=Option.some.inj e;exact d w' (by rw [← q'];exact hocd)
theorem fZ {M:Model} {A:Around} {E:Value→Shared→Prop} {i:Nat} {x:Str} {v:V} {u:Value} {Q:Unit→Shared→Prop} (I:Inv X pins σ H s) (hN:X.N.Nodup) (hi:X.N[i]?=some x) (hx:Loc X.env.scope x) (r:RelV v u)
  (h:∀ s',Inv X pins (σ.set i (some v)) H s'→Q () s') (hf:X.fn x=true∨X.env.scope.names.lookup x=some .local:=by first|exact .inl rfl|exact .inr rfl|assumption):wpAny M A (storeName X.env x u) Q E s :=
 lj I hN hi hx r (fun s' I' _=>h s' I') hf
theorem Inv.Am {s':Shared} {ch:List Addr} (I:Inv X pins σ H s) (ho:s'.os=s.os) (u:Un (frs X.stack) ch H H' s.heap s'.heap) (hok:HOk X.prog X.w H' s'.heap) (hg:AllBare s'.gens)
  (hch:∀ b∈ch,(b∈X.ex∨X.s₀.heap.objs.size≤b)∧b≠X.env.locals∧(∀ x c,X.env.cells.lookup x=some c→c≠b)∧∀ p∈X.pn++pins,p.1≠b):Inv X pins σ H' s':=by
 obtain ⟨h',g',d',t',o'⟩:=s';have e:o'=s.os:=ho;subst e;exact I.call (g':=g') (t':=t') (d':=d') u hok hg hch
end
abbrev XK:=Value→Option Addr→Hp→Prop
abbrev St:=List (Option V)
abbrev VK:=V→Hp→Prop
abbrev TE:=St→Hp→VK→Prop
abbrev TT:=St→Hp→(Bool→Hp→Prop)→Prop
abbrev TA:=St→Hp→(List V→Hp→Prop)→Prop
structure Ends where
 nx:St→Hp→Prop
 rt:VK
 bk:St→Hp→Prop:=fun _ _=>False
 ct:St→Hp→Prop:=fun _ _=>False
abbrev TS:=Ends→St→Hp→Prop
def EP (X:Cx) (pins:List (Addr×Obj)) (σ:St) (Q:VK) (u:Value) (s':Shared):Prop:=∃ v H',Inv X pins σ H' s'∧RelV v u∧Q v H'
def TP (X:Cx) (pins:List (Addr×Obj)) (σ:St) (Q:Bool→Hp→Prop) (b:Bool) (s':Shared):Prop:=∃ H',Inv X pins σ H' s'∧Q b H'
def AP (X:Cx) (pins:List (Addr×Obj)) (σ:St) (Q:List V→Hp→Prop) (us:List Value) (s':Shared):Prop:=∃ vs H',Inv X pins σ H' s'∧Vals vs us∧Q vs H'
def SP (X:Cx) (pins:List (Addr×Obj)) (D:Ends) (f:Flow) (s':Shared):Prop :=
 match f with
 | .next=>∃ σ' H',Inv X pins σ' H' s'∧D.nx σ' H'
 | .brk=>∃ σ' H',Inv X pins σ' H' s'∧D.bk σ' H'
 | .cont=>∃ σ' H',Inv X pins σ' H' s'∧D.ct σ' H'
 | .ret u=>∃ v σ' H',Inv X pins σ' H' s'∧RelV v u∧D.rt v H'
def PE (X:Cx) (e:Expr) (t:TE):Prop :=
 ∀ (pins:List (Addr×Obj)) (s:Shared) (σ:St) (H:Hp) (Q:VK),Inv X pins σ H s→t σ H Q→wpAny (model X.prog X.w) X.A (eval e X.env) (EP X pins σ Q) X.xe s
def PT (X:Cx) (e:Expr) (t:TT):Prop :=
 ∀ (pins:List (Addr×Obj)) (s:Shared) (σ:St) (H:Hp) (Q:Bool→Hp→Prop),Inv X pins σ H s→t σ H Q→wpAny (model X.prog X.w) X.A (isTrue e X.env (eval e X.env)) (TP X pins σ Q) X.xe s
def PW (X:Cx) (e:Expr) (t:TT):Prop :=
 ∀ (whole:Sem Value) (pins:List (Addr×Obj)) (s:Shared) (σ:St) (H:Hp) (Q:Bool→Hp→Prop),Inv X pins σ H s→t σ H Q→wpAny (model X.prog X.w) X.A (isTrue e X.env whole) (TP X pins σ Q) X.xe s
theorem PW.pt {X:Cx} {e:Expr} {t:TT} (h:PW X e t):PT X e t:=h _
def PA (X:Cx) (es:List Expr) (t:TA):Prop :=
 ∀ (pos:Pos) (pins:List (Addr×Obj)) (s:Shared) (σ:St) (H:Hp) (Q:List V→Hp→Prop),Inv X pins σ H s→t σ H Q→wpAny (model X.prog X.w) X.A (spliced (backTo pos (starEach es X.env))) (AP X pins σ Q) X.xe s
def PS (X:Cx) (st:Stmt) (t:TS):Prop :=
 ∀ (pins:List (Addr×Obj)) (s:Shared) (σ:St) (H:Hp) (D:Ends),Inv X pins σ H s→t D σ H→wpAny (model X.prog X.w) X.A (exec st X.env) (SP X pins D) X.xe s
def PSs (X:Cx) (st:List Stmt) (t:TS):Prop :=
 ∀ (pins:List (Addr×Obj)) (s:Shared) (σ:St) (H:Hp) (D:Ends),Inv X pins σ H s→t D σ H→wpAny (model X.prog X.w) X.A (execs st X.env) (SP X pins D) X.xe s
theorem thn {α:Type} {t:Sem α} {Q Q':α→Shared→Prop} {M:Model} {A:Around} {E:Value→Shared→Prop} {s:Shared} (h:wpAny M A t Q E s) (hQ:∀ a s,Q a s→Q' a s):wpAny M A t Q' E s:=wpAny_mono h hQ fun _ _ x=>x
end L2
namespace L2
open PySem PySem.Spec PyProof.Rows
section
variable {X:Cx}
def sI (i:Nat):TE:=fun σ H Q=>∃ v,σ[i]?=some (some v)∧Q v H
def tC (v:V):TE:=fun _ H Q=>Q v H
theorem w5 {i:Nat} {x:Str} {pos:Pos} (hN:X.N[i]?=some x) (hv:Vis X.env.scope x) (hd:(x == ("__debug__" : Str))=false:=by decide) (hcd:(x == ("__classdict__" : Str))=false:=by decide):PE X (.Name x pos) (sI i):=by
 intro pins s σ H Q I h;obtain ⟨v,e,h⟩:=h;obtain ⟨m,hn,hl⟩:=I.loc;obtain ⟨u,r,l⟩:=hl i x v hN e hv;have fin:EP X pins σ Q u s:=⟨v,H,I,r,h⟩;rcases l with ⟨hk,hm⟩|⟨hk,c,hc,hcell⟩
 ·exact wpAny_Name (wpAny_loadName_local I.ok.kind hk hn hm fin) hd
 ·rcases hk with hk|hk
  ·exact wpAny_Name (wpAny_loadName_cell I.ok.kind hk hc hcell fin) hd
  ·exact wpAny_Name (wpAny_loadName_free I.ok.kind hk hc hcell fin hcd) hd
theorem ak {i j pos}:PE X (.Constant (.int i) j pos) (tC (.int i)):=fun _ _ _ H _ I h=>wpAny_Constant_int ⟨.int i,H,I.tok _,⟨_,rfl⟩,h⟩
theorem e8 {b j pos}:PE X (.Constant (.bool b) j pos) (tC (.bl b)):=fun _ _ _ H _ I h=>Constant_bool ⟨.bl b,H,I,rfl,h⟩
theorem wc {j pos}:PE X (.Constant .none j pos) (tC .non):=fun _ _ _ H _ I h=>Constant_none ⟨.non,H,I,rfl,h⟩
def Gl (X:Cx) (x:Str):Prop:=X.env.kindOf x=some .globalImplicit
theorem jW {E:Value→Shared→Prop} {pins:List (Addr×Obj)} {s:Shared} {σ:St} {H:Hp} {x:Str} {u:Value} {pos:Pos} {Q:Value→Shared→Prop} (I:Inv X pins σ H s) (hg:Gl X x) (hm:X.mg x=some u) (h:Q u s)
  (hd:(x == ("__debug__" : Str))=false:=by decide):wpAny (model X.prog X.w) X.A (eval (.Name x pos) X.env) Q E s :=
 Calls.Name_function_global I.ok.kind hg (Calls.loadGlobal_global (by rw [I.ok.glob];exact I.mod.glob.keeps I.bk) hm h) hd
theorem dg {E:Value→Shared→Prop} {pins:List (Addr×Obj)} {s:Shared} {σ:St} {H:Hp} {x:Str} {u:Value} {pos:Pos} {Q:Value→Shared→Prop} (I:Inv X pins σ H s) (hg:Gl X x) (hm:X.mg x=none) (hv:bootBuiltins x=some u) (h:Q u s)
  (hn:x ≠ "__name__":=by decide) (hd:(x == ("__debug__" : Str))=false:=by decide):wpAny (model X.prog X.w) X.A (eval (.Name x pos) X.env) Q E s:=by
 obtain ⟨mb,h1,h2⟩:=I.mod.blt;exact Calls.Name_function_global I.ok.kind hg (Calls.loadGlobal_builtin (by rw [I.ok.glob];exact I.mod.glob.keeps I.bk) hm (by rw [I.ok.blt];exact h1.keeps I.bk) ((h2 x hn).trans hv) h) hd
theorem vA {x:Str} {v:V} {u:Value} {pos:Pos} (hg:Gl X x) (hm:X.mg x=some u) (r:RelV v u) (hd:(x == ("__debug__" : Str))=false:=by decide):PE X (.Name x pos) (tC v) :=
 fun _ _ _ H _ I h=>jW I hg hm ⟨v,H,I,r,h⟩ hd
theorem ox {x:Str} {v:V} {u:Value} {pos:Pos} (hg:Gl X x) (hm:X.mg x=none) (hv:bootBuiltins x=some u) (r:RelV v u) (hn:x ≠ "__name__":=by decide) (hd:(x == ("__debug__" : Str))=false:=by decide):PE X (.Name x pos) (tC v) :=
 fun _ _ _ H _ I h=>dg I hg hm hv ⟨v,H,I,r,h⟩ hn hd
variable {a b:Expr} {ta tb:TE} {pos:Pos}
def tB (t:TE):TT:=fun σ H Q=>t σ H fun x H1=>∃ c,x=.bl c∧Q c H1
theorem gH {e:Expr} {t:TE} (h:PE X e t) (he:∀ whole,isTrue e X.env whole=(do let v ← whole;standAt e.pos;holding [v] (truthy v)):=by intro _;rfl):PT X e (tB t):=by
 intro pins s σ H Q I hw;refine isTrue_plain (thn (h pins s σ H _ I hw) fun v s1 ⟨x,H1,I1,r1,q1⟩=>?_) (he _);obtain ⟨d,rfl,q⟩:=q1;cases r1;exact wpAny_truthy_bool ⟨H1,I1,q⟩
variable {tA tB':TT} {rest:List Expr}
def vN (t u:TT):TT:=fun σ H Q=>t σ H fun c H1=>if c=true then u σ H1 Q else Q false H1
def tOr (t u:TT):TT:=fun σ H Q=>t σ H fun c H1=>if c=true then Q true H1 else u σ H1 Q
def xv (t:TT):TT:=fun σ H Q=>t σ H fun c H1=>Q (!c) H1
theorem vv (ha:PT X a tA):PW X (.BoolOp .And [a] pos) tA:=by
 intro wh pins s σ H Q I h;refine isTrue_and (thn (ha pins s σ H Q I h) fun c s1 e=>?_);cases c with
 | true=>exact isTrue_and_nil e
 | false=>exact e
theorem mY (ha:PT X a tA):PW X (.BoolOp .Or [a] pos) tA:=by
 intro wh pins s σ H Q I h;refine isTrue_or (thn (ha pins s σ H Q I h) fun c s1 e=>?_);cases c with
 | false=>exact isTrue_or_nil e
 | true=>exact e
theorem wC (ha:PT X a tA) (hb:PW X (.BoolOp .And (b :: rest) pos) tB'):PW X (.BoolOp .And (a :: b :: rest) pos) (vN tA tB'):=by
 intro wh pins s σ H Q I h;refine isTrue_and (thn (ha pins s σ H _ I h) fun c s1 ⟨H1,I1,q1⟩=>?_);cases c with
 | true=>exact hb wh pins s1 σ H1 Q I1 q1
 | false=>exact ⟨H1,I1,q1⟩
theorem mi (ha:PT X a tA) (hb:PW X (.BoolOp .Or (b :: rest) pos) tB'):PW X (.BoolOp .Or (a :: b :: rest) pos) (tOr tA tB'):=by
 intro wh pins s σ H Q I h;refine isTrue_or (thn (ha pins s σ H _ I h) fun c s1 ⟨H1,I1,q1⟩=>?_);cases c with
 | true=>exact ⟨H1,I1,q1⟩
 | false=>exact hb wh pins s1 σ H1 Q I1 q1
theorem ja (ha:PT X a tA):PT X (.UnaryOp .Not a pos) (xv tA):=by
 intro pins s σ H Q I h;exact isTrue_not (ha pins s σ H (fun c H1=>Q (!c) H1) I h)
def uv (ta tb:TE):TE:=fun σ H Q=>ta σ H fun x H1=>∃ c,x=.bl c∧if c=true then tb σ H1 Q else Q (.bl false) H1
def uk (ta:TE):TE:=fun σ H Q=>ta σ H fun x H1=>∃ c,x=.bl c∧Q (.bl (!c)) H1
theorem rg {op} {t:TE} (h:PE X a t):PE X (.BoolOp op [a] pos) t:=fun pins s σ H Q I hw=>BoolOp_one (h pins s σ H Q I hw)
theorem rW (ha:PE X a ta) (hb:PE X (.BoolOp .And (b :: rest) pos) tb):PE X (.BoolOp .And (a :: b :: rest) pos) (uv ta tb):=by
 intro pins s σ H Q I h;refine BoolOp_and (thn (ha pins s σ H _ I h) fun v s1 ⟨x,H1,I1,r1,q1⟩=>?_);obtain ⟨c,rfl,q1⟩:=q1;cases r1;refine wpAny_truthy_bool ?_;cases c with
 | true=>exact hb pins s1 σ H1 Q I1 q1
 | false=>exact ⟨.bl false,H1,I1,rfl,q1⟩
theorem vT (ha:PE X a ta):PE X (.UnaryOp .Not a pos) (uk ta):=by
 intro pins s σ H Q I h;refine UnaryOp_ (thn (ha pins s σ H _ I h) fun v s1 ⟨x,H1,I1,r1,q1⟩=>?_);obtain ⟨c,rfl,q1⟩:=q1;cases r1;exact not_of (wpAny_truthy_bool ⟨.bl (!c),H1,I1,rfl,q1⟩)
end
end L2
namespace L2
open PySem PySem.Spec PyProof.Rows
def SqL (K:PySem.W.Frag) (H:Hp) (a:Addr) (xs:List V):Prop :=
 Rd H a (.lst xs) ∨
  ∃ (o:Obj) (its:Array Value) (n:Nat),K.lookup a=some o∧o.cls=.type "list" ∧ o.dict=none∧o.data=.seq its n∧its.size≤sizeLine∧Vals xs its.toList
def SqT (K:PySem.W.Frag) (H:Hp) (a:Addr) (xs:List V):Prop :=
 Rd H a (.tup xs) ∨
  ∃ (o:Obj) (its:Array Value) (n:Nat),K.lookup a=some o∧o.cls=.type "tuple" ∧ o.data=.seq its n∧its.size≤sizeLine∧Vals xs its.toList
def A2:Value→Option V
 | .none=>some .non
 | .bool b=>some (.bl b)
 | .int i _=>some (.int i)
 | .str x _=>some (.str x)
 | .bytes b _=>some (.byt b)
 | .float b _=>some (.flt b)
 | .ref a=>some (.ref a)
 | .type n=>some (.ty n)
 | _=>none
theorem RelV.abs {x:V} {u:Value} (r:RelV x u):A2 u=some x:=by
 cases x with
 | non=>cases r;rfl
 | bl _=>cases r;rfl
 | int _=>obtain ⟨t,rfl⟩:=r;rfl
 | str _=>obtain ⟨t,rfl⟩:=r;rfl
 | byt _=>obtain ⟨t,rfl⟩:=r;rfl
 | flt _=>obtain ⟨t,rfl⟩:=r;rfl
 | ref _=>cases r;rfl
 | ty _=>cases r;rfl
theorem RelV.inj {x y:V} {u:Value} (r:RelV x u) (q:RelV y u):x=y:=Option.some.inj (r.abs.symm.trans q.abs)
theorem Vals.inj:∀ {xs ys:List V} {us:List Value},Vals xs us→Vals ys us→xs=ys
 | _,_,_,.nil,.nil=>rfl
 | _,_,_,.cons r t,.cons r' t'=>by rw [r.inj r',Vals.inj t t']
section
variable {X:Cx} {pins:List (Addr×Obj)} {σ:St} {H:Hp} {s:Shared} {a:Addr} {xs ys:List V}
theorem SqL.of {K:PySem.W.Frag} (h:H a=some (.lst xs)):SqL K H a xs:=.inl (.inl h)
theorem SqT.of {K:PySem.W.Frag} (h:H a=some (.tup xs)):SqT K H a xs:=.inl (.inl h)
theorem Inv.list (I:Inv X pins σ H s) (h:SqL X.K H a xs):∃ its:List Value,Vals xs its∧PlainL s.heap a its.toArray∧xs.length≤sizeLine:=by
 rcases h with h|⟨o,its,n,hk,hc,hd,hs,hz,r⟩
 ·obtain ⟨z,its,n,r,e⟩:=h.ok I.hok;exact ⟨its,r,⟨_,n,e,rfl,rfl,rfl⟩,z⟩
 ·refine ⟨its.toList,r,⟨o,n,I.kIn a o hk,hc,hd,by simpa using hs⟩,?_⟩
  have e:=r.length;simp only [Array.length_toList] at e;omega
theorem Inv.tuple (I:Inv X pins σ H s) (h:SqT X.K H a xs):∃ its:List Value,Vals xs its∧IsTup s.heap a its.toArray∧xs.length≤sizeLine:=by
 rcases h with h|⟨o,its,n,hk,hc,hs,hz,r⟩
 ·obtain ⟨z,its,r,p⟩:=h.ok I.hok;exact ⟨its,r,p,z⟩
 ·refine ⟨its.toList,r,⟨o,I.kIn a o hk,hc,n,by simpa using hs⟩,?_⟩
  have e:=r.length;simp only [Array.length_toList] at e;omega
theorem Inv.dG (I:Inv X pins σ H s) (h:SqL X.K H a xs) (h':SqL X.K H a ys):xs=ys:=by
 obtain ⟨its,r,⟨o,n,e,_,_,d⟩,_⟩:=I.list h;obtain ⟨its',r',⟨o',n',e',_,_,d'⟩,_⟩:=I.list h';rw [e] at e';cases e';rw [d] at d';injection d' with d1 _;have:its=its':=by simpa using congrArg Array.toList d1
 subst this;exact r.inj r'
theorem Inv.lh (I:Inv X pins σ H s) (h:SqT X.K H a xs) (h':SqT X.K H a ys):xs=ys:=by
 obtain ⟨its,r,⟨o,e,_,n,d⟩,_⟩:=I.tuple h;obtain ⟨its',r',⟨o',e',_,n',d'⟩,_⟩:=I.tuple h';rw [e] at e';cases e';rw [d] at d';injection d' with d1 _;have:its=its':=by simpa using congrArg Array.toList d1
 subst this;exact r.inj r'
end
abbrev Cx.dE (X:Cx) (E:Value→Shared→Prop):Cx:={ X with xe:=E }
abbrev Cx.nox (X:Cx):Cx:=X.dE fun _ _=>False
theorem Cx.Ok.dE {X:Cx} (ok:X.Ok) (E:Value→Shared→Prop):(X.dE E).Ok :=
 ⟨ok.mod,ok.kind,ok.glob,ok.blt,ok.above,ok.inj,ok.has,ok.cab,ok.hd,ok.frames,ok.stk,ok.exf,ok.bs,ok.bsz,ok.mK,ok.mV,ok.dk,ok.frf⟩
theorem Cx.Ok.cv {X:Cx} {E:Value→Shared→Prop} (ok:(X.dE E).Ok):X.Ok :=
 ⟨ok.mod,ok.kind,ok.glob,ok.blt,ok.above,ok.inj,ok.has,ok.cab,ok.hd,ok.frames,ok.stk,ok.exf,ok.bs,ok.bsz,ok.mK,ok.mV,ok.dk,ok.frf⟩
section
variable {X:Cx} {pins:List (Addr×Obj)} {σ:St} {H:Hp} {s:Shared} {E:Value→Shared→Prop}
theorem Inv.dE (I:Inv X pins σ H s) (E:Value→Shared→Prop):Inv (X.dE E) pins σ H s:=⟨I.ok.dE E,I.os,I.bare,I.base,I.loc,I.cell,I.free,I.dw,I.pin,I.hok,I.len⟩
theorem Inv.cv (I:Inv (X.dE E) pins σ H s):Inv X pins σ H s:=⟨I.ok.cv,I.os,I.bare,I.base,I.loc,I.cell,I.free,I.dw,I.pin,I.hok,I.len⟩
theorem SP.cv {D:Ends} {f:Flow} {s':Shared} (h:SP (X.dE E) pins D f s'):SP X pins D f s':=by
 cases f with
 | next=>obtain ⟨σ',H',I,q⟩:=h;exact ⟨σ',H',I.cv,q⟩
 | brk=>obtain ⟨σ',H',I,q⟩:=h;exact ⟨σ',H',I.cv,q⟩
 | cont=>obtain ⟨σ',H',I,q⟩:=h;exact ⟨σ',H',I.cv,q⟩
 | ret u=>obtain ⟨v,σ',H',I,r,q⟩:=h;exact ⟨v,σ',H',I.cv,r,q⟩
theorem PE.nox {e:Expr} {t:TE} (h:PE X.nox e t):PE X e t:=fun pins s σ H Q I hw =>
 wpAny_mono (h pins s σ H Q (I.dE _) hw) (fun _ _ ⟨v,H',I',r,q⟩=>⟨v,H',I'.cv,r,q⟩) fun _ _ z=>False.elim z
theorem PT.nox {e:Expr} {t:TT} (h:PT X.nox e t):PT X e t:=fun pins s σ H Q I hw =>
 wpAny_mono (h pins s σ H Q (I.dE _) hw) (fun _ _ ⟨H',I',q⟩=>⟨H',I'.cv,q⟩) fun _ _ z=>False.elim z
theorem PSs.nox {st:List Stmt} {t:TS} (h:PSs X.nox st t):PSs X st t:=fun pins s σ H D I hw =>
 wpAny_mono (h pins s σ H D (I.dE _) hw) (fun _ _ q=>q.cv) fun _ _ z=>False.elim z
end
section
variable {X:Cx} {st:Stmt} {rest:List Stmt} {t u:TS} {e:Expr} {te:TE} {pos:Pos}
def uM:TS:=fun D σ H=>D.nx σ H
def wA (t u:TS):TS:=fun D σ H=>t { D with nx:=u D } σ H
theorem bj:PSs X [] uM:=fun _ _ σ H _ I h=>wpAny_execs_nil ⟨σ,H,I,h⟩
theorem ah (h1:PS X st t) (h2:PSs X rest u):PSs X (st :: rest) (wA t u):=by
 intro pins s σ H D I h;refine wpAny_execs_cons (thn (h1 pins s σ H { D with nx:=u D } I h) fun f s1 q=>?_);cases f with
 | next =>
  obtain ⟨σ',H',I',q⟩:=q;exact h2 pins s1 σ' H' D I' q
 | ret v=>exact q
 | brk=>exact q
 | cont=>exact q
theorem aq (h1:PS X st t):PSs X [st] t:=by
 intro pins s σ H D I h;refine wpAny_execs_cons (thn (h1 pins s σ H D I h) fun f s1 q=>?_);cases f with
 | next=>exact wpAny_execs_nil q
 | ret v=>exact q
 | brk=>exact q
 | cont=>exact q
theorem Inv.quiet {pins:List (Addr×Obj)} {σ:St} {H:Hp} {s:Shared} (I:Inv X pins σ H s):interactive X.env=false:=by simp [interactive,I.ok.kind]
def uj (te:TE):TS:=fun D σ H=>te σ H fun _ H1=>D.nx σ H1
theorem oJ (he:PE X e te) (hs:swapsWith e none pos.line X.env=pure false:=by rfl):PS X (.Expr e pos) (uj te):=by
 intro pins s σ H D I h;exact wpAny_Expr_any (thn (he pins s σ H _ I h) fun v s1 ⟨x,H1,I1,r1,q1⟩=>⟨σ,H1,I1,q1⟩) I.quiet hs
def xx (te:TE):TS:=fun D σ H=>te σ H D.rt
theorem aJ (he:PE X e te):PS X (.Return (some e) pos) (xx te):=by
 intro pins s σ H D I h;exact wpAny_Return_some (thn (he pins s σ H _ I h) fun v s1 ⟨x,H1,I1,r1,q1⟩=>⟨x,σ,H1,I1,r1,q1⟩)
def tj (c:TT) (t u:TS):TS:=fun D σ H=>c σ H fun b H1=>if b=true then t D σ H1 else u D σ H1
theorem bQ {c:Expr} {a b:List Stmt} {tc:TT} (hc:PT X c tc) (ha:PSs X a t) (hb:PSs X b u):PS X (.If c a b pos) (tj tc t u):=by
 intro pins s σ H D I h;refine wpAny_If (thn (hc pins s σ H _ I h) fun d s1 ⟨H1,I1,q1⟩=>?_);cases d with
 | true=>exact ha pins s1 σ H1 D I1 q1
 | false=>exact hb pins s1 σ H1 D I1 q1
def wQ:TS:=fun _ _ _=>False
theorem nh:PS X st wQ:=fun _ _ _ _ _ _ h=>h.elim
end
abbrev TG:=V→St→Hp→(St→Hp→Prop)→Prop
abbrev TGs:=List V→St→Hp→(St→Hp→Prop)→Prop
def PG (X:Cx) (target:Expr) (t:TG):Prop :=
 ∀ (pins:List (Addr×Obj)) (s:Shared) (σ:St) (H:Hp) (v:V) (u:Value) (Q:St→Hp→Prop),Inv X pins σ H s→RelV v u→t v σ H Q →
  wpAny (model X.prog X.w) X.A (assign target X.env u) (fun _ s'=>∃ σ' H',Inv X pins σ' H' s'∧Q σ' H') X.xe s
def PGs (X:Cx) (ts:List Expr) (t:TGs):Prop :=
 ∀ (pins:List (Addr×Obj)) (s:Shared) (σ:St) (H:Hp) (vs:List V) (us:List Value) (Q:St→Hp→Prop),Inv X pins σ H s→Vals vs us→t vs σ H Q →
  wpAny (model X.prog X.w) X.A (assignInOrder ((assignEach ts X.env).map (·.2)) us) (fun _ s'=>∃ σ' H',Inv X pins σ' H' s'∧Q σ' H') X.xe s
abbrev pN:=V→V→V→Hp→(Hp→Prop)→Prop
def v8 (X:Cx) (t:pN):Prop :=
 ∀ (pins:List (Addr×Obj)) (s:Shared) (σ:St) (H:Hp) (o i v:V) (ov iv u:Value) (Q:Hp→Prop),Inv X pins σ H s→RelV o ov→RelV i iv→RelV v u→t o i v H Q →
  wpAny (model X.prog X.w) X.A (setItem ov iv u) (fun _ s'=>∃ H',Inv X pins σ H' s'∧Q H') X.xe s
section
variable {X:Cx} {pos:Pos}
def cg (i:Nat):TG:=fun v σ H Q=>Q (σ.set i (some v)) H
theorem bf {i:Nat} {x:Str} (hN:X.N.Nodup) (hi:X.N[i]?=some x) (hx:Loc X.env.scope x) (hf:X.fn x=true∨X.env.scope.names.lookup x=some .local:=by first|exact .inl rfl|exact .inr rfl|assumption):PG X (.Name x pos) (cg i):=by
 intro pins s σ H v u Q I r h;exact wpAny_assign_Name (fZ I hN hi hx r (fun s' I'=>⟨_,H,I',h⟩) hf)
def j8:TGs:=fun vs σ H Q=>vs=[]∧Q σ H
def c9 (t:TG) (u:TGs):TGs:=fun vs σ H Q=>∃ v r,vs=v :: r∧t v σ H fun σ' H'=>u r σ' H' Q
theorem fB:PGs X [] j8:=by
 intro pins s σ H vs us Q I r h;obtain ⟨e,h⟩:=h;subst e;cases r;exact assignInOrder_nil ⟨σ,H,I,h⟩
theorem b2 {e:Expr} {es:List Expr} {t:TG} {u:TGs} (h1:PG X e t) (h2:PGs X es u)
  (hs:(assignEach (e :: es) X.env).map (·.2)=assign e X.env :: (assignEach es X.env).map (·.2):=by rfl):PGs X (e :: es) (c9 t u):=by
 intro pins s σ H vs us Q I r h;obtain ⟨v,vr,e1,h⟩:=h;subst e1;cases r with
 | cons r rr =>
  rw [hs];refine assignInOrder_cons (thn (h1 pins s σ H _ _ _ I r h) fun _ s1 ⟨σ1,H1,I1,q1⟩=>?_);exact h2 pins s1 σ1 H1 _ _ Q I1 rr q1
def kA (K:PySem.W.Frag) (n:Nat) (t:TGs):TG:=fun v σ H Q=>∃ a xs,v=.ref a∧SqT K H a xs∧xs.length=n∧t xs σ H Q
theorem gU {es:List Expr} {k:Nat} {t:TGs} {n:Nat} (hc:X.calm=true) (h:PGs X es t)
  (hn:(assignEach es X.env).length=n:=by rfl) (hst:(assignEach es X.env).findIdx? (·.1)=none:=by rfl):PG X (.Tuple es k pos) (kA X.K n t):=by
 intro pins s σ H v u Q I r hw;obtain ⟨a,xs,e1,hq,hl,hw⟩:=hw;subst e1;cases r;obtain ⟨its,rv,ht,hz⟩:=I.tuple hq;refine assign_Tuple_tuple (I.ok.hd hc) ht (by simp [hn,← hl,rv.length]) hst fun h' hx=>?_
 have I1:Inv X pins σ H { s with heap:=h' }:=I.kept (t':=s.toks) fun b o e=>hx b o (Nat.ne_of_lt (Heap.lt_size e)) e;exact h pins _ σ H xs _ Q I1 (by simpa using rv) hw
def wm (to ti:TE) (t:pN):TG:=fun v σ H Q=>to σ H fun o H1=>ti σ H1 fun i H2=>t o i v H2 fun H3=>Q σ H3
theorem nr {o i:Expr} {to ti:TE} {t:pN} (ho:PE X o to) (hi:PE X i ti) (hs:v8 X t)
  (ha:∀ v,assign (.Subscript o i pos) X.env v=(do
   let ov ← holding [v] (eval o X.env)
   let iv ← holding [v,ov] (eval i X.env)
   standAt pos
   holding [v,ov,iv] (setItem ov iv v)
   release [v,ov,iv] []):=by intro _;rfl):PG X (.Subscript o i pos) (wm to ti t):=by
 intro pins s σ H v u Q I r h;rw [ha];refine wpAny_bind (wpAny_holding (thn (ho pins s σ H _ I h) fun ov s1 ⟨x,H1,I1,r1,q1⟩=>?_));refine wpAny_bind (wpAny_holding (thn (hi pins s1 σ H1 _ I1 q1) fun iv s2 ⟨y,H2,I2,r2,q2⟩=>?_));refine wpAny_bind (wpAny_standAt (wpAny_bind (wpAny_holding (thn (hs pins s2 σ H2 x y v ov iv u _ I2 r1 r2 r q2) fun _ s3 ⟨H3,I3,q3⟩=>?_))));exact wpAny_release ⟨σ,H3,I3,q3⟩
def qi (te:TE) (g:TG):TS:=fun D σ H=>te σ H fun x H1=>g x σ H1 D.nx
theorem jJ {tg e:Expr} {te:TE} {g:TG} (he:PE X e te) (hg:PG X tg g) (hs:swapsWithSole [tg] e pos.line X.env=pure false:=by rfl) (hw:swappedStores [tg] e X.env=pure none:=by rfl)
  (h1:(assignEach [tg] X.env).map (·.2)=[assign tg X.env]:=by rfl):PS X (.Assign [tg] e pos) (qi te g):=by
 intro pins s σ H D I h;refine wpAny_Assign_stores (thn (he pins s σ H _ I h) fun v s1 ⟨x,H1,I1,r1,q1⟩=>?_) hs hw;rw [h1];exact thn (hg pins s1 σ H1 x v _ I1 r1 q1) fun _ s2 q=>q
theorem aI {i:Nat} {x:Str} {e:Expr} {te:TE} {pos':Pos} (hN:X.N.Nodup) (hi:X.N[i]?=some x) (hx:Loc X.env.scope x) (he:PE X e te) (hs:swapsWith e (some (.Name x pos')) pos.line X.env=pure false:=by rfl) (hf:X.fn x=true∨X.env.scope.names.lookup x=some .local:=by first|exact .inl rfl|exact .inr rfl|assumption) :
  PS X (.Assign [.Name x pos'] e pos) (qi te (cg i)):=by
 intro pins s σ H D I h;refine wpAny_Assign_Name (thn (he pins s σ H _ I h) fun v s1 ⟨y,H1,I1,r1,q1⟩=>?_) hs;exact fZ I1 hN hi hx r1 (fun s2 I2=>⟨_,H1,I2,q1⟩) hf
def vX (i j:Nat) (ta:TA):TS:=fun D σ H=>ta σ H fun vs H1=>∃ v w,vs=[v,w]∧D.nx ((σ.set i (some v)).set j (some w)) H1
theorem wg {i j:Nat} {x y:Str} {a b:Expr} {ta:TA} {px py pt:Pos} {kt k2 pt2} (hc:X.calm=true) (hN:X.N.Nodup) (hi:X.N[i]?=some x) (hj:X.N[j]?=some y) (hij:i≠j)
  (hx:X.env.scope.names.lookup x=some .local) (hy:X.env.scope.names.lookup y=some .local) (ha:PA X [a,b] ta)
  (hw:swappedStores [.Tuple [.Name x px,.Name y py] kt pt] (.Tuple [a,b] k2 pt2) X.env=pure (some [x,y]))
  (hs:swapsWithSole [.Tuple [.Name x px,.Name y py] kt pt] (.Tuple [a,b] k2 pt2) pos.line X.env=pure false:=by rfl) :
  PS X (.Assign [.Tuple [.Name x px,.Name y py] kt pt] (.Tuple [a,b] k2 pt2) pos) (vX i j ta):=by
 intro pins s σ H D I h;rw [exec_Assign_arm];refine wpAny_bind (wpAny_standAt ?_);rw [hs];refine wpAny_bind (wpAny_pure ?_);rw [if_neg (by decide)]
 refine wpAny_bind (Tuple_ (thn (ha _ pins s σ H _ I h) fun us s1 ⟨vs,H1,I1,r1,q1⟩=>?_));obtain ⟨v,w,e1,q1⟩:=q1;subst e1;obtain ⟨u1,u2,rfl,rv,rw'⟩:∃ u1 u2,us=[u1,u2]∧RelV v u1∧RelV w u2:=by
  cases r1 with
  | cons p q =>
   cases q with
   | cons p' q' =>
    cases q';exact ⟨_,_,rfl,p,p'⟩
 refine wpAny_newObj_type ?_ (by show 2≤sizeLine;decide)
 have I2:Inv X pins σ H1 { s1 with heap:=s1.heap.push { cls:=.type "tuple",data:=.seq [u1,u2].toArray } }:=I1.kept (t':=s1.toks) fun b o e=>Heap.get?_push_of_some _ e;rw [hw];refine wpAny_bind (wpAny_pure ?_);show wpAny (model X.prog X.w) X.A (do rule "assign.swapped-stores";let items ← unpackItems (.ref s1.heap.objs.size) 2 none;assignInOrder [fun v=>bindName X.env y v,fun v=>bindName X.env x v] items.reverse;pure Flow.next) _ _ _;refine wpAny_bind (wpAny_rule (wpAny_bind (unpackItems_tuple (items:=#[u1,u2]) (I.ok.hd hc) (IsTup.new s1.heap _) fun h' hx'=>?_)));have I3:=I2.kept (h':=h') (t':=s1.toks) fun b o e=>hx' b o (Nat.ne_of_lt (Heap.lt_size e)) e;show wpAny _ _ (assignInOrder [fun v=>bindName X.env y v,fun v=>bindName X.env x v] [u2,u1] >>= fun _=>pure Flow.next) _ _ _;refine wpAny_bind (assignInOrder_cons (wpAny_bindName (fZ I3 hN hj (.inl hy) rw' (fun s2 I4=>?_) (.inr hy))));refine assignInOrder_cons (wpAny_bindName (fZ I4 hN hi (.inl hx) rv (fun s3 I5=>assignInOrder_nil (wpAny_pure ?_)) (.inr hx)));rw [List.set_comm _ _ (Ne.symm hij)] at I5;exact ⟨_,H1,I5,q1⟩
end
section
variable {X:Cx} {pos:Pos}
def rJ (c:TT) (tb:TS):TS:=fun D σ H=>∃ W:Nat→St→Hp→Prop,(∃ m,W m σ H)∧∀ m σ H,W m σ H →
 c σ H fun b H1=>if b=true then ∃ N:St→Hp→Prop,(∀ σ' H',N σ' H'→∃ m',m' < m∧W m' σ' H')∧tb { D with nx:=N,ct:=N,bk:=D.nx } σ H1 else D.nx σ H1
theorem nK {c:Expr} {body:List Stmt} {tc:TT} {tb:TS} (hp:PassesOwn (model X.prog X.w) X.A X.env X.xe) (hc:PT X c tc) (hb:PSs X body tb):PS X (.While c body [] pos) (rJ tc tb):=by
 intro pins s σ H D I h;obtain ⟨W,⟨m0,w0⟩,turn⟩:=h;refine wpAny_While (codeAny_whileLoop (fun n s'=>∃ σ' H',Inv X pins σ' H' s'∧W n σ' H') ?_ m0 ⟨σ,H,I,w0⟩);rintro n s1 ⟨σ1,H1,I1,w1⟩;refine wpAny_passesOwn hp (thn (hc pins s1 σ1 H1 _ I1 (turn n σ1 H1 w1)) fun b s2 ⟨H2,I2,q2⟩=>?_);cases b with
 | true =>
  obtain ⟨N,hN,q2⟩:=q2;rw [if_pos rfl];refine wpAny_passesOwn hp (thn (hb pins s2 σ1 H2 _ I2 q2) fun f s3 q3=>?_);cases f with
  | next =>
   obtain ⟨σ3,H3,I3,n3⟩:=q3;obtain ⟨m',hm,w3⟩:=hN σ3 H3 n3;exact ⟨m',hm,σ3,H3,I3,w3⟩
  | cont =>
   obtain ⟨σ3,H3,I3,n3⟩:=q3;obtain ⟨m',hm,w3⟩:=hN σ3 H3 n3;exact ⟨m',hm,σ3,H3,I3,w3⟩
  | brk=>exact q3
  | ret v=>exact q3
 | false =>
  rw [if_neg Bool.false_ne_true];exact wpAny_execs_nil ⟨σ1,H2,I2,q2⟩
end
structure It where
 go:Nat→Hp→Prop
 yld:Nat→Hp→V→Hp→Prop
 stop:Nat→Hp→Prop
def eQ (X:Cx) (pins:List (Addr×Obj)) (H:Hp) (b:Addr):Prop :=
 H b=none∧b≠X.env.locals∧b∉X.fs∧(b∈X.ex∨X.s₀.heap.objs.size≤b)∧(∀ x c,X.env.cells.lookup x=some c→c≠b)∧∀ p∈X.pn++pins,p.1≠b
theorem Inv.iH {X:Cx} {pins:List (Addr×Obj)} {σ:St} {H H':Hp} {s:Shared} {b:Addr} (I:Inv X pins σ H s) (hb:s.heap.objs.size≤b) (hn:H' b=none):eQ X pins H' b:=by
 refine ⟨hn,Nat.ne_of_gt (Nat.lt_of_lt_of_le I.lt hb),I.A6 hb,.inr (Nat.le_trans I.sz hb),fun x c e z=>?_,fun p hp z=>?_⟩
 ·obtain ⟨v,q⟩:=I.cell x c e;exact absurd (Nat.lt_of_lt_of_le q.lt (by rw [z];exact hb)) (Nat.lt_irrefl _)
 ·exact absurd (Nat.lt_of_lt_of_le (Heap.lt_size (I.pin p hp).1) (by rw [z];exact hb)) (Nat.lt_irrefl _)
structure Turn (P:Program) (w:World) (K:PySem.W.Frag) (tg:Expr) (J:It) (fp:List Addr) (it:Addr) (tn:Nat→Heap→Prop):Prop where
 mem:it∈fp
 obj:∀ i h,tn i h→∀ b∈fp,∃ o,h.get? b=some o∧∀ v,o.data≠.cell v
 keep:∀ i h h',tn i h→(∀ b∈fp,∀ o,h.get? b=some o→h'.get? b=some o)→tn i h'
 item:∀ (X:Cx),X.prog=P→X.w=w→X.K=K→X.calm=true→∀ (i:Nat) (pins:List (Addr×Obj)) (s:Shared) (σ:St) (H:Hp) (E:Value→Shared→Prop),Inv X pins σ H s→(∀ b∈fp,eQ X pins H b)→tn i s.heap→J.go i H →
  wpAny (model P w) X.A (pyNext (.ref it)) (fun r s1=>∃ u,r=some u ∧
   wpAny (model P w) X.A (letOwnedTupleGo tg (.ref it) u) (fun _ s2=>∃ x H',Inv X pins σ H' s2∧RelV x u∧J.yld i H x H'∧tn (i+1) s2.heap∧∀ b∈fp,H' b=none) E s1) E s
 done:∀ (X:Cx),X.prog=P→X.w=w→X.K=K→X.calm=true→∀ (i:Nat) (pins:List (Addr×Obj)) (s:Shared) (σ:St) (H:Hp) (E:Value→Shared→Prop),Inv X pins σ H s→(∀ b∈fp,eQ X pins H b)→tn i s.heap→J.stop i H →
  wpAny (model P w) X.A (pyNext (.ref it)) (fun r s1=>r=none∧Inv X pins σ H s1) E s
 self:∀ (A:Around) (i:Nat) (s:Shared) (Q:Value→Shared→Prop) (E:Value→Shared→Prop),tn i s.heap→Q (.ref it) s→wpAny (model P w) A (pyIter (.ref it)) Q E s
abbrev TI:=St→Hp→(It→Hp→Prop)→Prop
def PIE (X:Cx) (pins:List (Addr×Obj)) (σ:St) (tg:Expr) (R:It→Hp→Prop) (itv:Value) (s2:Shared):Prop :=
 ∃ (it:Addr) (fp:List Addr) (tn:Nat→Heap→Prop) (J:It) (H':Hp),itv=.ref it∧Inv X pins σ H' s2∧Turn X.prog X.w X.K tg J fp it tn∧tn 0 s2.heap∧(∀ b∈fp,eQ X pins H' b)∧R J H'
def PI (X:Cx) (tg iter:Expr) (wi:TI):Prop :=
 ∀ (pins:List (Addr×Obj)) (s:Shared) (σ:St) (H:Hp) (R:It→Hp→Prop),Inv X pins σ H s→wi σ H R →
  wpAny (model X.prog X.w) X.A (eval iter X.env) (fun v s1=>wpAny (model X.prog X.w) X.A (pyIter v) (PIE X pins σ tg R) X.xe s1) X.xe s
theorem oW {M:Model} {A:Around} {E:Value→Shared→Prop} {s:Shared} {tg:Expr} {it:Addr} {u:Value} {o:Obj} {n:String} {vs:Array Value} {Q:Unit→Shared→Prop} (ho:s.heap.get? it=some o) (hc:o.cls=.type n) (hd:o.data=.fields vs)
  (hn:["enumerate","zip","dict_itemiterator","dict_reverseitemiterator","odict_iterator","itertools.zip_longest","itertools.pairwise"].contains n=false) (hQ:Q () s):wpAny M A (letOwnedTupleGo tg (.ref it) u) Q E s:=by
 unfold letOwnedTupleGo;cases tg <;> first
  | exact wpAny_pure hQ
  | (cases u <;> first
    | exact wpAny_pure hQ
    | (refine wpAny_bind (wpAny_load ho ?_)
       rw [hc,hd];show wpAny M A (if (["enumerate","zip","dict_itemiterator","dict_reverseitemiterator","odict_iterator","itertools.zip_longest","itertools.pairwise"].contains n && vs[0]? == some (rawInt _))=true then _ else _) Q E s;rw [if_neg (by intro h;rw [hn,Bool.false_and] at h;cases h)]
       exact wpAny_pure hQ))
def Itl (K:PySem.W.Frag) (a:Addr):It :=
 ⟨fun i H=>∃ xs x,SqL K H a xs∧xs[i]?=some x,fun i H x H'=>H'=H∧∀ xs,SqL K H a xs→xs[i]?=some x,fun i H=>∃ xs,SqL K H a xs∧xs.length≤i⟩
def Itr (lo:Int) (n:Nat):It:=⟨fun i _=>i<n,fun i H x H'=>H'=H∧x=.int (lo+i),fun i _=>n≤i⟩
theorem qM {P:Program} {w:World} {K:PySem.W.Frag} {tg:Expr} (a it:Addr):Turn P w K tg (Itl K a) [it] it (fun i h=>h.IsListIter it a i) where
 mem:=by simp
 obj:=fun i h st b hb=>by
  have e:b=it:=by simpa using hb
  subst e;obtain ⟨o,e,c,d⟩:=st;exact ⟨o,e,fun v z=>by rw [d] at z;cases z⟩
 keep:=fun i h h' st k=>st.at fun o e=>k it (by simp) o e
 item:=by
  intro X hP hw hK hc i pins s σ H E I hf st hg;subst hP hw hK;obtain ⟨xs,x,hq,hx⟩:=hg;obtain ⟨its,rv,p,hz⟩:=I.list hq;obtain ⟨u,hu,ru⟩:=rv.get hx;obtain ⟨f0,f1,f2,f3,f4,f5⟩:=hf it (by simp)
  refine wpAny_pyNext_list_item st p.isList (x:=u) (by simpa using hu) fun h' st' sb=>?_
  have I1:Inv X pins σ H { s with heap:=h' }:=I.turned (t':=s.toks) (fun b o hb e=>(sb.2 b hb).trans e) f0 f1 f3 f4 f5;obtain ⟨o,e,c,d⟩:=id st';exact ⟨u,rfl,oW (s:={ s with heap:=h' }) e c d (by decide) ⟨x,H,I1,ru,⟨rfl,fun ys hy=>by rw [I.dG hy hq];exact hx⟩,st',fun b hb=>(hf b hb).1⟩⟩
 done:=by
  intro X hP hw hK hc i pins s σ H E I hf st hg;subst hP hw hK;obtain ⟨xs,hq,hx⟩:=hg;obtain ⟨its,rv,p,hz⟩:=I.list hq;obtain ⟨f0,f1,f2,f3,f4,f5⟩:=hf it (by simp)
  have hl:=rv.length;exact wpAny_pyNext_list_end (I.ok.hd hc) st p.isList (by simp;omega) fun h' eb=>⟨rfl,I.turned (t':=s.toks) (fun b o hb e=>eb b o hb e) f0 f1 f3 f4 f5⟩
 self:=fun _ _ _ _ _ st h=>wpAny_pyIter_listiter st h
theorem pE {P:Program} {w:World} {K:PySem.W.Frag} {tg:Expr} (it:Addr) (lo:Int) (n:Nat):Turn P w K tg (Itr lo n) [it] it (fun i h=>IsRangeIter h it (lo+(i:Nat) * 1) ((n:Int) - (i:Nat)) 1) where
 mem:=by simp
 obj:=fun i h st b hb=>by
  have e:b=it:=by simpa using hb
  subst e;exact ⟨_,st,fun v z=>by
   have z':Data.fields _=Data.cell v:=z;cases z'⟩
 keep:=fun i h h' st k=>k it (by simp) _ st
 item:=by
  intro X hP hw hK hc i pins s σ H E I hf st hg;subst hP hw hK;obtain ⟨f0,f1,f2,f3,f4,f5⟩:=hf it (by simp)
  have W:=Walks.range (prog:=X.prog) (w:=X.w) (I.ok.hd hc) it lo 1 n;refine W.item i s _ _ hg st fun v h' tk hv st' kk=>?_;obtain ⟨t,rfl⟩:=hv;have I1:Inv X pins σ H { s with heap:=h',toks:=tk }:=I.turned (fun b o hb e=>kk b o (by simpa using hb) e) f0 f1 f3 f4 f5
  refine ⟨_,rfl,oW (s:={ s with heap:=h',toks:=tk }) (n:="range_iterator") st' rfl rfl (by decide) ⟨.int (lo+i),H,I1,⟨t,?_⟩,⟨rfl,rfl⟩,st',fun b hb=>(hf b hb).1⟩⟩
  rw [Int.mul_one]
 done:=by
  intro X hP hw hK hc i pins s σ H E I hf st hg;subst hP hw hK;obtain ⟨f0,f1,f2,f3,f4,f5⟩:=hf it (by simp)
  exact wpAny_pyNext_range_end (I.ok.hd hc) st (by have:n≤i:=hg;omega) fun h' eb=>⟨rfl,I.turned (t':=s.toks) (fun b o hb e=>eb b o hb e) f0 f1 f3 f4 f5⟩
 self:=fun _ _ _ _ _ st h=>wpAny_pyIter_rangeiter st h
end L2
namespace L2
open PySem PySem.Spec PyProof.Rows
section
variable {X:Cx} {tg:Expr}
def qm (K:PySem.W.Frag) (tl:TE):TI:=fun σ H R=>tl σ H fun x H1=>∃ a,x=.ref a∧(∃ xs,SqL K H1 a xs)∧R (Itl K a) H1
theorem vp {l:Expr} {tl:TE} (hl:PE X l tl):PI X tg l (qm X.K tl):=by
 intro pins s σ H R I h;refine thn (hl pins s σ H _ I h) fun v s1 ⟨x,H1,I1,r1,q1⟩=>?_;obtain ⟨a,e,⟨xs,hq⟩,q⟩:=q1;subst e;cases r1;obtain ⟨its,rv,p,hz⟩:=I1.list hq;refine wpAny_pyIter_list p.isList ?_;refine ⟨s1.heap.objs.size,[s1.heap.objs.size],_,_,H1,rfl,I1.kept (t':=s1.toks) fun b o e=>Heap.get?_push_of_some _ e,qM a _,⟨_,Heap.get?_push_size _ rfl,rfl,rfl⟩,fun b hb=>?_,q⟩;have e:b=s1.heap.objs.size:=by simpa using hb
 subst e;exact I1.iH (Nat.le_refl _) (I1.hok.fresh (Nat.le_refl _))
theorem mL {pins:List (Addr×Obj)} {σ:St} {H:Hp} {s:Shared} {R:It→Hp→Prop} {E:Value→Shared→Prop} {lo hi:Int} {t u v:Tok} {tk:Nat} (I:Inv X pins σ H s) (h1:-(2 ^ 62)≤lo) (h2:lo<2 ^ 62) (h3:-(2 ^ 62)≤hi) (h4:hi<2 ^ 62)
  (q:R (Itr lo (hi - lo).toNat) H):wpAny (model X.prog X.w) X.A (pyIter (.ref s.heap.objs.size)) (PIE X pins σ tg R) E { s with heap:=s.heap.push { cls:=.type "range",data:=.fields #[.int lo t,.int hi u,.int 1 v] },toks:=tk }:=by
 refine wpAny_pyIter_range (IsRange.new ..) (small_one h1 h2 h3 h4) ?_;have I1:Inv X pins σ H { s with heap:=s.heap.push { cls:=.type "range",data:=.fields #[.int lo t,.int hi u,.int 1 v] },toks:=tk }:=I.kept fun b o e=>Heap.get?_push_of_some _ e;refine ⟨(s.heap.push { cls:=.type "range",data:=.fields #[.int lo t,.int hi u,.int 1 v] }).objs.size,[(s.heap.push { cls:=.type "range",data:=.fields #[.int lo t,.int hi u,.int 1 v] }).objs.size],_,_,H,rfl,
  I1.kept (t':=tk) fun b o e=>Heap.get?_push_of_some _ e,pE _ lo (hi - lo).toNat,?_,fun b hb=>?_,q⟩
 ·have e1:lo+((0:Nat):Int) * 1=lo:=by simp
  have e2:(((hi - lo).toNat:Nat):Int) - ((0:Nat):Int)=Builtin.Range.rangeSize lo hi 1:=by rw [rangeSize_one];split <;> omega
  show IsRangeIter _ _ (lo+((0:Nat):Int) * 1) ((((hi - lo).toNat:Nat):Int) - ((0:Nat):Int)) 1;rw [e1,e2];exact Heap.get?_push_size _ rfl
 ·have e:b=(s.heap.push { cls:=.type "range",data:=.fields #[.int lo t,.int hi u,.int 1 v] }).objs.size:=by simpa using hb
  subst e;exact I1.iH (Nat.le_refl _) (I1.hok.fresh (Nat.le_refl _))
def qr (ta:TA):TI:=fun σ H R=>ta σ H fun vs H1=>∃ j:Int,vs=[.int j]∧-(2 ^ 62)≤j∧j<2 ^ 62∧R (Itr 0 j.toNat) H1
def qh (ta:TA):TI:=fun σ H R=>ta σ H fun vs H1=>∃ i j:Int,vs=[.int i,.int j]∧(-(2 ^ 62)≤i∧i<2 ^ 62∧-(2 ^ 62)≤j∧j<2 ^ 62)∧R (Itr i (j - i).toNat) H1
theorem qx {a:Expr} {ta:TA} {p pos:Pos} (hg:Gl X "range") (hm:X.mg "range" = none) (ha:PA X [a] ta) (hs:starEach [a] X.env=[(false,eval a X.env)]:=by rfl):PI X tg (.Call (.Name "range" p) [a] [] pos) (qr ta):=by
 intro pins s σ H R I h;refine Call_ (dg I hg hm boot_range (PyProof.Rows.callWith_type1 (thn (ha pos pins s σ H _ I h) fun us s1 ⟨vs,H1,I1,r1,q1⟩=>?_) hs rfl));obtain ⟨j,e,q1,q2,q⟩:=q1;subst e;cases r1 with
 | cons r rr =>
  cases rr;obtain ⟨t,rfl⟩:=r;exact call_range_1 (mL I1 (by omega) (by omega) q1 q2 (by simpa using q))
theorem rn {a b:Expr} {ta:TA} {p pos:Pos} (hg:Gl X "range") (hm:X.mg "range" = none) (ha:PA X [a,b] ta) (hs:starEach [a,b] X.env=[(false,eval a X.env),(false,eval b X.env)]:=by rfl) (hs2:starEach [b] X.env=[(false,eval b X.env)]:=by rfl) :
  PI X tg (.Call (.Name "range" p) [a,b] [] pos) (qh ta):=by
 intro pins s σ H R I h;refine Call_ (dg I hg hm boot_range (PyProof.Rows.callWith_type1 (thn (ha pos pins s σ H _ I h) fun us s1 ⟨vs,H1,I1,r1,q1⟩=>?_) (by rw [hs,hs2]) (by rw [hs2];rfl)))
 obtain ⟨i,j,e,⟨q1,q2,q3,q4⟩,q⟩:=q1;subst e;cases r1 with
 | cons r rr =>
  cases rr with
  | cons r' rr =>
   cases rr;obtain ⟨t,rfl⟩:=r;obtain ⟨t',rfl⟩:=r';exact call_range_2 (mL I1 q1 q2 q3 q4 q)
def xF (wi:TI) (g:TG) (tb:TS):TS:=fun D σ H=>wi σ H fun J H1=>∃ W:Nat→Nat→St→Hp→Prop,(∃ m,W 0 m σ H1)∧∀ i m σ H,W i m σ H →
 (J.stop i H∧D.nx σ H)∨(J.go i H∧∃ N:St→Hp→Prop,(∀ σ' H',N σ' H'→∃ m',m' < m∧W (i+1) m' σ' H')∧∀ x H',J.yld i H x H'→g x σ H' fun σ2 H2=>tb { D with nx:=N,ct:=N,bk:=D.nx } σ2 H2)
def fF (fp:List Addr) (h:Heap):List (Addr×Obj):=fp.filterMap fun b=>(h.get? b).map fun o=>(b,o)
theorem el {fp:List Addr} {h:Heap} {b:Addr} {o:Obj} (hb:b∈fp) (e:h.get? b=some o):(b,o)∈fF fp h:=List.mem_filterMap.mpr ⟨b,hb,by rw [e];rfl⟩
theorem rD {fp:List Addr} {h:Heap} {p:Addr×Obj} (hp:p∈fF fp h):p.1∈fp∧h.get? p.1=some p.2:=by
 obtain ⟨b,hb,e⟩:=List.mem_filterMap.mp hp;cases q:h.get? b with
 | none=>rw [q] at e;cases e
 | some o =>
  rw [q] at e;have e':(b,o)=p:=Option.some.inj e;subst e';exact ⟨hb,q⟩
theorem Inv.pinned {pins:List (Addr×Obj)} {σ:St} {H:Hp} {s:Shared} {fp:List Addr} (I:Inv X pins σ H s) (hf:∀ b∈fp,eQ X pins H b) (ho:∀ b∈fp,∃ o,s.heap.get? b=some o∧∀ v,o.data≠.cell v):Inv X (pins++fF fp s.heap) σ H s :=
 I.oG fun p hp=>(List.mem_append.mp hp).elim (fun z=>I.pin p (List.mem_append_right _ z)) fun z=>by
  obtain ⟨hb,e⟩:=rD z;obtain ⟨f0,f1,f2,_⟩:=hf p.1 hb;obtain ⟨o,e',d⟩:=ho p.1 hb;rw [e] at e';cases e';exact ⟨e,f0,f1,f2,d⟩
theorem Inv.gn {pins pl:List (Addr×Obj)} {σ:St} {H:Hp} {s:Shared} (I:Inv X (pins++pl) σ H s):Inv X pins σ H s:=I.oG fun p hp=>I.pin p (List.mem_append_right _ (List.mem_append_left _ hp))
theorem dW {iter:Expr} {body:List Stmt} {wi:TI} {g:TG} {tb:TS} {pos:Pos} (hp:PassesOwn (model X.prog X.w) X.A X.env X.xe) (hc:X.calm=true) (hi:PI X tg iter wi) (hg:PG X tg g) (hb:PSs X body tb)
  (hs:∀ x,foldedSetIterable iter X.env x=pure x:=by intro _;rfl):PS X (.For tg iter body [] pos) (xF wi g tb):=by
 intro pins s σ H D I h;refine wpAny_For (thn (hi pins s σ H _ I h) fun v s1 h1=>thn h1 fun itv s2 h2=>?_) hs;obtain ⟨it,fp,tn,J,H2,e,I2,T,st2,f2,W,⟨m0,w0⟩,turn⟩:=h2;subst e;have stat:∀ {H':Hp},(∀ b∈fp,H' b=none)→∀ b∈fp,eQ X pins H' b:=fun hn b hb=>⟨hn b hb,(f2 b hb).2⟩;refine codeAny_forLoop_any (fun n s'=>∃ i σ' H',Inv X pins σ' H' s'∧tn i s'.heap∧(∀ b∈fp,H' b=none)∧W i n σ' H') ?_ m0 ⟨0,σ,H2,I2,st2,fun b hb=>(f2 b hb).1,w0⟩;rintro n s3 ⟨i,σ3,H3,I3,st3,fr3,w3⟩;rcases turn i n σ3 H3 w3 with ⟨stop,qn⟩|⟨go,N,hN,step⟩
 ·refine wpAny_passesOwn hp (thn (T.done X rfl rfl rfl hc i pins s3 σ3 H3 X.xe I3 (stat fr3) st3 stop) fun r s4 ⟨hr,I4⟩=>?_);subst hr;exact wpAny_execs_nil ⟨σ3,H3,I4,qn⟩
 ·refine wpAny_passesOwn hp (thn (T.item X rfl rfl rfl hc i pins s3 σ3 H3 X.xe I3 (stat fr3) st3 go) fun r s4 ⟨u,hr,h4⟩=>?_);subst hr;refine wpAny_passesOwn hp (thn h4 fun _ s5 ⟨x,H5,I5,r5,y5,st5,fr5⟩=>?_);have I5':=I5.pinned (stat fr5) (T.obj _ _ st5);refine wpAny_passesOwn hp (thn (hg _ s5 σ3 H5 x u _ I5' r5 (step x H5 y5)) fun _ s6 ⟨σ6,H6,I6,q6⟩=>?_);refine wpAny_passesOwn hp (thn (hb _ s6 σ6 H6 _ I6 q6) fun f s7 q7=>?_);have again:∀ {σ7:St} {H7:Hp},Inv X (pins++fF fp s5.heap) σ7 H7 s7→N σ7 H7→∃ m,m<n∧∃ i σ' H',Inv X pins σ' H' s7∧tn i s7.heap∧(∀ b∈fp,H' b=none)∧W i m σ' H':=fun {σ7 H7} I7 n7=>by
   obtain ⟨m',hm,w7⟩:=hN σ7 H7 n7;refine ⟨m',hm,i+1,σ7,H7,I7.gn,T.keep _ _ _ st5 fun b hb o e=>(I7.pin (b,o) (List.mem_append_right _ (List.mem_append_right _ (el hb e)))).1,fun b hb=>?_,w7⟩;obtain ⟨o,e,d⟩:=T.obj _ _ st5 b hb;exact (I7.pin (b,o) (List.mem_append_right _ (List.mem_append_right _ (el hb e)))).2.1
  cases f with
  | next=>obtain ⟨σ7,H7,I7,n7⟩:=q7;exact again I7 n7
  | cont=>obtain ⟨σ7,H7,I7,n7⟩:=q7;exact again I7 n7
  | brk=>obtain ⟨σ7,H7,I7,q7⟩:=q7;exact ⟨σ7,H7,I7.gn,q7⟩
  | ret v=>obtain ⟨x7,σ7,H7,I7,r7,q7⟩:=q7;exact ⟨x7,σ7,H7,I7.gn,r7,q7⟩
end
theorem sL {K:PySem.W.Frag} {a:Addr} {xs:List V} {g:TG} {tb:TS} {D:Ends} {σ:St} {H:Hp} (Pv:Nat→St→Hp→Prop) (h0:Pv 0 σ H) (hl:∀ i σ H,i≤xs.length→Pv i σ H→SqL K H a xs)
  (hs:∀ i x σ H,xs[i]?=some x→Pv i σ H→g x σ H fun σ2 H2=>tb { D with nx:=Pv (i+1),ct:=Pv (i+1),bk:=D.nx } σ2 H2) (hd:∀ σ H,Pv xs.length σ H→D.nx σ H) :
  ∃ W:Nat→Nat→St→Hp→Prop,(∃ m,W 0 m σ H)∧∀ i m σ H,W i m σ H →
   ((Itl K a).stop i H∧D.nx σ H)∨((Itl K a).go i H∧∃ N:St→Hp→Prop,(∀ σ' H',N σ' H'→∃ m',m' < m∧W (i+1) m' σ' H')∧∀ x H',(Itl K a).yld i H x H'→g x σ H' fun σ2 H2=>tb { D with nx:=N,ct:=N,bk:=D.nx } σ2 H2):=by
 refine ⟨fun i m σ H=>m=xs.length - i∧i≤xs.length∧Pv i σ H,⟨xs.length,by simp,Nat.zero_le _,h0⟩,?_⟩
 rintro i m σ H ⟨rfl,hi,p⟩;have q:=hl i σ H hi p
 by_cases hlt:i<xs.length
 ·refine .inr ⟨⟨xs,xs[i],q,by simp [hlt]⟩,Pv (i+1),fun σ' H' p'=>⟨xs.length - (i+1),by omega,rfl,hlt,p'⟩,fun x H' y=>?_⟩
  obtain ⟨e,y⟩:=y;subst e;exact hs i x σ _ (y xs q) p
 ·have e:i=xs.length:=by omega
  subst e;exact .inl ⟨⟨xs,q,Nat.le_refl _⟩,hd σ H p⟩
theorem qG {lo:Int} {n:Nat} {g:TG} {tb:TS} {D:Ends} {σ:St} {H:Hp} (Pv:Nat→St→Hp→Prop) (h0:Pv 0 σ H)
  (hs:∀ i σ H,i<n→Pv i σ H→g (.int (lo+i)) σ H fun σ2 H2=>tb { D with nx:=Pv (i+1),ct:=Pv (i+1),bk:=D.nx } σ2 H2) (hd:∀ σ H,Pv n σ H→D.nx σ H) :
  ∃ W:Nat→Nat→St→Hp→Prop,(∃ m,W 0 m σ H)∧∀ i m σ H,W i m σ H →
   ((Itr lo n).stop i H∧D.nx σ H)∨((Itr lo n).go i H∧∃ N:St→Hp→Prop,(∀ σ' H',N σ' H'→∃ m',m' < m∧W (i+1) m' σ' H')∧∀ x H',(Itr lo n).yld i H x H'→g x σ H' fun σ2 H2=>tb { D with nx:=N,ct:=N,bk:=D.nx } σ2 H2):=by
 refine ⟨fun i m σ H=>m=n - i∧i≤n∧Pv i σ H,⟨n,by simp,Nat.zero_le _,h0⟩,?_⟩
 rintro i m σ H ⟨rfl,hi,p⟩
 by_cases hlt:i<n
 ·refine .inr ⟨hlt,Pv (i+1),fun σ' H' p'=>⟨n - (i+1),by omega,rfl,hlt,p'⟩,fun x H' y=>?_⟩
  obtain ⟨e,y⟩:=y;subst e y;exact hs i σ _ hlt p
 ·have e:i=n:=by omega
  subst e;exact .inl ⟨Nat.le_refl _,hd σ H p⟩
end L2
namespace L2
open PySem PySem.Spec PyProof.Rows
abbrev R2:=V→V→Hp→VK→Prop
def OpR (X:Cx) (f:Value→Value→Sem Value) (r:R2):Prop :=
 ∀ (pins:List (Addr×Obj)) (s:Shared) (σ:St) (H:Hp) (x y:V) (v u:Value) (Q:VK),Inv X pins σ H s→RelV x v→RelV y u→r x y H Q →
  wpAny (model X.prog X.w) X.A (f v u) (EP X pins σ Q) X.xe s
def UnR (X:Cx) (f:Value→Sem Value) (r:V→Hp→VK→Prop):Prop :=
 ∀ (pins:List (Addr×Obj)) (s:Shared) (σ:St) (H:Hp) (x:V) (v:Value) (Q:VK),Inv X pins σ H s→RelV x v→r x H Q →
  wpAny (model X.prog X.w) X.A (f v) (EP X pins σ Q) X.xe s
def b5 (X:Cx) (f:Value) (r:List V→Hp→VK→Prop):Prop :=
 ∀ (pins:List (Addr×Obj)) (s:Shared) (σ:St) (H:Hp) (xs:List V) (us:List Value) (Q:VK),Inv X pins σ H s→Vals xs us→r xs H Q →
  wpAny (model X.prog X.w) X.A (call f us) (EP X pins σ Q) X.xe s
def tOp (r:R2) (ta tb:TE):TE:=fun σ H Q=>ta σ H fun x H1=>tb σ H1 fun y H2=>r x y H2 Q
def tUn (r:V→Hp→VK→Prop) (ta:TE):TE:=fun σ H Q=>ta σ H fun x H1=>r x H1 Q
def rI (C:Int→Int→Prop) (g:Int→Int→V):R2:=fun x y H Q=>∃ i j,x=.int i∧y=.int j∧C i j∧Q (g i j) H
def rI0 (g:Int→Int→V):R2:=fun x y H Q=>∃ i j,x=.int i∧y=.int j∧Q (g i j) H
def rU (g:Int→V):V→Hp→VK→Prop:=fun x H Q=>∃ i,x=.int i∧Q (g i) H
section
variable {X:Cx} {a b c:Expr} {ta tb tc:TE} {pos:Pos}
theorem tN (ha:PE X a ta) (hb:PE X b tb) {pins:List (Addr×Obj)} {s:Shared} {σ:St} {H:Hp} {R:V→V→Hp→Prop} (I:Inv X pins σ H s)
  (h:ta σ H fun x H1=>tb σ H1 fun y H2=>R x y H2) {Q:Value→Shared→Prop} {f:Value→Value→Sem Value}
  (hf:∀ v u s2 x y H2,Inv X pins σ H2 s2→RelV x v→RelV y u→R x y H2→wpAny (model X.prog X.w) X.A (f v u) Q X.xe s2) :
  wpAny (model X.prog X.w) X.A (eval a X.env) (fun v s₁=>wpAny (model X.prog X.w) X.A (eval b X.env) (fun u s₂=>wpAny (model X.prog X.w) X.A (f v u) Q X.xe s₂) X.xe s₁) X.xe s:=by
 refine thn (ha pins s σ H _ I h) fun v s1 ⟨x,H1,I1,r1,q1⟩=>?_;refine thn (hb pins s1 σ H1 _ I1 q1) fun u s2 ⟨y,H2,I2,r2,q2⟩=>?_;exact hf v u s2 x y H2 I2 r1 r2 q2
theorem av {op:Operator} {r:R2} (ho:OpR X (binaryOp op) r) (ha:PE X a ta) (hb:PE X b tb):PE X (.BinOp a op b pos) (tOp r ta tb):=by
 intro pins s σ H Q I h;exact wpAny_BinOp (tN ha hb I h fun v u s2 x y H2 I2 rx ry q=>ho pins s2 σ H2 x y v u Q I2 rx ry q)
theorem uG {op:UnaryOp} {r:V→Hp→VK→Prop} (ho:UnR X (unaryOp op) r) (ha:PE X a ta):PE X (.UnaryOp op a pos) (tUn r ta):=by
 intro pins s σ H Q I h;exact UnaryOp_ (thn (ha pins s σ H _ I h) fun v s1 ⟨x,H1,I1,r1,q1⟩=>ho pins s1 σ H1 x v Q I1 r1 q1)
theorem opI {f:Value→Value→Sem Value} {C:Int→Int→Prop} {g:Int→Int→Int}
  (rule:∀ (i j:Int) (t u:Tok) (s:Shared) (Q:Value→Shared→Prop) (E:Value→Shared→Prop),C i j→Q (.int (g i j) s.toks) { s with toks:=s.toks+1 }→wpAny (model X.prog X.w) X.A (f (.int i t) (.int j u)) Q E s) :
  OpR X f (rI C fun i j=>.int (g i j)):=by
 intro pins s σ H x y v u Q I rx ry h;obtain ⟨i,j,rfl,rfl,hc,q⟩:=h;obtain ⟨t,rfl⟩:=rx;obtain ⟨t',rfl⟩:=ry;exact rule i j t t' s _ _ hc ⟨.int (g i j),H,I.tok _,⟨_,rfl⟩,q⟩
theorem xP {f:Value→Value→Sem Value} {g:Int→Int→Int}
  (rule:∀ (i j:Int) (t u:Tok) (s:Shared) (Q:Value→Shared→Prop) (E:Value→Shared→Prop),Q (.int (g i j) s.toks) { s with toks:=s.toks+1 }→wpAny (model X.prog X.w) X.A (f (.int i t) (.int j u)) Q E s) :
  OpR X f (rI0 fun i j=>.int (g i j)):=by
 intro pins s σ H x y v u Q I rx ry h;obtain ⟨i,j,rfl,rfl,q⟩:=h;obtain ⟨t,rfl⟩:=rx;obtain ⟨t',rfl⟩:=ry;exact rule i j t t' s _ _ ⟨.int (g i j),H,I.tok _,⟨_,rfl⟩,q⟩
theorem w9 {f:Value→Value→Sem Value} {g:Int→Int→Bool}
  (rule:∀ (i j:Int) (t u:Tok) (s:Shared) (Q:Value→Shared→Prop) (E:Value→Shared→Prop),Q (.bool (g i j)) s→wpAny (model X.prog X.w) X.A (f (.int i t) (.int j u)) Q E s) :
  OpR X f (rI0 fun i j=>.bl (g i j)):=by
 intro pins s σ H x y v u Q I rx ry h;obtain ⟨i,j,rfl,rfl,q⟩:=h;obtain ⟨t,rfl⟩:=rx;obtain ⟨t',rfl⟩:=ry;exact rule i j t t' s _ _ ⟨.bl (g i j),H,I,rfl,q⟩
def tw (i j:Int):Prop:=0<j∧j<1073741824
def A0 (i j:Int):Prop:=0≤j∧j≤1000000∧i.natAbs<2 ^ 64
def o8 (i j:Int):Prop:=(-(2 ^ 64)<i∧i<2 ^ 64)∨(-(2 ^ 64)<j∧j<2 ^ 64)
theorem o8.ok {i j:Int} (h:o8 i j):IntMulOk i j:=by
 rcases h with ⟨h1,h2⟩|⟨h1,h2⟩
 ·exact .of_left (intBits_le_64 h1 h2)
 ·exact .of_right (intBits_le_64 h1 h2)
theorem bH:OpR X (binaryOp .Add) (rI0 fun i j=>.int (i+j)):=xP fun _ _ _ _ _ _ _ q=>add_int q
theorem dv:OpR X (binaryOp .Sub) (rI0 fun i j=>.int (i - j)):=xP fun _ _ _ _ _ _ _ q=>sub_int q
theorem dR:OpR X (binaryOp .Mult) (rI o8 fun i j=>.int (i * j)):=opI fun _ _ _ _ _ _ _ hc q=>mul_int q hc.ok
theorem fC:OpR X (binaryOp .FloorDiv) (rI tw fun i j=>.int (i / j)):=opI fun i j _ _ _ _ _ hc q=>by
 have h1:(0:Int)<j:=hc.1;have h2:j<1073741824:=hc.2;exact floordiv_int (by omega) (by rw [Int.fdiv_eq_ediv_of_nonneg i (by omega)];exact q) (.inl (PyProof.noPylong_small (by omega)))
theorem bM:OpR X (binaryOp .Mod) (rI (fun _ j=>0<j) fun i j=>.int (i % j)):=opI fun i j _ _ _ _ _ hc q=>by
 have h1:(0:Int)<j:=hc;exact mod_int' (by omega) (by rw [Int.fmod_eq_emod_of_nonneg i (by omega)];exact q)
theorem yh:OpR X (binaryOp .Pow) (rI A0 fun i j=>.int (i ^ j.toNat)):=opI fun _ _ _ _ _ _ _ hc q=>pow_int_small hc.1 hc.2.1 hc.2.2 q
theorem unI {f:Value→Sem Value} {g:Int→Int}
  (rule:∀ (i:Int) (t:Tok) (s:Shared) (Q:Value→Shared→Prop) (E:Value→Shared→Prop),Q (.int (g i) s.toks) { s with toks:=s.toks+1 }→wpAny (model X.prog X.w) X.A (f (.int i t)) Q E s) :
  UnR X f (rU fun i=>.int (g i)):=by
 intro pins s σ H x v Q I rx h;obtain ⟨i,rfl,q⟩:=h;obtain ⟨t,rfl⟩:=rx;exact rule i t s _ _ ⟨.int (g i),H,I.tok _,⟨_,rfl⟩,q⟩
theorem qz:UnR X (unaryOp .USub) (rU fun i=>.int (-i)):=unI fun _ _ _ _ _ q=>neg_int q
end
def yq:V→V→Bool
 | .non,.non=>true | .non,.int _=>true | .int _,.non=>true | .non,.bl _=>true | .bl _,.non=>true | .non,.str _=>true | .str _,.non=>true
 | .int _,.int _=>true | .bl _,.bl _=>true | .str _,.str _=>true | .byt _,.byt _=>true
 | .int _,.str _=>true | .str _,.int _=>true | .bl _,.str _=>true | .str _,.bl _=>true
 | _,_=>false
def rEq:R2:=fun x y H Q=>yq x y=true∧Q (.bl (decide (x=y))) H
def rNe:R2:=fun x y H Q=>yq x y=true∧Q (.bl (!decide (x=y))) H
theorem oa {i j:Int}:decide (V.int i=V.int j)=(i == j):=by
 rw [Bool.eq_iff_iff];simp
theorem qF {i j:Bool}:decide (V.bl i=V.bl j)=(i == j):=by
 rw [Bool.eq_iff_iff];simp
theorem oo {i j:Str}:decide (V.str i=V.str j)=(i == j):=by
 rw [Bool.eq_iff_iff];simp
theorem oj {i j:Array UInt8}:decide (V.byt i=V.byt j)=(i.toList == j.toList):=by
 rw [Bool.eq_iff_iff];cases i;cases j;simp
section
variable {X:Cx} {a b c:Expr} {ta tb tc:TE} {pos:Pos}
theorem aM {pins:List (Addr×Obj)} {σ:St} {H:Hp} {s:Shared} {Q:VK} {k k':Bool} (I:Inv X pins σ H s) (q:Q (.bl k) H) (e:k=k'):EP X pins σ Q (.bool k') s:=by
 subst e;exact ⟨.bl k,H,I,rfl,q⟩
theorem dz:OpR X (compareOp .Eq) rEq:=by
 intro pins s σ H x y v u Q I rx ry h;obtain ⟨hs,q⟩:=h;cases x with
 | non =>
  cases rx;cases y with
  | non=>cases ry;exact PySem.EqNone.eq_none_none (aM I q (by simp))
  | bl j=>cases ry;exact PySem.EqNone.eq_none_bool (aM I q (by simp))
  | int j=>obtain ⟨t',rfl⟩:=ry;exact PySem.EqNone.eq_none_int (aM I q (by simp))
  | str j=>obtain ⟨t',rfl⟩:=ry;exact PySem.EqNone.eq_none_str (aM I q (by simp))
  | _=>exact absurd (show false=true from hs) Bool.false_ne_true
 | bl i =>
  cases rx;cases y with
  | non=>cases ry;exact PySem.EqNone.eq_bool_none (aM I q (by simp))
  | bl j=>cases ry;exact eq_bool (aM I q qF)
  | str j=>obtain ⟨t',rfl⟩:=ry;exact PySem.EqMixed.eq_bool_str (aM I q (by simp))
  | _=>exact absurd (show false=true from hs) Bool.false_ne_true
 | int i =>
  obtain ⟨t,rfl⟩:=rx;cases y with
  | non=>cases ry;exact PySem.EqNone.eq_int_none (aM I q (by simp))
  | int j=>obtain ⟨t',rfl⟩:=ry;exact eq_int (aM I q oa)
  | str j=>obtain ⟨t',rfl⟩:=ry;exact PySem.EqMixed.eq_int_str (aM I q (by simp))
  | _=>exact absurd (show false=true from hs) Bool.false_ne_true
 | str i =>
  obtain ⟨t,rfl⟩:=rx;cases y with
  | non=>cases ry;exact PySem.EqNone.eq_str_none (aM I q (by simp))
  | bl j=>cases ry;exact PySem.EqMixed.eq_str_bool (aM I q (by simp))
  | int j=>obtain ⟨t',rfl⟩:=ry;exact PySem.EqMixed.eq_str_int (aM I q (by simp))
  | str j=>obtain ⟨t',rfl⟩:=ry;exact eq_str (aM I q oo)
  | _=>exact absurd (show false=true from hs) Bool.false_ne_true
 | byt i =>
  obtain ⟨t,rfl⟩:=rx;cases y with
  | byt j=>obtain ⟨t',rfl⟩:=ry;exact PySem.W.eq_bytes (aM I q oj)
  | _=>exact absurd (show false=true from hs) Bool.false_ne_true
 | _=>cases y <;> exact absurd (show false=true from hs) Bool.false_ne_true
theorem pS:OpR X (compareOp .NotEq) rNe:=by
 intro pins s σ H x y v u Q I rx ry h;obtain ⟨hs,q⟩:=h;cases x with
 | non =>
  cases rx;cases y with
  | non=>cases ry;exact PySem.EqNone.ne_none_none (aM I q (by simp))
  | bl j=>cases ry;exact PySem.EqNone.ne_none_bool (aM I q (by simp))
  | int j=>obtain ⟨t',rfl⟩:=ry;exact PySem.EqNone.ne_none_int (aM I q (by simp))
  | str j=>obtain ⟨t',rfl⟩:=ry;exact PySem.EqNone.ne_none_str (aM I q (by simp))
  | _=>exact absurd (show false=true from hs) Bool.false_ne_true
 | bl i =>
  cases rx;cases y with
  | non=>cases ry;exact PySem.EqNone.ne_bool_none (aM I q (by simp))
  | bl j=>cases ry;exact ne_bool (aM I q (congrArg not qF))
  | str j=>obtain ⟨t',rfl⟩:=ry;exact PySem.EqMixed.ne_bool_str (aM I q (by simp))
  | _=>exact absurd (show false=true from hs) Bool.false_ne_true
 | int i =>
  obtain ⟨t,rfl⟩:=rx;cases y with
  | non=>cases ry;exact PySem.EqNone.ne_int_none (aM I q (by simp))
  | int j=>obtain ⟨t',rfl⟩:=ry;exact ne_int (aM I q (congrArg not oa))
  | str j=>obtain ⟨t',rfl⟩:=ry;exact PySem.EqMixed.ne_int_str (aM I q (by simp))
  | _=>exact absurd (show false=true from hs) Bool.false_ne_true
 | str i =>
  obtain ⟨t,rfl⟩:=rx;cases y with
  | non=>cases ry;exact PySem.EqNone.ne_str_none (aM I q (by simp))
  | bl j=>cases ry;exact PySem.EqMixed.ne_str_bool (aM I q (by simp))
  | int j=>obtain ⟨t',rfl⟩:=ry;exact PySem.EqMixed.ne_str_int (aM I q (by simp))
  | str j=>obtain ⟨t',rfl⟩:=ry;exact ne_str (aM I q (congrArg not oo))
  | _=>exact absurd (show false=true from hs) Bool.false_ne_true
 | byt i =>
  obtain ⟨t,rfl⟩:=rx;cases y with
  | byt j=>obtain ⟨t',rfl⟩:=ry;exact PySem.W.ne_bytes (aM I q (congrArg not oj))
  | _=>exact absurd (show false=true from hs) Bool.false_ne_true
 | _=>cases y <;> exact absurd (show false=true from hs) Bool.false_ne_true
theorem uf:OpR X (compareOp .Lt) (rI0 fun i j=>.bl (decide (i<j))):=w9 fun _ _ _ _ _ _ _ q=>lt_int q
theorem pJ:OpR X (compareOp .Gt) (rI0 fun i j=>.bl (decide (j<i))):=w9 fun _ _ _ _ _ _ _ q=>gt_int q
theorem OpR.or {f:Value→Value→Sem Value} {r r':R2} (h:OpR X f r) (h':OpR X f r'):OpR X f (fun x y H Q=>r x y H Q∨r' x y H Q):=by
 intro pins s σ H x y v u Q I rx ry q;rcases q with q|q
 ·exact h pins s σ H x y v u Q I rx ry q
 ·exact h' pins s σ H x y v u Q I rx ry q
theorem aV (b:Expr) {op:CmpOp} (h:op≠.In:=by decide) (h2:op≠.NotIn:=by decide):behindInMarks op b=false:=by
 have e1:(op == CmpOp.In)=false:=by cases op <;> first|rfl|exact absurd rfl h
 have e2:(op == CmpOp.NotIn)=false:=by cases op <;> first|rfl|exact absurd rfl h2
 cases b <;> simp [behindInMarks,e1,e2]
theorem eG {op:CmpOp} {r:R2} (ho:OpR X (compareOp op) r) (ha:PE X a ta) (hb:PE X b tb) (hm:behindInMarks op b=false):PE X (.Compare a [op] [b] pos) (tOp r ta tb):=by
 intro pins s σ H Q I h;exact wpAny_Compare1 (tN ha hb I h fun v u s2 x y H2 I2 rx ry q=>ho pins s2 σ H2 x y v u Q I2 rx ry q) hm
def uD (t:TE):TT:=fun σ H Q=>t σ H fun x H'=>∃ k,x=.bl k∧Q k H'
theorem a7 {op:CmpOp} {r:R2} (ho:OpR X (compareOp op) r) (ha:PE X a ta) (hb:PE X b tb) (hm:behindInMarks op b=false):PT X (.Compare a [op] [b] pos) (uD (tOp r ta tb)):=by
 intro pins s σ H Q I h;refine wpAny_isTrue_Compare1 (thn (ha pins s σ H _ I h) fun v s1 ⟨x,H1,I1,r1,q1⟩=>thn (hb pins s1 σ H1 _ I1 q1) fun u s2 ⟨y,H2,I2,r2,q2⟩ =>
  thn (ho pins s2 σ H2 x y v u _ I2 r1 r2 q2) fun c s3 ⟨z,H3,I3,r3,k,e,q3⟩=>?_) hm
 subst e;cases r3;exact wpAny_truthy_bool ⟨H3,I3,q3⟩
theorem je:(sizeLine:Nat)<2 ^ 63:=by rw [sizeLine_eq];decide
theorem vals1 {x:V} {us:List Value} (r:Vals [x] us):∃ u,us=[u]∧RelV x u:=by
 cases r with
 | cons r1 r2=>cases r2;exact ⟨_,rfl,r1⟩
end
end L2
namespace L2
open PySem PySem.Spec PyProof.Rows
structure iy (h:Heap) (x dx C:Addr) (mA:Str→Option Value):Prop where
 obj:h.get? x=some (PySem.W.instObj C dx)
 ns:h.Ns1 dx mA
 ne:dx≠x
theorem qT {h:Heap} {dx:Addr} {mA:Str→Option Value} (n:h.Ns1 dx mA):∃ od,h.get? dx=some od∧∀ name,PySem.W.lookIn name od=some (mA name):=by
 obtain ⟨o,es,ep,ho,hd,hk,_,hm⟩:=n;refine ⟨o,ho,fun name=>?_⟩;have e:=hm name;unfold nsFind findBy at e;rw [← Array.find?_toList] at e;unfold PySem.W.lookIn;rw [hd];dsimp only
 split
 ·rename_i y q
  rw [q] at e;exact congrArg some e
 ·rename_i q
  rw [q] at e;have a:es.toList.any (·.refKey)=false:=by
   rw [List.any_eq_false];intro y hy;obtain ⟨z,t,hkey⟩:=hk y (Array.mem_toList_iff.mp hy);simp [DictEntry.refKey,hkey]
  have a':¬ es.toList.any (·.refKey)=true:=by rw [a];exact Bool.false_ne_true
  rw [if_neg a'];exact congrArg some e
theorem iy.look {h:Heap} {x dx C:Addr} {mA:Str→Option Value} (I:iy h x dx C mA):∃ od,PySem.W.InstAt h x (PySem.W.instObj C dx) C (some od)∧∀ name,PySem.W.lookIn name od=some (mA name) :=
 let ⟨od,ho,hl⟩:=qT I.ns
 ⟨od,⟨I.obj,rfl,rfl,ho⟩,hl⟩
section
variable {prog:Program} {w:World} {A:Around} {E:Value→Shared→Prop} {s:Shared} {K:PySem.W.Frag} {x dx C f:Addr} {mA:Str→Option Value} {name:Str} {v:Value}
theorem get_map {expr:Bool} {Q:Value→Shared→Prop} (X:K.In s.heap) (I:iy s.heap x dx C mA) (hg:PySem.W.plainGet K C name=true) (hh:PySem.W.hasDictIn K C=true)
  (ha:PySem.W.findIn K (.ref C) name=some none) (hv:mA name=some v) (hv':PySem.W.handedIn v=true) (h:Q v { s with toks:=s.toks+1 }) :
  wpAny (model prog w) A (getAttr (.ref x) name expr) Q E s:=by
 obtain ⟨od,J,hl⟩:=I.look;exact PySem.W.get_value X J (PySem.W.plainGet_of hg).1 (PySem.W.findObj_own hh ha rfl (by rw [hl,hv])) hv' h
theorem si {pl:Sem Bool} {Q:Value×List Value→Shared→Prop} (X:K.In s.heap) (I:iy s.heap x dx C mA) (hg:PySem.W.plainGet K C name=true)
  (hf:PySem.W.findIn K (.ref C) name=some (some (.ref f))) (ht:PySem.W.isFn K (.ref f)=true) (hv:mA name=none) (h:Q (.ref f,[.ref x]) s) :
  wpAny (model prog w) A (getMethod (.ref x) name pl) Q E s:=by
 obtain ⟨od,J,hl⟩:=I.look;exact PySem.W.method_fn X J (PySem.W.plainGet_of hg).1 (PySem.W.plainGet_of hg).2 hf (beq_iff_eq.mp ht) (by show (PySem.W.lookIn name od).map (·.isSome)=some false;rw [hl,hv];rfl) h
theorem uP {ns:List Str} {Q:Unit→Shared→Prop} (X:K.In s.heap) (I:iy s.heap x dx C mA)
  (hs:PySem.W.findIn K (.ref C) "__setattr__" = some (some (.builtin "object.__setattr__"))) (hp:PySem.W.plainOver K C=true) (ht:PySem.W.takerIn K C name=some none) (hh:PySem.W.hasDictIn K C=true)
  (hw:PySem.Within mA ns) (hsz:ns.length≤sizeLine)
  (h:∀ h',iy h' x dx C (fun y=>if y=name then some v else mA y)→Heap.SameBut dx s.heap h'→Q () { s with heap:=h',toks:=s.toks+2 }) :
  wpAny (model prog w) A (setAttr (.ref x) name v) Q E s:=by
 obtain ⟨od,J,hl⟩:=I.look;refine PySem.W.set_plain X J hs (PySem.W.osa_open (s:={ s with toks:=s.toks+1 }) (r:=none) X J hp ht fun b=>?_);obtain ⟨cd,hc,hd'⟩:=PySem.W.any_some hh;have hx:s.heap.get? x=some ⟨.ref C,some dx,.plain,#[]⟩:=I.obj;refine wpAny_bind (wpAny_pure (wpAny_bind (wpAny_bind (wpAny_loadPart hx (wpAny_bind (PySem.W.Looks.here (s:={ s with toks:=s.toks+1 }) (PySem.W.looks_clsIn X hc) ?_))))));rw [hd'];refine wpAny_pure (a:=some dx) (wpAny_bind (wpAny_pure (wpAny_bind ?_)));refine wpAny_nsSet1 (s:={ s with toks:=s.toks+1 }) I.ns fun h' hn2 hs2=>?_;obtain ⟨oD,esD,epD,hoD,hdD,hcD⟩:=hn2.count (PySem.Within.cons name v hw);refine wpAny_bind (wpAny_lookBehind hoD (by rw [hdD];exact pastItsLine_dict (Nat.le_trans hcD (by rw [List.length_cons];omega))) ?_)
 exact wpAny_pure (h _ ⟨(hs2.2 _ (Ne.symm I.ne)).trans I.obj,hn2,I.ne⟩ hs2)
theorem sV {R:Result→Shared→Prop} {vs:List Value} {kw:List (Str×Value)} (X:K.In s.heap) (hm:PySem.W.makesIn K C=true)
  (hi:PySem.W.findIn K (.ref C) "__init__" = some (some (.ref f))) (hf:PySem.W.typeIn K (.ref f)=some (.type "function"))
  (h:codeAny (model prog w) (A.under (.builtin "type.__call__" ⟨.ref C :: vs,kw⟩)) (.call (.ref f) ⟨.ref (s.heap.objs.size+1) :: vs,kw⟩) (PySem.W.InitBack (s.heap.objs.size+1) R)
   { s with heap:=(s.heap.push PySem.W.emptyDict).push (PySem.W.instObj C s.heap.objs.size) }) :
  codeAny (model prog w) A (.call (.ref C) ⟨vs,kw⟩) R s:=by
 obtain ⟨hh,g,d,t,os⟩:=s;exact PySem.W.make_core (PySem.W.makes_of X hm) (PySem.W.looks_findIn X hi) (fun self=>PySem.W.bind_fn X self hf) (.inl rfl) h
end
def cJ (f:Str) (v:V):List (Str×V)→List (Str×V)
 | []=>[(f,v)]
 | (g,x) :: r=>if g=f then (g,v) :: r else (g,x) :: cJ f v r
theorem ix (f g:Str) (v:V):∀ fs:List (Str×V),(cJ f v fs).lookup g=if g=f then some v else fs.lookup g
 | []=>by
  show List.lookup g [(f,v)]=_
  by_cases h:g=f
  ·have hb:(g == f)=true:=beq_iff_eq.mpr h;simp only [List.lookup,hb,if_pos h]
  ·have hb:(g == f)=false:=beq_eq_false_iff_ne.mpr h;simp only [List.lookup,hb,if_neg h]
 | (k,x) :: r=>by
  have ih:=ix f g v r;rw [show cJ f v ((k,x) :: r)=(if k=f then (k,v) :: r else (k,x) :: cJ f v r) from rfl]
  by_cases hk:k=f
  ·rw [if_pos hk]
   by_cases h:g=k
   ·have hb:(g == k)=true:=beq_iff_eq.mpr h;simp only [List.lookup,hb,if_pos (h.trans hk)]
   ·have hb:(g == k)=false:=beq_eq_false_iff_ne.mpr h;simp only [List.lookup,hb,if_neg (fun e:g=f=>h (e.trans hk.symm))]
  ·rw [if_neg hk]
   by_cases h:g=k
   ·have hb:(g == k)=true:=beq_iff_eq.mpr h;simp only [List.lookup,hb,if_neg (fun e:g=f=>hk (h.symm.trans e))]
   ·have hb:(g == k)=false:=beq_eq_false_iff_ne.mpr h;simp only [List.lookup,hb];exact ih
theorem gR (f:Str) (v:V):∀ fs:List (Str×V),f∈(cJ f v fs).map (·.1)∧∀ g,g∈fs.map (·.1)→g∈(cJ f v fs).map (·.1)
 | []=>⟨by simp [cJ],fun g h=>by simp at h⟩
 | (k,x) :: r=>by
  obtain ⟨i1,i2⟩:=gR f v r;rw [show cJ f v ((k,x) :: r)=(if k=f then (k,v) :: r else (k,x) :: cJ f v r) from rfl]
  by_cases hk:k=f
  ·rw [if_pos hk];subst hk;exact ⟨by simp,fun g h=>by simpa using h⟩
  ·rw [if_neg hk];refine ⟨?_,fun g h=>?_⟩
   ·rw [List.map_cons];exact List.mem_cons_of_mem _ i1
   ·rw [List.map_cons] at h ⊢;rcases List.mem_cons.mp h with e|e
    ·exact List.mem_cons.mpr (.inl e)
    ·exact List.mem_cons_of_mem _ (i2 g e)
theorem ir (f:Str) (v:V):∀ fs:List (Str×V),(cJ f v fs).length≤fs.length+1
 | []=>by simp [cJ]
 | (k,x) :: r=>by
  have ih:=ir f v r;rw [show cJ f v ((k,x) :: r)=(if k=f then (k,v) :: r else (k,x) :: cJ f v r) from rfl]
  by_cases hk:k=f
  ·rw [if_pos hk,List.length_cons,List.length_cons];omega
  ·rw [if_neg hk,List.length_cons,List.length_cons];omega
theorem cc.some_of {v:V} {o:Option Value} (r:cc (some v) o):∃ u,o=some u∧RelV v u:=by
 cases o with
 | none=>exact (show False from r).elim
 | some u=>exact ⟨u,rfl,r⟩
theorem cc.none_of {o:Option Value} (r:cc none o):o=none:=by
 cases o with
 | none=>rfl
 | some u=>exact (show False from r).elim
theorem rH {v:V} {u:Value} (r:RelV v u):PySem.W.handedIn u=true:=by
 cases v with
 | non=>cases (show u=Value.none from r);rfl
 | bl b=>cases (show u=Value.bool b from r);rfl
 | int i=>obtain ⟨t,e⟩:=(show ∃ t,u=Value.int i t from r);cases e;rfl
 | str x=>obtain ⟨t,e⟩:=(show ∃ t,u=Value.str x t from r);cases e;rfl
 | byt b=>obtain ⟨t,e⟩:=(show ∃ t,u=Value.bytes b t from r);cases e;rfl
 | flt b=>obtain ⟨t,e⟩:=(show ∃ t,u=Value.float b t from r);cases e;rfl
 | ref a=>cases (show u=Value.ref a from r);rfl
 | ty n=>cases (show u=Value.type n from r);rfl
section
variable {P:Program} {w:World} {H H':Hp} {h h':Heap} {a C dx:Addr} {fs fs':List (Str×V)}
theorem g8 (hok:HOk P w H h) (e:H a=some (.ins C dx fs)):∃ mA,iy h a dx C mA∧(∀ f,cc (fs.lookup f) (mA f))∧PySem.Within mA (fs.map (·.1))∧fs.length≤1000∧H dx=some (.own a):=by
 obtain ⟨d,z,ne,ob,mA,n,r,q⟩:=(show aY P w H h a (.ins C dx fs) from hok a _ e);exact ⟨mA,⟨ob,n,ne⟩,r,q,z,d⟩
end
structure Cls (K:PySem.W.Frag) (C:Addr):Prop where
 pg:PySem.W.plainGet K C Str.empty=true
 hd:PySem.W.hasDictIn K C=true
 po:PySem.W.plainOver K C=true
 sa:PySem.W.findIn K (.ref C) "__setattr__" = some (some (.builtin "object.__setattr__"))
theorem Cls.get {K:PySem.W.Frag} {C:Addr} (c:Cls K C) (f:Str):PySem.W.plainGet K C f=true:=c.pg
def cp (K:PySem.W.Frag) (C:Addr) (f:Str):Prop:=PySem.W.findIn K (.ref C) f=some none
theorem cp.zW {K:PySem.W.Frag} {C:Addr} {f:Str} (n:cp K C f):PySem.W.takerIn K C f=some none:=by
 unfold PySem.W.takerIn;rw [show PySem.W.findIn K (.ref C) f=some none from n];rfl
structure Meth (K:PySem.W.Frag) (C:Addr) (m:Str) (f:Addr):Prop where
 at_:PySem.W.findIn K (.ref C) m=some (some (.ref f))
 fn:PySem.W.isFn K (.ref f)=true
 kp:PySem.W.keepIn K (.ref f)=true
section
variable {X:Cx} {pins:List (Addr×Obj)} {σ:St} {H:Hp} {s:Shared} {a C dx:Addr} {fs:List (Str×V)} {f:Str} {v:V} {A:Around} {E:Value→Shared→Prop}
theorem qd {b:Bool} {Q:Value→Shared→Prop} (I:Inv X pins σ H s) (e:H a=some (.ins C dx fs)) (c:Cls X.K C) (n:cp X.K C f) (l:fs.lookup f=some v)
  (h:∀ u s',Inv X pins σ H s'→RelV v u→Q u s'):wpAny (model X.prog X.w) A (getAttr (.ref a) f b) Q E s:=by
 obtain ⟨mA,O,r,_,_,_⟩:=g8 I.hok e;obtain ⟨u,hu,ru⟩:=cc.some_of (v:=v) (o:=mA f) (by rw [← l];exact r f)
 exact get_map I.kIn O (c.get f) c.hd n hu (rH ru) (h u _ (I.tok _) ru)
theorem qe {m:Str} {g:Addr} {pl:Sem Bool} {Q:Value×List Value→Shared→Prop} (I:Inv X pins σ H s) (e:H a=some (.ins C dx fs)) (c:Cls X.K C) (k:Meth X.K C m g) (l:fs.lookup m=none)
  (h:Q (.ref g,[.ref a]) s):wpAny (model X.prog X.w) A (getMethod (.ref a) m pl) Q E s:=by
 obtain ⟨mA,O,r,_,_,_⟩:=g8 I.hok e;have hn:mA m=none:=cc.none_of (by rw [← l];exact r m)
 exact si I.kIn O (c.get m) k.at_ k.fn hn h
theorem pF {y:V} {u:Value} {Q:Unit→Shared→Prop} (I:Inv X pins σ H s) (e:H a=some (.ins C dx fs)) (c:Cls X.K C) (n:cp X.K C f) (hl:fs.length<1000) (ry:RelV y u)
  (h:∀ s',Inv X pins σ (upd H a (.ins C dx (cJ f y fs))) s'→Q () s'):wpAny (model X.prog X.w) A (setAttr (.ref a) f u) Q E s:=by
 obtain ⟨mA,O,r,wi,_,ho⟩:=g8 I.hok e;have hz:(fs.map (·.1)).length≤sizeLine:=by rw [List.length_map,sizeLine_eq];omega
 refine uP I.kIn O c.sa c.po n.zW c.hd wi hz fun h' O' sb=>h _ ?_;have hd:∃ o,h'.get? dx=some o:=let ⟨o,_,_,e',_⟩:=O'.ns;⟨o,e'⟩;refine I.write (x:=a) (e:=dx) (by rw [e];exact True.intro) (.inr ho) (fun b q hb z=>(sb.2 b hb).trans z) hd ?_
 refine ⟨by rw [ag O.ne];exact ho,?_,O.ne,O'.obj,_,O'.ns,fun g=>?_,fun g hg=>?_⟩
 ·have:=ir f y fs;omega
 ·show cc ((cJ f y fs).lookup g) (if g=f then some u else mA g);rw [ix]
  by_cases q:g=f
  ·rw [if_pos q,if_pos q];exact ry
  ·rw [if_neg q,if_neg q];exact r g
 ·by_cases q:g=f
  ·rw [q];exact (gR f y fs).1
  ·refine (gR f y fs).2 g (wi g fun z=>hg ?_);show (if g=f then some u else mA g)=none;rw [if_neg q];exact z
theorem Inv.made (I:Inv X pins σ H s):Inv X pins σ (upd (upd H s.heap.objs.size (.own (s.heap.objs.size+1))) (s.heap.objs.size+1) (.ins C s.heap.objs.size []))
  { s with heap:=(s.heap.push PySem.W.emptyDict).push (PySem.W.instObj C s.heap.objs.size) }:=by
 have e1:(s.heap.push PySem.W.emptyDict).get? s.heap.objs.size=some PySem.W.emptyDict:=Heap.get?_push_size s.heap rfl;have e2:((s.heap.push PySem.W.emptyDict).push (PySem.W.instObj C s.heap.objs.size)).get? (s.heap.objs.size+1)=some (PySem.W.instObj C s.heap.objs.size):=by
  have:=Heap.get?_push_size (s.heap.push PySem.W.emptyDict) (o:=PySem.W.instObj C s.heap.objs.size) rfl
  rwa [Heap.size_push] at this
 have e3:(s.heap.push PySem.W.emptyDict).Ns s.heap.objs.size (fun _=>none):=⟨PySem.W.emptyDict,#[],_,e1,rfl,(fun e he=>absurd he (by simp)),fun _=>rfl⟩
 have I1:=I.laid (a:=s.heap.objs.size) (o:=.own (s.heap.objs.size+1)) (h':=s.heap.push PySem.W.emptyDict) (t':=s.toks) (fun b u q=>Heap.get?_push_of_some _ q) (Nat.le_refl _) ⟨_,e1⟩;refine I1.laid (a:=s.heap.objs.size+1) (o:=.ins C s.heap.objs.size []) (t':=s.toks) (fun b u q=>Heap.get?_push_of_some _ q) (Nat.le_of_eq (Heap.size_push _ _)) ?_;have ne:s.heap.objs.size≠s.heap.objs.size+1:=Nat.ne_of_lt (Nat.lt_succ_self _);refine ⟨by rw [ag ne,ai],Nat.zero_le _,ne,e2,fun _=>none,(Heap.Ns1.of_empty e3).at fun o q=>Heap.get?_push_of_some _ q,fun _=>True.intro,fun y hy=>absurd rfl hy⟩
theorem vn {prog:Program} {w:World} {env:Env} {e:Expr} {f:Str} {pos:Pos} {s:Shared} {Q:Value→Shared→Prop} (hb:attributeBase e f env (eval e env)=eval e env)
  (h:wpAny (model prog w) A (eval e env) (fun o s₁=>wpAny (model prog w) A (getAttr o f true) Q E s₁) E s):wpAny (model prog w) A (eval (.Attribute e f pos) env) Q E s :=
 Attribute_any_ h (by rw [arm_eval_Attribute,hb])
end
def sg (K:PySem.W.Frag) (ta:TE) (f:Str):TE:=fun σ H Q=>ta σ H fun x H1=>∃ a C dx fs v,x=.ref a∧H1 a=some (.ins C dx fs)∧Cls K C∧cp K C f∧fs.lookup f=some v∧Q v H1
def sN (K:PySem.W.Frag) (ta tv:TE) (f:Str):TS:=fun D σ H=>tv σ H fun y H1=>ta σ H1 fun x H2=>∃ a C dx fs,x=.ref a∧H2 a=some (.ins C dx fs)∧Cls K C∧cp K C f∧fs.length<1000 ∧
 D.nx σ (upd H2 a (.ins C dx (cJ f y fs)))
section
variable {X:Cx} {o e value:Expr} {f:Str} {pos pos' tpos:Pos} {ta tv:TE}
theorem yf (he:PE X e ta) (hb:attributeBase e f X.env (eval e X.env)=eval e X.env):PE X (.Attribute e f pos) (sg X.K ta f):=by
 intro pins s σ H Q I h;refine vn hb (thn (he pins s σ H _ I h) fun u s1 ⟨x,H1,I1,rx,a,C,dx,fs,v,ex,ea,c,n,l,q⟩=>?_);subst ex;obtain rfl:u=Value.ref a:=rx;exact qd I1 ea c n l fun u' s2 I2 ru=>⟨v,H1,I2,ru,q⟩
theorem wt (ha:PE X o ta) (hv:PE X value tv) (hs:swapsWith value (some (.Attribute o f pos')) pos.line X.env=pure false):PS X (.Assign [.Attribute o f pos'] value pos) (sN X.K ta tv f):=by
 intro pins s σ H D I h;refine plainObj_wpAny_Assign_Attribute (thn (hv pins s σ H _ I h) fun u s1 ⟨y,H1,I1,ry,q⟩=>thn (ha pins s1 σ H1 _ I1 q) fun ov s2 ⟨x,H2,I2,rx,a,C,dx,fs,ex,ea,c,n,l,q2⟩=>?_) hs;subst ex;obtain rfl:ov=Value.ref a:=rx;exact pF I2 ea c n l ry fun s3 I3=>⟨σ,_,I3,q2⟩
end
section
variable {X:Cx} {pins:List (Addr×Obj)} {σ:St} {H:Hp} {s:Shared} {A:Around} {E:Value→Shared→Prop} {Q:Value→Shared→Prop} {c:Value} {b:Bool}
inductive c5 (K:PySem.W.Frag) (H:Hp):V→Value→Prop where
 | non:c5 K H .non (.type "NoneType")
 | bl (x:Bool):c5 K H (.bl x) (.type "bool")
 | int (i:Int):c5 K H (.int i) (.type "int")
 | str (x:Str):c5 K H (.str x) (.type "str")
 | flt (x:UInt64):c5 K H (.flt x) (.type "float")
 | lst {a:Addr} {xs:List V} (e:H a=some (.lst xs)):c5 K H (.ref a) (.type "list")
 | frz {a:Addr} {o:Obj} {xs:List V} (e:H a=some (.frz o (.lst xs))):c5 K H (.ref a) (.type "list")
 | tup {a:Addr} {xs:List V} (e:H a=some (.tup xs)):c5 K H (.ref a) (.type "tuple")
 | dK {a:Addr} {kvs:List (Key×V)} (e:H a=some (.dK kvs)):c5 K H (.ref a) (.type "dict")
 | dT {a:Addr} {kvs:List (List Key×V)} (e:H a=some (.dT kvs)):c5 K H (.ref a) (.type "dict")
 | ins {a C dx:Addr} {fs:List (Str×V)} (e:H a=some (.ins C dx fs)) (cl:Cls K C) (ha:PySem.W.findIn K (.ref C) "__class__" = some (some (.builtin "object.__class__")))
   (hn:PySem.W.specialIn K (.builtin "object.__class__") "__get__" = some (some (.builtin "getset_descriptor.__get__"))) (htk:PySem.W.takesIn K (.builtin "object.__class__")=some true)
   (hm:PySem.W.mroIn K C (.type "object")=some true):c5 K H (.ref a) (.ref C)
theorem q0 {x:V} {u t:Value} (I:Inv X pins σ H s) (rx:RelV x u) (ty:c5 X.K H x t) (e:PySem.W.kitOne X.K t c=some b) (h:∀ tk,Q (.bool b) { s with toks:=tk }) :
  wpAny (model X.prog X.w) A (call (.builtin "isinstance") [u,c]) Q E s:=by
 cases ty with
 | non=>cases (show u=Value.none from rx);exact PySem.W.kia_one PySem.W.kitx_none I.kIn True.intro e (fun z=>nomatch z) h
 | bl y=>cases (show u=Value.bool y from rx);exact PySem.W.kia_one PySem.W.kitx_bool I.kIn True.intro e (fun z=>nomatch z) h
 | int i=>obtain ⟨t,q⟩:=(show ∃ t,u=Value.int i t from rx);cases q;exact PySem.W.kia_one PySem.W.kitx_int I.kIn True.intro e (fun z=>nomatch z) h
 | str y=>obtain ⟨t,q⟩:=(show ∃ t,u=Value.str y t from rx);cases q;exact PySem.W.kia_one PySem.W.kitx_str I.kIn True.intro e (fun z=>nomatch z) h
 | flt y=>obtain ⟨t,q⟩:=(show ∃ t,u=Value.float y t from rx);cases q;exact PySem.W.kia_one PySem.W.kitx_float I.kIn True.intro e (fun z=>nomatch z) h
 | @lst a xs ea =>
  cases (show u=Value.ref a from rx);obtain ⟨_,_,n,_,h1⟩:=(show aY X.prog X.w H s.heap a (.lst xs) from I.hok a _ ea);exact PySem.W.kia_one PySem.W.kitx_list I.kIn ⟨_,h1,rfl⟩ e (fun z=>nomatch z) h
 | @frz a ob xs ea =>
  cases (show u=Value.ref a from rx);obtain ⟨_,_,_,n,_,h1⟩:=(show aY X.prog X.w H s.heap a (.frz ob (.lst xs)) from I.hok a _ ea);exact PySem.W.kia_one PySem.W.kitx_list I.kIn ⟨_,h1,rfl⟩ e (fun z=>nomatch z) h
 | @tup a xs ea =>
  cases (show u=Value.ref a from rx);obtain ⟨_,_,_,p⟩:=(show aY X.prog X.w H s.heap a (.tup xs) from I.hok a _ ea);obtain ⟨o,h1,h2,_⟩:=p;exact PySem.W.kia_one PySem.W.kitx_tuple I.kIn ⟨o,h1,h2⟩ e (fun z=>nomatch z) h
 | @dK a kvs ea =>
  cases (show u=Value.ref a from rx);obtain ⟨_,_,vs,_,p⟩:=(show aY X.prog X.w H s.heap a (.dK kvs) from I.hok a _ ea);obtain ⟨o,es,ep,h1,h2,_⟩:=p;exact PySem.W.kia_one PySem.W.kitx_dict I.kIn ⟨o,h1,h2.1⟩ e (fun z=>nomatch z) h
 | @dT a kvs ea =>
  cases (show u=Value.ref a from rx);obtain ⟨_,_,xs,_,o,es,ep,h1,h2,_⟩:=(show aY X.prog X.w H s.heap a (.dT kvs) from I.hok a _ ea);exact PySem.W.kia_one PySem.W.kitx_dict I.kIn ⟨o,h1,h2.1⟩ e (fun z=>nomatch z) h
 | @ins a C dx fs ea cl ha hn htk hm =>
  cases (show u=Value.ref a from rx);obtain ⟨mA,O,_⟩:=g8 I.hok ea;obtain ⟨od,J,_⟩:=O.look;exact PySem.W.kia_one (PySem.W.kitx_own (cl.get _) cl.hd ha hn htk hm) I.kIn J e (fun z=>nomatch z) h
end
end L2
namespace L2
open PySem PySem.Spec PyProof.Rows
structure bg (k:Nat) (A:Around):Prop where
 hd:A.handled=none
 dp:A.depth+3 * k+5<recursionLimit
 un:A.units+16 * k+200<cLine
theorem bg.mono {j k:Nat} {A:Around} (r:bg k A) (h:j≤k):bg j A:=⟨r.hd,by have:=r.dp;omega,by have:=r.un;omega⟩
theorem bg.deeper {k:Nat} {A:Around} (r:bg (k+1) A) (env:Env):bg k (A.deeper env) :=
 ⟨r.hd,by have:=r.dp;show A.depth+1+3 * k+5<_;omega,by have:=r.un;show A.units+3+16 * k+200<_;omega⟩
theorem bg.in1 {k:Nat} {A:Around} (r:bg (k+1) A):bg k A.in1 :=
 ⟨r.hd,by have:=r.dp;show A.depth+3 * k+5<_;omega,by have:=r.un;show A.units+1+16 * k+200<_;omega⟩
theorem oX {A:Around} {C:Addr} {us:List Value} {kw:List (Str×Value)}:(A.under (.builtin "type.__call__" ⟨.ref C :: us,kw⟩)).depth=A.depth+1:=by
 first|rfl|simp [Around.under,Code.weight,Code.isCreation,Code.isGuard,Code.isCaller,Code.frames,Code.isFrame,guardIds]
theorem pH {A:Around} {C:Addr} {us:List Value} {kw:List (Str×Value)}:(A.under (.builtin "type.__call__" ⟨.ref C :: us,kw⟩)).units=A.units+1:=by
 first|rfl|simp [Around.under,Code.cUnits,Code.frames,Code.isFrame]
theorem bg.make {k:Nat} {A:Around} (r:bg (k+1) A) (C:Addr) (us:List Value) (kw:List (Str×Value)):bg k (A.under (.builtin "type.__call__" ⟨.ref C :: us,kw⟩)) :=
 ⟨r.hd,by have:=r.dp;rw [oX];omega,by have:=r.un;rw [pH];omega⟩
theorem bg.depth {k:Nat} {A:Around} (r:bg k A):A.depth<recursionLimit:=by have:=r.dp;omega
theorem bg.units {k:Nat} {A:Around} (r:bg k A):A.units+64<cLine:=by have:=r.un;omega
def pG:TA:=fun _ H Q=>Q [] H
def jz (ta:TE) (tr:TA):TA:=fun σ H Q=>ta σ H fun x H1=>tr σ H1 fun xs H2=>Q (x :: xs) H2
section
variable {X:Cx} {e:Expr} {es:List Expr} {te:TE} {t:TA} {pos:Pos}
theorem ae:PA X [] pG:=fun _ _ _ _ H Q I h=>Calls.spliced_nil ⟨[],H,I,.nil,h⟩
theorem oI (ha:PE X e te) (hr:PA X es t) (hs:starEach (e :: es) X.env=(false,eval e X.env) :: starEach es X.env:=by rfl):PA X (e :: es) (jz te t):=by
 intro pos pins s σ H Q I h;rw [hs];show wpAny _ _ (spliced ((false,eval e X.env) :: backTo pos (starEach es X.env))) _ _ s;refine Calls.spliced_cons (thn (ha pins s σ H _ I h) fun u s1 ⟨x,H1,I1,r1,q1⟩=>?_);exact thn (hr pos pins s1 σ H1 _ I1 q1) fun us s2 ⟨xs,H2,I2,r2,q2⟩=>⟨x :: xs,H2,I2,.cons r1 r2,q2⟩
def xm (t:TA):TE:=fun σ H Q=>t σ H fun xs H1=>xs.length≤sizeLine∧∀ p,H1 p=none→Q (.ref p) (upd H1 p (.tup xs))
def sS (t:TA):TE:=fun σ H Q=>t σ H fun xs H1=>xs.length≤sizeLine∧∀ p,H1 p=none→Q (.ref p) (upd H1 p (.lst xs))
theorem qP {x1} (h:PA X es t):PE X (.Tuple es x1 pos) (xm t):=by
 intro pins s σ H Q I hq;refine wpAny_Tuple_spliced (thn (h pos pins s σ H _ I hq) fun us s1 ⟨xs,H1,I1,r,z,q⟩=>⟨by rw [← r.length];exact z,?_⟩)
 have hf:H1 s1.heap.objs.size=none:=I1.hok.fresh (Nat.le_refl _);refine ⟨.ref s1.heap.objs.size,upd H1 s1.heap.objs.size (.tup xs),I1.laid (t':=s1.toks) (fun b u e=>Heap.get?_push_of_some _ e) (Nat.le_refl _) ?_,rfl,q _ hf⟩;exact ⟨z,us,r,⟨_,Heap.get?_push_size _ rfl,rfl,_,rfl⟩⟩
theorem cE (h:PA X es t):PE X (.List es pos) (sS t):=by
 intro pins s σ H Q I hq;refine wpAny_List_spliced (thn (h pos pins s σ H _ I hq) fun us s1 ⟨xs,H1,I1,r,z,q⟩=>⟨by rw [← r.length];exact z,?_⟩)
 have hf:H1 s1.heap.objs.size=none:=I1.hok.fresh (Nat.le_refl _);refine ⟨.ref s1.heap.objs.size,upd H1 s1.heap.objs.size (.lst xs),I1.laid (t':=s1.toks) (fun b u e=>Heap.get?_push_of_some _ e) (Nat.le_refl _) ?_,rfl,q _ hf⟩;exact ⟨z,us,0,r,Heap.get?_push_size _ rfl⟩
end
abbrev Sp:=List V→Hp→VK→XK→Prop
abbrev CXT:=List Env→Hp→Shared→XK→Value→Shared→Prop
structure fk (P:Program) (w:World) (K:PySem.W.Frag) (mg:Str→Option Value) (base:Heap) (A:Around) (outer:List Env) (s:Shared) (H:Hp):Prop where
 frames:A.frames=some outer
 mod:Mod K mg base
 bs:∀ b o,base.get? b=some o→s.heap.get? b=some o∧H b=none
 bsz:base.objs.size≤s.heap.objs.size
 dk:s.heap.FunFrames base outer
 frf:∀ b∈frs outer,H b=none
 hok:HOk P w H s.heap
 bare:AllBare s.gens
def CE (outer:List Env) (P:Program) (w:World) (H:Hp) (s:Shared) (Q:VK) (u:Value) (s':Shared):Prop :=
 ∃ v H',s'.os=s.os∧AllBare s'.gens∧Un (frs outer) [] H H' s.heap s'.heap∧HOk P w H' s'.heap∧RelV v u∧Q v H'
def CR (CX:CXT) (outer:List Env) (P:Program) (w:World) (H:Hp) (s:Shared) (Q:VK) (E:XK) (r:Result) (s':Shared):Prop :=
 match r with
 | .ok (.ret u)=>CE outer P w H s Q u s'
 | .ok _=>False
 | .error e=>CX outer H s E e s'
structure aK (P:Program) (w:World) (K:PySem.W.Frag) (mg:Str→Option Value) (base:Heap) (CX:CXT) (k:Nat) (f:Addr) (fd:FuncData) (ps:List Str) (sp:Sp):Prop where
 len:∀ vs H Q E,sp vs H Q E→vs.length=ps.length
 run:∀ (A:Around) (outer:List Env) (s:Shared) (H:Hp) (args:Args) (us:List Value) (vs:List V) (Q:VK) (E:XK),bg k A→fk P w K mg base A outer s H→BindsTo s fd args (ps.zip us)→Vals vs us→sp vs H Q E →
  codeAny (model P w) A (.call (.ref f) args) (CR CX outer P w H s Q E) s
theorem aK.mono {P:Program} {w:World} {K:PySem.W.Frag} {mg:Str→Option Value} {base:Heap} {CX:CXT} {j k:Nat} {f:Addr} {fd:FuncData} {ps:List Str} {sp:Sp} (F:aK P w K mg base CX j f fd ps sp) (h:j≤k) :
  aK P w K mg base CX k f fd ps sp:=⟨F.len,fun A outer s H args us vs Q E hr=>F.run A outer s H args us vs Q E (hr.mono h)⟩
theorem aK.imp {P:Program} {w:World} {K:PySem.W.Frag} {mg:Str→Option Value} {base:Heap} {CX:CXT} {k:Nat} {f:Addr} {fd:FuncData} {ps:List Str} {sp sp':Sp} (F:aK P w K mg base CX k f fd ps sp)
  (h:∀ vs H Q E,sp' vs H Q E→sp vs H Q E):aK P w K mg base CX k f fd ps sp' :=
 ⟨fun vs H Q E q=>F.len vs H Q E (h _ _ _ _ q),fun A outer s H args us vs Q E hr he hb hv hs=>F.run A outer s H args us vs Q E hr he hb hv (h _ _ _ _ hs)⟩
theorem fk.make {P:Program} {w:World} {K:PySem.W.Frag} {mg:Str→Option Value} {base:Heap} {A:Around} {outer:List Env} {s:Shared} {H:Hp} (e:fk P w K mg base A outer s H) (C:Addr) (us:List Value) (kw:List (Str×Value)) :
  fk P w K mg base (A.under (.builtin "type.__call__" ⟨.ref C :: us,kw⟩)) outer s H:=⟨by first|exact e.frames|(simpa [Around.under,Code.envs,Code.isFrame,pushEnvs] using e.frames),e.mod,e.bs,e.bsz,e.dk,e.frf,e.hok,e.bare⟩
theorem fk.in1 {P:Program} {w:World} {K:PySem.W.Frag} {mg:Str→Option Value} {base:Heap} {A:Around} {outer:List Env} {s:Shared} {H:Hp} (e:fk P w K mg base A outer s H) :
  fk P w K mg base A.in1 outer s H:=⟨e.frames,e.mod,e.bs,e.bsz,e.dk,e.frf,e.hok,e.bare⟩
section
variable {X:Cx} {pins:List (Addr×Obj)} {σ:St} {H:Hp} {s s':Shared}
theorem Inv.xC (I:Inv X pins σ H s):fk X.prog X.w X.K X.mg X.base X.A X.stack s H :=
 ⟨I.ok.frames,I.ok.mod,I.bs,Nat.le_trans I.ok.bsz I.sz,I.stack,I.oC,I.hok,I.bare⟩
theorem Inv.after {Q:VK} {u:Value} (I:Inv X pins σ H s) (h:CE X.stack X.prog X.w H s Q u s'):EP X pins σ Q u s':=by
 obtain ⟨v,H',os,bare,un,hok,r,q⟩:=h;obtain ⟨hh,g,d,t,os'⟩:=s';obtain rfl:os'=s.os:=os;exact ⟨v,H',I.call (h':=hh) (g':=g) (d':=d) (t':=t) (ch:=[]) un hok bare (fun b z=>absurd z (by simp)),r,q⟩
end
def l0 (sp:Sp) (dvs:List V) (E:XK) (t:TA):TE:=fun σ H Q=>t σ H fun vs H1=>sp (vs++dvs) H1 Q E
def qq (C:Addr) (m:Str) (sp:Sp) (dvs:List V) (E:XK) (ta:TE) (t:TA):TE:=fun σ H Q=>ta σ H fun x H1=>∃ a dx fs,x=.ref a∧H1 a=some (.ins C dx fs)∧fs.lookup m=none ∧
 t σ H1 fun vs H2=>sp (x :: (vs++dvs)) H2 Q E
def qk (C:Addr) (sp:Sp) (dvs:List V) (E:XK) (t:TA):TE:=fun σ H Q=>t σ H fun vs H1=>∀ x dx,H1 x=none→H1 dx=none→dx≠x →
 sp (.ref x :: (vs++dvs)) (upd (upd H1 dx (.own x)) x (.ins C dx [])) (fun v H2=>v=.non∧Q (.ref x) H2) E
def Binds (K:PySem.W.Frag) (fd:FuncData) (ps:List Str) (ds:List Value):Prop :=
 ∀ (s:Shared) (us:List Value),K.In s.heap→(us++ds).length=ps.length→BindsTo s fd ⟨us,[]⟩ (ps.zip (us++ds))
theorem Binds.all {K:PySem.W.Frag} {fd:FuncData} {ps:List Str} (h:∀ us:List Value,us.length=ps.length→bindArgs fd ⟨us,[]⟩=pure (ps.zip us)):Binds K fd ps []:=fun s us _ hl=>by
 rw [List.append_nil] at hl ⊢;exact .of_eq (h us hl)
def Passes (CX:CXT) (X:Cx) (E:XK):Prop:=∀ (pins:List (Addr×Obj)) (σ:St) (H:Hp) (s:Shared) (e:Value) (s':Shared),Inv X pins σ H s→CX X.stack H s E e s'→X.xe e s'
section
variable {X:Cx} {CX:CXT} {k:Nat} {f C:Addr} {fd:FuncData} {ps:List Str} {sp:Sp} {dvs:List V} {ds:List Value} {E:XK} {x m:Str} {p pos apos:Pos} {e o:Expr} {es:List Expr} {ta:TE} {t:TA}
theorem qW {pins:List (Addr×Obj)} {σ:St} {H:Hp} {s:Shared} {Q:VK} {us:List Value} {vs:List V} (F:aK X.prog X.w X.K X.mg X.base CX k f fd ps sp) (hr:bg k X.A) (hb:Binds X.K fd ps ds) (hd:Vals dvs ds) (hx:Passes CX X E)
  (I:Inv X pins σ H s) (r:Vals vs us) (h:sp (vs++dvs) H Q E):wpAny (model X.prog X.w) X.A (call (.ref f) us) (EP X pins σ Q) X.xe s:=by
 have r2:Vals (vs++dvs) (us++ds):=r.append hd;have hl:(us++ds).length=ps.length:=by rw [← r2.length];exact F.len _ _ _ _ h
 refine wpAny_call (codeAny_mono (F.run X.A X.stack s H ⟨us,[]⟩ (us++ds) (vs++dvs) Q E hr I.xC (hb s us I.kIn hl) r2 h) fun r s' hq=>?_);cases r with
 | error e=>exact hx pins σ H s e s' I hq
 | ok fl =>
  cases fl with
  | ret u=>exact I.after hq
  | next=>exact False.elim hq
  | brk=>exact False.elim hq
  | cont=>exact False.elim hq
theorem uX (F:aK X.prog X.w X.K X.mg X.base CX k f fd ps sp) (hr:bg k X.A) (hg:Gl X x) (hm:X.mg x=some (.ref f)) (hk:PySem.W.keepIn X.K (.ref f)=true) (hb:Binds X.K fd ps ds) (hd:Vals dvs ds) (hx:Passes CX X E)
  (ha:PA X (e :: es) t) (hdb:(x == ("__debug__" : Str))=false:=by decide) (he:starEach (e :: es) X.env=(false,eval e X.env) :: starEach es X.env:=by rfl) (hpl:(backTo pos (starEach es X.env)).any (·.1)=false:=by rfl) :
  PE X (.Call (.Name x p) (e :: es) [] pos) (l0 sp dvs E t):=by
 intro pins s σ H Q I h;refine wpAny_Call_Name_kw (jW I hg hm ?_ hdb);refine PySem.W.callWith_K (h₀:=X.base) I.ok.mod.kin hk (thn (ha pos pins s σ H _ I h) fun us s1 ⟨vs,H1,I1,r,q⟩=>⟨I1.kIn,?_⟩) he hpl;exact qW F hr hb hd hx I1 r q
theorem uU {pl:Sem Bool} (he:PE X o ta) (c:Cls X.K C) (hm:Meth X.K C m f) (F:aK X.prog X.w X.K X.mg X.base CX k f fd ps sp) (hr:bg k X.A) (hb:Binds X.K fd ps ds) (hd:Vals dvs ds) (hx:Passes CX X E) (ha:PA X (e :: es) t)
  (hst:starEach (e :: es) X.env=(false,eval e X.env) :: starEach es X.env:=by rfl) (hpl:(backTo pos (starEach es X.env)).any (·.1)=false:=by rfl)
  (ht:eval (.Call (.Attribute o m apos) (e :: es) [] pos) X.env=(do
   let ov ← eval o X.env
   standAt apos.atName
   let (f,first) ← holding [ov] (getMethod ov m pl)
   callWith pos f first (backTo pos (starEach (e :: es) X.env)) (backToKw pos (keywordEach [] X.env))):=by rfl) :
  PE X (.Call (.Attribute o m apos) (e :: es) [] pos) (qq C m sp dvs E ta t):=by
 intro pins s σ H Q I h;refine PySem.W.methodCall_KW (pl:=pl) (thn (he pins s σ H _ I h) fun u s1 ⟨x,H1,I1,rx,a,dx,fs,ex,ea,l,q⟩=>?_) ht;subst ex;obtain rfl:u=Value.ref a:=rx;refine qe I1 ea c hm l ?_;refine PySem.W.callWith_K (first:=[.ref a]) (h₀:=X.base) I.ok.mod.kin hm.kp (thn (ha pos pins s1 σ H1 _ I1 q) fun us s2 ⟨vs,H2,I2,r,q2⟩=>⟨I2.kIn,?_⟩) hst hpl;exact qW (us:=.ref a :: us) (vs:=.ref a :: vs) F hr hb hd hx I2 (.cons rfl r) q2
structure Mk (K:PySem.W.Frag) (C f:Addr):Prop where
 makes:PySem.W.makesIn K C=true
 init:PySem.W.findIn K (.ref C) "__init__" = some (some (.ref f))
 fn:PySem.W.isFn K (.ref f)=true
 kp:PySem.W.keepIn K (.ref C)=true
theorem tR {pins:List (Addr×Obj)} {σ:St} {H:Hp} {s:Shared} {Q:VK} {us:List Value} {vs:List V} (M:Mk X.K C f) (F:aK X.prog X.w X.K X.mg X.base CX k f fd ps sp) (hr:bg (k+1) X.A) (hb:Binds X.K fd ps ds) (hd:Vals dvs ds)
  (hx:Passes CX X E) (I:Inv X pins σ H s) (r:Vals vs us)
  (h:∀ x dx,H x=none→H dx=none→dx≠x→sp (.ref x :: (vs++dvs)) (upd (upd H dx (.own x)) x (.ins C dx [])) (fun v H2=>v=.non∧Q (.ref x) H2) E) :
  wpAny (model X.prog X.w) X.A (call (.ref C) us) (EP X pins σ Q) X.xe s:=by
 have hq:=h (s.heap.objs.size+1) s.heap.objs.size (I.hok.fresh (Nat.le_succ _)) (I.hok.fresh (Nat.le_refl _)) (Nat.ne_of_lt (Nat.lt_succ_self _));have I2:=Inv.made (C:=C) I;have r2:Vals (V.ref (s.heap.objs.size+1) :: (vs++dvs)) (Value.ref (s.heap.objs.size+1) :: (us++ds)):=.cons rfl (r.append hd);have hl:(Value.ref (s.heap.objs.size+1) :: us++ds).length=ps.length:=by
  have e:=r2.length;rw [F.len _ _ _ _ hq] at e;exact e.symm
 refine wpAny_call (sV (f:=f) I.kIn M.makes M.init (beq_iff_eq.mp M.fn) (codeAny_mono (F.run _ X.stack _ _ ⟨Value.ref (s.heap.objs.size+1) :: us,[]⟩ (Value.ref (s.heap.objs.size+1) :: (us++ds)) _ _ E (hr.make C us [])
  (I2.xC.make C us []) (hb _ (Value.ref (s.heap.objs.size+1) :: us) I2.kIn hl) r2 hq) fun r s' hq'=>?_))
 cases r with
 | error e=>exact hx pins σ _ _ e s' I2 hq'
 | ok fl =>
  cases fl with
  | ret u =>
   obtain ⟨v,H',I3,rv,ev,q3⟩:=I2.after hq';subst ev;exact ⟨rv,⟨V.ref (s.heap.objs.size+1),H',I3,rfl,q3⟩⟩
  | next=>exact False.elim hq'
  | brk=>exact False.elim hq'
  | cont=>exact False.elim hq'
theorem uQ (M:Mk X.K C f) (F:aK X.prog X.w X.K X.mg X.base CX k f fd ps sp) (hr:bg (k+1) X.A) (hg:Gl X x) (hm:X.mg x=some (.ref C)) (hb:Binds X.K fd ps ds) (hd:Vals dvs ds) (hx:Passes CX X E)
  (ha:PA X (e :: es) t) (hdb:(x == ("__debug__" : Str))=false:=by decide) (he:starEach (e :: es) X.env=(false,eval e X.env) :: starEach es X.env:=by rfl) (hpl:(backTo pos (starEach es X.env)).any (·.1)=false:=by rfl) :
  PE X (.Call (.Name x p) (e :: es) [] pos) (qk C sp dvs E t):=by
 intro pins s σ H Q I h;refine wpAny_Call_Name_kw (jW I hg hm ?_ hdb);refine PySem.W.callWith_K (h₀:=X.base) I.ok.mod.kin M.kp (thn (ha pos pins s σ H _ I h) fun us s1 ⟨vs,H1,I1,r,q⟩=>⟨I1.kIn,?_⟩) he hpl;exact tR M F hr hb hd hx I1 r q
end
section
variable {X:Cx} {CX:CXT} {k:Nat} {f C:Addr} {fd:FuncData} {ps ks:List Str} {sp:Sp} {E:XK} {x m:Str} {p pos apos kpos:Pos} {e o:Expr} {es:List Expr} {kws:List Keyword} {te ta:TE} {t tk:TA} {nm:Option Str}
structure xD (K:PySem.W.Frag) (fd:FuncData) (ps ks:List Str) (g:List Value→List Value→List Value) (gV:List V→List V→List V):Prop where
 to:∀ (s:Shared) (us ws:List Value),K.In s.heap→(g us ws).length=ps.length→BindsTo s fd ⟨us,ks.zip ws⟩ (ps.zip (g us ws))
 rel:∀ {vs:List V} {us:List Value} {zs:List V} {ws:List Value},Vals vs us→Vals zs ws→Vals (gV vs zs) (g us ws)
variable {g:List Value→List Value→List Value} {gV:List V→List V→List V}
end
structure aH (N P:List Str) (sc:Scope):Prop where
 kind:sc.kind=.function
 co:sc.isCoroutine=false
 gen:sc.isGenerator=false
 nd:N.Nodup
 pre:N.take P.length=P
 par:∀ x∈P,sc.names.lookup x=some .local∨sc.names.lookup x=some .cell
 wK:∀ y∈sc.names,y.2≠.free
theorem kP {kindOf:Str→Option NameKind} {x:Str}:∀ {binds:List (Str×Value)} {m:Str→Option Value},(∀ v,(x,v)∉binds)→bindL kindOf binds m x=m x
 | [],_,_=>rfl
 | (n,v) :: r,m,h=>by
  unfold bindL;rw [kP fun w hw=>h w (List.mem_cons_of_mem _ hw)]
  split
  ·have:x≠n:=by rintro rfl;exact h v List.mem_cons_self
   simp [this]
  ·rfl
theorem kT {kindOf:Str→Option NameKind} {x:Str}:∀ {binds:List (Str×Value)} {m:Str→Option Value},(∀ v,(x,v)∉binds)→bindC kindOf binds m x=m x
 | [],_,_=>rfl
 | (n,v) :: r,m,h=>by
  unfold bindC;rw [kT fun w hw=>h w (List.mem_cons_of_mem _ hw)]
  split
  ·rfl
  ·have:x≠n:=by rintro rfl;exact h v List.mem_cons_self
   simp [this]
theorem kU {kindOf:Str→Option NameKind} {x:Str} {v:Value}:∀ {P:List Str} {vs:List Value} {i:Nat} {m:Str→Option Value},P.Nodup→P[i]?=some x→vs[i]?=some v→kindOf x=some .local →
  bindL kindOf (P.zip vs) m x=some v
 | [],_,_,_,_,h,_,_=>by simp at h
 | _ :: _,[],_,_,_,_,h,_=>by simp at h
 | p :: P,w :: vs,0,m,nd,h1,h2,hk=>by
  simp at h1 h2;subst h1;subst h2;show bindL kindOf ((p,w) :: P.zip vs) m p=_;unfold bindL;rw [kP fun v hv=>(List.nodup_cons.mp nd).1 (List.of_mem_zip hv).1,if_pos hk];simp
 | p :: P,w :: vs,i+1,m,nd,h1,h2,hk=>by
  show bindL kindOf ((p,w) :: P.zip vs) m x=_;unfold bindL;exact kU (i:=i) (List.nodup_cons.mp nd).2 (by simpa using h1) (by simpa using h2) hk
theorem kZ {kindOf:Str→Option NameKind} {x:Str} {v:Value}:∀ {P:List Str} {vs:List Value} {i:Nat} {m:Str→Option Value},P.Nodup→P[i]?=some x→vs[i]?=some v→kindOf x≠some .local →
  bindC kindOf (P.zip vs) m x=some v
 | [],_,_,_,_,h,_,_=>by simp at h
 | _ :: _,[],_,_,_,_,h,_=>by simp at h
 | p :: P,w :: vs,0,m,nd,h1,h2,hk=>by
  simp at h1 h2;subst h1;subst h2;show bindC kindOf ((p,w) :: P.zip vs) m p=_;unfold bindC;rw [kT fun v hv=>(List.nodup_cons.mp nd).1 (List.of_mem_zip hv).1,if_neg hk];simp
 | p :: P,w :: vs,i+1,m,nd,h1,h2,hk=>by
  show bindC kindOf ((p,w) :: P.zip vs) m x=_;unfold bindC;exact kZ (i:=i) (List.nodup_cons.mp nd).2 (by simpa using h1) (by simpa using h2) hk
def start (N:List Str) (vs:List V):St:=vs.map some++List.replicate (N.length - vs.length) none
def gb (CX:CXT) (P:Program) (w:World) (K:PySem.W.Frag) (mg:Str→Option Value) (base:Heap) (N:List Str) (qual:Str) (scope:Scope) (f:Addr) (cd:Value) (A:Around) (outer:List Env) (s:Shared) (H:Hp) (E:XK):Cx where
 prog:=P
 w:=w
 K:=K
 mg:=mg
 base:=base
 A:=A.deeper (envOfC qual scope s.heap.objs.size f cd)
 N:=N
 s₀:=s
 H₀:=H
 env:=envOfC qual scope s.heap.objs.size f cd
 outer:=outer
 stack:=envOfC qual scope s.heap.objs.size f cd :: outer
 ex:=[]
 calm:=true
 fn:=fun _=>true
 pn:=[]
 xe:=fun e s'=>wpAny (model P w) (A.deeper (envOfC qual scope s.heap.objs.size f cd)) (leaving (envOfC qual scope s.heap.objs.size f cd) e) (fun _ s''=>CX outer H s E e s'') (fun e' s''=>CX outer H s E e' s'') s'
theorem m8 {sc:Scope} {n:Nat} {x:Str} (h:sc.names.lookup x=some .cell):∃ c,(cellsFrom n sc.names []).lookup x=some c:=by
 have q:=PySem.W.cellsFrom_some sc.names n [] (.inl h);exact Option.isSome_iff_exists.mp q
theorem qR {CX:CXT} {P:Program} {w:World} {K:PySem.W.Frag} {mg:Str→Option Value} {base:Heap} {N ps:List Str} {qual:Str} {scope:Scope} {f:Addr} {cd:Value} {A:Around} {outer:List Env} {s s1:Shared} {H:Hp} {E:XK} {us:List Value} {vs:List V}
  (S:aH N ps scope) (hd:A.handled=none) (e0:fk P w K mg base A outer s H) (hl:vs.length=ps.length) (r:Vals vs us)
  (x:InCallC s s.heap.objs.size (bindL (envOfC qual scope s.heap.objs.size f cd).kindOf (ps.zip us) fun _=>none) (cellsFrom (s.heap.objs.size+1) scope.names []) (bindC (envOfC qual scope s.heap.objs.size f cd).kindOf (ps.zip us) fun _=>none) s1) :
  Inv (gb CX P w K mg base N qual scope f cd A outer s H E) [] (start N vs) H s1:=by
 have hpl:ps.length≤N.length:=by have:=congrArg List.length S.pre;rw [List.length_take] at this;omega
 obtain ⟨h1,tk,rfl,hk⟩:=x.done;have noA:∀ b:Addr,b∉(gb CX P w K mg base N qual scope f cd A outer s H E).ex:=fun b z=>absurd (show b∈([]:List Addr) from z) (by simp)
 refine ⟨⟨e0.mod,S.kind,rfl,rfl,Nat.le_refl _,fun y z c h1 h2=>?_,fun y hy=>?_,fun y c _ h=>?_,fun _=>hd,Around.frames_deeper e0.frames,.inr ⟨rfl,rfl⟩,fun b z=>absurd z (noA b),e0.bs,e0.bsz,fun b _ _=>noA b,fun b z=>absurd z (noA b),e0.dk,e0.frf⟩,
  rfl,e0.bare,Un.kept hk,⟨_,x.toInCall.ns,fun i y v h1 h2 h3=>?_⟩,fun y c h=>⟨_,x.cell y c h⟩,e0.hok.fresh (Nat.le_refl _),fun y c h=>?_,fun p hp=>absurd (show p∈([]:List (Addr×Obj)) from hp) (by simp),e0.hok.kept hk,?_⟩
 ·exact name_of_addr x.apart (PySem.mem_of_lookup h1) (PySem.mem_of_lookup h2)
 ·have hy:scope.names.lookup y=some .cell∨scope.names.lookup y=some .free:=hy;rcases hy with hy|hy
  ·exact m8 hy
  ·exact absurd rfl (S.wK _ (PySem.mem_of_lookup hy))
 ·exact Nat.le_of_lt (x.above y c (PySem.mem_of_lookup h))
 ·have hi:i<vs.length:=by
   unfold start at h2
   by_cases hi:i<vs.length
   ·exact hi
   ·rw [List.getElem?_append_right (by simpa using hi)] at h2
    rw [List.getElem?_replicate] at h2
    split at h2 <;> cases h2
  have ha:vs[i]?=some v:=by
   unfold start at h2;rw [List.getElem?_append_left (by simpa using hi),List.getElem?_map] at h2
   cases e:vs[i]? with
   | none=>rw [e] at h2;cases h2
   | some a=>rw [e] at h2;cases h2;rfl
  obtain ⟨u,hu,rv⟩:=r.get ha;have hp:ps[i]?=some y:=by
   rw [← S.pre,List.getElem?_take_of_lt (by omega)];exact h1
  have ndP:ps.Nodup:=by rw [← S.pre];exact S.nd.sublist (List.take_sublist _ _)
  refine ⟨u,rv,?_⟩;rcases S.par y (List.mem_of_getElem? hp) with k|k
  ·exact .inl ⟨k,kU ndP hp hu k⟩
  ·obtain ⟨c,e⟩:=m8 (n:=s.heap.objs.size+1) k;refine .inr ⟨.inl k,c,e,?_⟩;have q:=x.cell y c e;rw [kZ ndP hp hu (by show scope.names.lookup y≠_;rw [k];decide)] at q
   exact q
 ·exact e0.hok.fresh (Nat.le_of_lt (x.above y c (PySem.mem_of_lookup h)))
 ·unfold start;show _=N.length;rw [List.length_append,List.length_map,List.length_replicate];omega
theorem uz {CX:CXT} {P:Program} {w:World} {K:PySem.W.Frag} {mg:Str→Option Value} {base:Heap} {k:Nat} {f:Addr} {name qual:Str} {params:Arguments} {body:List Stmt} {scope:Scope} {dV kV doc pm cdv ct oc:Value} {an od:Option Addr}
  {osl:Array (Option Value)} {N ps:List Str} {sp:Sp} (lk:K.lookup f=some ⟨oc,od,.func (PySem.W.fnOf name qual params body scope dV kV doc pm an cdv ct),osl⟩) (hcd:PySem.W.codeIn K cdv qual=true) (S:aH N ps scope)
  (len:∀ vs H Q E,sp vs H Q E→vs.length=ps.length)
  (hbody:∀ (A:Around) (outer:List Env) (s:Shared) (H:Hp) (vs:List V) (Q:VK) (E:XK),bg k (A.deeper (envOfC qual scope s.heap.objs.size f cdv))→sp vs H Q E →
   ∃ t,PSs (gb CX P w K mg base N qual scope f cdv A outer s H E) body t∧t { nx:=fun _ H'=>Q .non H',rt:=Q } (start N vs) H) :
  aK P w K mg base CX (k+1) f (PySem.W.fnOf name qual params body scope dV kV doc pm an cdv ct) ps sp:=by
 refine ⟨len,fun A outer s H args us vs Q E hr e0 hb r hsp=>?_⟩;have hl:=len _ _ _ _ hsp;have KX:K.In s.heap:=e0.mod.kin.keeps fun b o e=>(e0.bs b o e).1;have lim:s.heap.NoLimit:=e0.mod.nolimit.keeps fun b o e=>(e0.bs b o e).1;have hkind:∀ y∈ps.zip us,scope.names.lookup y.1=some .local∨(scope.names.lookup y.1=some .cell∧((cellsFrom (s.heap.objs.size+1) scope.names []).lookup y.1).isSome=true):=fun ⟨n,v⟩ hy=>by
  rcases S.par n (List.of_mem_zip hy).1 with q|q
  ·exact .inl q
  ·exact .inr ⟨q,PySem.W.cellsFrom_some _ _ _ (.inl q)⟩
 refine codeAny_call_function hr.depth (KX _ _ lk) rfl S.co S.gen rfl (PySem.W.codeRec_of KX hcd) (hb _ _ _ _ ?_);refine wpAny_newFunctionEnv_cells S.kind hkind fun env he s1 x=>?_;subst he;refine ⟨lim.keeps x.toInCall.keep,codeAny_func ?_⟩;obtain ⟨t,ht,hq⟩:=hbody A outer s H vs Q E (hr.deeper _) hsp;have I:Inv (gb CX P w K mg base N qual scope f cdv A outer s H E) [] (start N vs) H s1:=qR S hr.hd e0 hl r x;refine wpAny_mono (ht [] s1 (start N vs) H _ I hq) (fun fl s' hs=>?_) fun e s' hs=>hs;have fin:∀ {σ':St} {H':Hp} {v:V} {u:Value},Inv (gb CX P w K mg base N qual scope f cdv A outer s H E) [] σ' H' s'→RelV v u→Q v H'→CE outer P w H s Q u s' :=
  fun {σ' H' v u} J rv q=>⟨v,H',J.os,J.bare,J.base,J.hok,rv,q⟩
 cases fl with
 | ret u =>
  obtain ⟨v,σ',H',J,rv,q⟩:=hs;exact fin J rv q
 | next =>
  obtain ⟨σ',H',J,q⟩:=hs;exact fin (v:=V.non) (u:=Value.none) J rfl q
 | brk =>
  obtain ⟨_,_,_,q⟩:=hs;exact False.elim q
 | cont =>
  obtain ⟨_,_,_,q⟩:=hs;exact False.elim q
end L2
namespace L2
open PySem PySem.Spec PyProof.Rows
section
variable {X:Cx} {x:Str} {p pos:Pos} {e:Expr} {es:List Expr} {t:TA} {id T:String} {r:List V→Hp→VK→Prop}
def tCB (r:List V→Hp→VK→Prop) (t:TA):TE:=fun σ H Q=>t σ H fun vs H1=>r vs H1 Q
theorem tE (hc:b5 X (.builtin id) r) (hg:Gl X x) (hm:X.mg x=none) (hv:bootBuiltins x=some (.builtin id)) (ha:PA X (e :: es) t) (hn:x ≠ "__name__":=by decide) (hdb:(x == ("__debug__" : Str))=false:=by decide)
  (he:starEach (e :: es) X.env=(false,eval e X.env) :: starEach es X.env:=by rfl) (hpl:(backTo pos (starEach es X.env)).any (·.1)=false:=by rfl):PE X (.Call (.Name x p) (e :: es) [] pos) (tCB r t):=by
 intro pins s σ H Q I h;refine wpAny_Call_Name_kw (dg I hg hm hv ?_ hn hdb);exact PyProof.Rows.callWith_builtin1 (thn (ha pos pins s σ H _ I h) fun us s1 ⟨vs,H1,I1,r1,q1⟩=>hc pins s1 σ H1 vs us Q I1 r1 q1) he hpl
theorem rK (hc:b5 X (.type T) r) (hg:Gl X x) (hm:X.mg x=none) (hv:bootBuiltins x=some (.type T)) (ha:PA X (e :: es) t) (hn:x ≠ "__name__":=by decide) (hdb:(x == ("__debug__" : Str))=false:=by decide)
  (he:starEach (e :: es) X.env=(false,eval e X.env) :: starEach es X.env:=by rfl) (hpl:(backTo pos (starEach es X.env)).any (·.1)=false:=by rfl):PE X (.Call (.Name x p) (e :: es) [] pos) (tCB r t):=by
 intro pins s σ H Q I h;refine wpAny_Call_Name_kw (dg I hg hm hv ?_ hn hdb);exact PyProof.Rows.callWith_type1 (thn (ha pos pins s σ H _ I h) fun us s1 ⟨vs,H1,I1,r1,q1⟩=>hc pins s1 σ H1 vs us Q I1 r1 q1) he hpl
end
end L2
namespace HT
open PySem PyProof.Rows
section
open PySem.SeqAt
open PySem.AutoSeq1 (wpAny_loadPart')
open PySem.MeetsSeq PySem.MeetsSeq2 PySem.MeetsSeq3
end
section
variable {prog:Program} {w:World} {A:Around} {E:Value→Shared→Prop} {s:Shared}
def sIx (n d:Nat):Option Int→Nat
 | none=>d
 | some v=>if v<0 then (v+(n:Int)).toNat else min v.toNat n
theorem tZ (n d:Nat):sIx n d none=d:=rfl
theorem vf (n d k:Nat):sIx n d (some (k:Int))=min k n:=by
 show (if (k:Int)<0 then ((k:Int)+(n:Int)).toNat else min (k:Int).toNat n)=min k n;rw [if_neg (by omega),Int.toNat_natCast]
end
end HT
namespace L2
open PySem PySem.Spec PyProof.Rows
abbrev TO:=St→Hp→(Option Int→Hp→Prop)→Prop
def PO (X:Cx) (e:Option Expr) (t:TO):Prop :=
 ∀ (pins:List (Addr×Obj)) (s:Shared) (σ:St) (H:Hp) (Q:Option Int→Hp→Prop),Inv X pins σ H s→t σ H Q →
  wpAny (model X.prog X.w) X.A (evalPart e X.env) (fun u s'=>∃ o H',Inv X pins σ H' s'∧IsPart u o∧Q o H') X.xe s
def ot:TO:=fun _ H Q=>Q none H
def ui (t:TE):TO:=fun σ H Q=>t σ H fun x H1=>∃ i,x=.int i∧Q (some i) H1
section
variable {X:Cx} {e:Expr} {te:TE} {lo hi:Option Expr} {tl th:TO} {pos p2:Pos}
theorem u9:PO X none ot:=by
 intro pins s σ H Q I h;rw [evalPart_none];exact wpAny_pure ⟨none,H,I,.none,h⟩
theorem fz (h:PE X e te):PO X (some e) (ui te):=by
 intro pins s σ H Q I hw;rw [evalPart_some];refine thn (h pins s σ H _ I hw) fun u s1 ⟨x,H1,I1,r1,q1⟩=>?_;obtain ⟨i,rfl,q⟩:=q1;obtain ⟨t,rfl⟩:=r1;exact ⟨some i,H1,I1,.int i t,q⟩
def SlR (X:Cx) (r:V→Option Int→Option Int→Hp→VK→Prop):Prop :=
 ∀ (pins:List (Addr×Obj)) (s:Shared) (σ:St) (H:Hp) (x:V) (v vl vu:Value) (lo hi:Option Int) (sl:Addr) (Q:VK),Inv X pins σ H s→RelV x v→s.heap.IsSliceOf sl vl vu .none→IsPart vl lo→IsPart vu hi→r x lo hi H Q →
  ∃ T id,typeLookup (.type T) "__getitem__" = pure (some (.builtin id))∧s.TypeIs v T∧wpAny (model X.prog X.w) X.A (getItem v (.ref sl)) (EP X pins σ Q) X.xe s
theorem SlR.or {r r':V→Option Int→Option Int→Hp→VK→Prop} (h:SlR X r) (h':SlR X r'):SlR X (fun x lo hi H Q=>r x lo hi H Q∨r' x lo hi H Q):=by
 intro pins s σ H x v vl vu lo hi sl Q I rx hs pl pu q;rcases q with q|q
 ·exact h pins s σ H x v vl vu lo hi sl Q I rx hs pl pu q
 ·exact h' pins s σ H x v vl vu lo hi sl Q I rx hs pl pu q
def tSl (r:V→Option Int→Option Int→Hp→VK→Prop) (te:TE) (tl th:TO):TE:=fun σ H Q=>te σ H fun x H1=>tl σ H1 fun l H2=>th σ H2 fun u H3=>r x l u H3 Q
theorem iR {r:V→Option Int→Option Int→Hp→VK→Prop} (hr:SlR X r) (he:PE X e te) (hl:PO X lo tl) (hu:PO X hi th):PE X (.Subscript e (.Slice lo hi none p2) pos) (tSl r te tl th):=by
 intro pins s σ H Q I h;refine Subscript_ (thn (he pins s σ H _ I h) fun v s1 ⟨x,H1,I1,r1,q1⟩=>?_);refine wpAny_Slice (thn (hl pins s1 σ H1 _ I1 q1) fun vl s2 ⟨l,H2,I2,pl,q2⟩=>thn (hu pins s2 σ H2 _ I2 q2) fun vu s3 ⟨u,H3,I3,pu,q3⟩=>?_);rw [evalPart_none];refine wpAny_pure ?_;have I4:Inv X pins σ H3 { s3 with heap:=s3.heap.push { cls:=.type "slice",data:=.fields #[vl,vu,.none] } }:=I3.kept (t':=s3.toks) fun b ob q=>Heap.get?_push_of_some _ q;obtain ⟨T,id,hT,ht,hg⟩:=hr pins { s3 with heap:=s3.heap.push { cls:=.type "slice",data:=.fields #[vl,vu,.none] } } σ H3 x v vl vu l u s3.heap.objs.size Q I4 r1 (Heap.IsSliceOf.new ..) pl pu q3;show wpAny (model X.prog X.w) X.A (subscriptTail e (.Slice lo hi none p2) v (.ref s3.heap.objs.size)) (EP X pins σ Q) X.xe { s3 with heap:=s3.heap.push { cls:=.type "slice",data:=.fields #[vl,vu,.none] } };exact tail_any (ops:=[.ref s3.heap.objs.size,v]) ht hT hg (by with_unfolding_all rfl)
def nL (xs:List V) (lo hi:Option Int):List V:=(xs.drop (HT.sIx xs.length 0 lo)).take (HT.sIx xs.length xs.length hi - HT.sIx xs.length 0 lo)
theorem nP (xs:List V) (lo hi:Option Int):(nL xs lo hi).length≤xs.length:=by
 unfold nL;rw [List.length_take,List.length_drop];omega
end
end L2
namespace L2
open PySem PySem.Spec PyProof.Rows
def ixN (n:Nat) (i:Int):Option Nat:=if 0≤i then (if i<n then some i.toNat else none) else if -(n:Int)≤i then some (i+n).toNat else none
def atI {α:Type} (xs:List α) (i:Int):Option α:=(ixN xs.length i).bind fun j=>xs[j]?
theorem oA {n:Nat} {i:Int} {j:Nat} (h:ixN n i=some j):seqIndex? i n=some j∧j<n∧-(n:Int)≤i∧i<n:=by
 unfold ixN at h
 by_cases h0:0≤i
 ·rw [if_pos h0] at h
  by_cases h1:i<n
  ·rw [if_pos h1] at h;have e:i.toNat=j:=Option.some.inj h;exact ⟨by rw [seqIndex_of h0 h1,e],by omega,by omega,h1⟩
  ·rw [if_neg h1] at h;cases h
 ·rw [if_neg h0] at h
  by_cases h1:-(n:Int)≤i
  ·rw [if_pos h1] at h;have e:(i+n).toNat=j:=Option.some.inj h;exact ⟨by rw [seqIndex_neg (by omega) h1,e],by omega,h1,by omega⟩
  ·rw [if_neg h1] at h;cases h
theorem n0 {α:Type} {xs:List α} {i:Int} {v:α} (h:atI xs i=some v):∃ j,seqIndex? i xs.length=some j∧xs[j]?=some v∧j<xs.length∧-(xs.length:Int)≤i∧i<xs.length:=by
 unfold atI at h;cases e:ixN xs.length i with
 | none=>rw [e] at h;cases h
 | some j =>
  rw [e] at h;obtain ⟨h1,h2,h3,h4⟩:=oA e;exact ⟨j,h1,h,h2,h3,h4⟩
theorem oQ {α:Type} {xs:List α} {j:Nat} {v:α} (h:xs[j]?=some v):atI xs (j:Int)=some v:=by
 have hj:j<xs.length:=(List.getElem?_eq_some_iff.mp h).1;have e:ixN xs.length (j:Int)=some j:=by
  unfold ixN;rw [if_pos (by omega),if_pos (by omega)];simp
 unfold atI;rw [e];exact h
def vd (b:Expr):Prop:=∀ o i,subscripted b false o i=operate [o,i] (getItem o i)
def IxR (X:Cx) (r:R2):Prop :=
 ∀ (value slice:Expr) (pins:List (Addr×Obj)) (s:Shared) (σ:St) (H:Hp) (x y:V) (v u:Value) (Q:VK),Inv X pins σ H s→RelV x v→RelV y u→r x y H Q →
  subscripted slice false v u=operate [v,u] (getItem v u)→wpAny (model X.prog X.w) X.A (subscriptTail value slice v u) (EP X pins σ Q) X.xe s
def MtR (X:Cx) (id:String) (r:V→List V→Hp→VK→Prop):Prop :=
 ∀ (pins:List (Addr×Obj)) (s:Shared) (σ:St) (H:Hp) (x:V) (xs:List V) (v:Value) (us:List Value) (Q:VK),Inv X pins σ H s→RelV x v→Vals xs us→r x xs H Q →
  wpAny (model X.prog X.w) X.A (call (.builtin id) (v :: us)) (EP X pins σ Q) X.xe s
section
variable {X:Cx} {a b:Expr} {ta tb:TE} {pos:Pos}
theorem IxR.or {r r':R2} (h:IxR X r) (h':IxR X r'):IxR X (fun x y H Q=>r x y H Q∨r' x y H Q):=by
 intro value slice pins s σ H x y v u Q I rx ry q hs;rcases q with q|q
 ·exact h value slice pins s σ H x y v u Q I rx ry q hs
 ·exact h' value slice pins s σ H x y v u Q I rx ry q hs
theorem MtR.or {id:String} {r r':V→List V→Hp→VK→Prop} (h:MtR X id r) (h':MtR X id r'):MtR X id (fun x xs H Q=>r x xs H Q∨r' x xs H Q):=by
 intro pins s σ H x xs v us Q I rx rs q;rcases q with q|q
 ·exact h pins s σ H x xs v us Q I rx rs q
 ·exact h' pins s σ H x xs v us Q I rx rs q
theorem cz {r:R2} (hr:IxR X r) (ha:PE X a ta) (hb:PE X b tb) (hs:vd b):PE X (.Subscript a b pos) (tOp r ta tb):=by
 intro pins s σ H Q I h;exact Subscript_ (tN ha hb I h fun v u s2 x y H2 I2 rx ry q=>hr a b pins s2 σ H2 x y v u Q I2 rx ry q (hs _ _))
def kl (K:PySem.W.Frag):R2:=fun x y H Q=>∃ p xs i v,x=.ref p∧y=.int i∧SqL K H p xs∧atI xs i=some v∧Q v H
def tP (K:PySem.W.Frag):R2:=fun x y H Q=>∃ p xs i v,x=.ref p∧y=.int i∧SqT K H p xs∧atI xs i=some v∧Q v H
theorem vc:IxR X (kl X.K):=by
 intro value slice pins s σ H x y v u Q I rx ry h hs;obtain ⟨p,xs,i,z,rfl,rfl,hq,he,q⟩:=h;cases rx;obtain ⟨t,rfl⟩:=ry;obtain ⟨its,r,pl,hz⟩:=I.list hq;obtain ⟨j,h1,h2,h3,h4,h5⟩:=n0 he;obtain ⟨w,ew,rw'⟩:=r.get h2;have hl:=r.length;have hn:=je;have fin:EP X pins σ Q w s:=⟨z,H,I,rw',q⟩
 by_cases h0:0≤i
 ·have hj:i.toNat=j:=by
   rw [seqIndex_of h0 h5] at h1;exact Option.some.inj h1
  exact item_listR pl.isList h0 (by omega) (by rw [hj];simpa using ew) fin hs
 ·have hj:(i+(its.toArray.size:Int)).toNat=j:=by
   rw [seqIndex_neg (by omega) h4] at h1
   rw [List.size_toArray,← hl];exact Option.some.inj h1
  exact subscriptTail_builtinR (x:=w) pl.isList.typeIs slot_list_getitem.lookup
   (wpAny_getItem_list_neg (Q:=fun r s'=>r=w∧EP X pins σ Q r s') pl.isList (by omega) (by rw [List.size_toArray] <;> omega) (by omega) (by rw [hj];simpa using ew) ⟨rfl,fin⟩) hs
theorem wD:IxR X (tP X.K):=by
 intro value slice pins s σ H x y v u Q I rx ry h hs;obtain ⟨p,xs,i,z,rfl,rfl,hq,he,q⟩:=h;cases rx;obtain ⟨t,rfl⟩:=ry;obtain ⟨its,r,pl,hz⟩:=I.tuple hq;obtain ⟨j,h1,h2,h3,h4,h5⟩:=n0 he;obtain ⟨w,ew,rw'⟩:=r.get h2;have hl:=r.length;have hn:=je;have fin:EP X pins σ Q w s:=⟨z,H,I,rw',q⟩;exact subscriptTail_builtinR (x:=w) pl.typeIs slot_tuple_getitem.lookup
  (getItem_tuple (j:=j) (Q:=fun r s'=>r=w∧EP X pins σ Q r s') pl (by omega) (by omega) (by rw [List.size_toArray,← hl];exact h1) (by simpa using ew) ⟨rfl,fin⟩) hs
theorem pK (its:List Value) (n j:Nat) (u:Value):Obj.mapSeq (·.setIfInBounds j u) { cls:=.type "list",data:=.seq its.toArray n }={ cls:=.type "list",data:=.seq (its.set j u).toArray n }:=by
 simp [Obj.mapSeq]
theorem Inv.lst {pins:List (Addr×Obj)} {σ:St} {H:Hp} {s:Shared} {p:Addr} {xs:List V} (I:Inv X pins σ H s) (h:H p=some (.lst xs)) :
  ∃ (its:List Value) (n:Nat),Vals xs its∧s.heap.get? p=some { cls:=.type "list",data:=.seq its.toArray n }∧xs.length≤sizeLine:=by
 obtain ⟨z,its,n,r,e⟩:=I.hok p _ h;exact ⟨its,n,r,e,z⟩
theorem Inv.wL {pins:List (Addr×Obj)} {σ:St} {H:Hp} {s:Shared} {p:Addr} {xs ys:List V} {its its':List Value} {n n':Nat} {f:Obj→Obj} (I:Inv X pins σ H s) (h:H p=some (.lst xs))
  (ho:s.heap.get? p=some { cls:=.type "list",data:=.seq its.toArray n }) (hf:f { cls:=.type "list",data:=.seq its.toArray n }={ cls:=.type "list",data:=.seq its'.toArray n' }) (r:Vals ys its') (hz:ys.length≤sizeLine) (t:Nat) :
  Inv X pins σ (upd H p (.lst ys)) { s with heap:=s.heap.update p f,toks:=t }:=by
 have e:(s.heap.update p f).get? p=some { cls:=.type "list",data:=.seq its'.toArray n' }:=by
  rw [Heap.get?_update_self f ho (by rw [hf] <;> rfl),hf]
 refine I.write (x:=p) (e:=p) (by rw [h];trivial) (.inl rfl) (fun b u hb q=>(Heap.get?_update_other _ _ (Ne.symm hb)).trans q) ⟨_,e⟩ ?_
 exact ⟨hz,its',n',r,e⟩
def uE:V→V→V→Hp→(Hp→Prop)→Prop:=fun o i v H Q=>∃ p xs k j,o=.ref p∧i=.int k∧H p=some (.lst xs)∧ixN xs.length k=some j∧Q (upd H p (.lst (xs.set j v)))
theorem set_list:v8 X uE:=by
 intro pins s σ H o i v ov iv u Q I ro ri rv h;obtain ⟨p,xs,k,j,rfl,rfl,hp,hj,q⟩:=h;cases ro;obtain ⟨t,rfl⟩:=ri;obtain ⟨its,n,r,ho,hz⟩:=I.lst hp;obtain ⟨h1,h2,h3,h4⟩:=oA hj;have hl:=r.length;have hn:=je;have I':Inv X pins σ (upd H p (.lst (xs.set j v))) { s with heap:=s.heap.update p (Obj.mapSeq (·.setIfInBounds j u)) } :=
  I.wL hp ho (pK its n j u) (r.set rv j) (by rw [List.length_set];exact hz) s.toks
 by_cases h0:0≤k
 ·have hk:k.toNat=j:=by
   rw [seqIndex_of h0 h4] at h1;exact Option.some.inj h1
  exact PySem.W.ki_setAt ho h0 (by omega) (by rw [List.size_toArray,← hl];exact h4) (by rw [hk];exact ⟨_,I',q⟩)
 ·have hk:(k+(its.toArray.size:Int)).toNat=j:=by
   rw [seqIndex_neg (by omega) h3] at h1
   rw [List.size_toArray,← hl];exact Option.some.inj h1
  exact PySem.W.ki_setBack ho (by omega) (by rw [List.size_toArray,← hl];exact h3) (by omega) (by rw [hk];exact ⟨_,I',q⟩)
theorem mQ (lo hi:Option Int) (n:Nat):(sliceBounds lo hi none n).1=((HT.sIx n 0 lo:Nat):Int)∧(sliceBounds lo hi none n).2.1=((HT.sIx n n hi:Nat):Int)∧(sliceBounds lo hi none n).2.2=1:=by
 refine ⟨?_,?_,rfl⟩
 ·cases lo with
  | none=>simp [sliceBounds,HT.sIx]
  | some i =>
   simp only [sliceBounds,HT.sIx,Option.getD_none,show (1:Int) > 0 by decide,if_true]
   by_cases h:i<0
   ·simp only [h,if_true] <;> omega
   ·simp only [h,if_false] <;> omega
 ·cases hi with
  | none=>simp [sliceBounds,HT.sIx]
  | some i =>
   simp only [sliceBounds,HT.sIx,Option.getD_none,show (1:Int) > 0 by decide,if_true]
   by_cases h:i<0
   ·simp only [h,if_true] <;> omega
   ·simp only [h,if_false] <;> omega
theorem lN (its:List Value) (lo hi:Option Int):slicePick its.toArray lo hi none=((its.drop (HT.sIx its.length 0 lo)).take (HT.sIx its.length its.length hi - HT.sIx its.length 0 lo)).toArray:=by
 obtain ⟨h1,h2,h3⟩:=mQ lo hi its.toArray.size;unfold slicePick;rw [h1,h2,h3];simp only [sliceRange_one,pick_run,List.size_toArray] <;> rfl
def tY (K:PySem.W.Frag):V→Option Int→Option Int→Hp→VK→Prop:=fun x lo hi H Q=>∃ a xs,x=.ref a∧SqL K H a xs∧∀ p,H p=none→Q (.ref p) (upd H p (.lst (nL xs lo hi)))
theorem uT:SlR X (tY X.K):=by
 intro pins s σ H x v vl vu lo hi sl Q I rx hs pl pu h;obtain ⟨a,xs,rfl,hx,q⟩:=h;cases rx;obtain ⟨its,r,ht,hz⟩:=I.list hx;have hlen:=r.length;refine ⟨"list",_,slot_list_getitem.lookup,ht.isList.typeIs,?_⟩;refine wpAny_getItem_list_slice ht.isList hs pl pu .none (by simp) ?_ (by rw [List.size_toArray] <;> omega)
 rw [lN,← hlen];refine ⟨.ref s.heap.objs.size,_,I.laid (t':=s.toks) (o:=.lst (nL xs lo hi)) (fun b ob q=>Heap.get?_push_of_some _ q) (Nat.le_refl _) ?_,rfl,q _ (I.hok.fresh (Nat.le_refl _))⟩;exact ⟨Nat.le_trans (nP xs lo hi) hz,_,0,(r.drop (HT.sIx xs.length 0 lo)).take (HT.sIx xs.length xs.length hi - HT.sIx xs.length 0 lo),Heap.get?_push_size _ rfl⟩
def ud:V→Bool
 | .non=>true
 | .bl _=>true
 | .int _=>true
 | .str _=>true
 | _=>false
def eqV:V→V→Bool
 | .non,.non=>true
 | .bl a,.bl b=>a == b
 | .bl a,.int b=>(if a then 1 else 0) == b
 | .int a,.bl b=>a == (if b then 1 else 0)
 | .int a,.int b=>a == b
 | .str a,.str b=>a == b
 | _,_=>false
theorem rC {A:Around} {s:Shared} {y x:V} {u v:Value} (ry:RelV y u) (rx:RelV x v) (fy:ud y=true) (fx:ud x=true):SeqAt.EqAt A s u v (eqV y x):=by
 cases y with
 | non =>
  cases ry;cases x with
  | non=>cases rx;exact SeqAt.EqAt.same _
  | bl b=>cases rx;exact SeqAt.EqAt.none_bool b
  | int b=>obtain ⟨t,rfl⟩:=rx;exact SeqAt.EqAt.none_int b t
  | str b=>obtain ⟨t,rfl⟩:=rx;exact SeqAt.EqAt.none_str b t
  | _=>exact absurd (show false=true from fx) Bool.false_ne_true
 | bl a =>
  cases ry;cases x with
  | non=>cases rx;exact SeqAt.EqAt.bool_none a
  | bl b=>cases rx;exact SeqAt.EqAt.bool_bool a b
  | int b=>obtain ⟨t,rfl⟩:=rx;exact SeqAt.EqAt.bool_int a b t
  | str b=>obtain ⟨t,rfl⟩:=rx;exact SeqAt.EqAt.bool_str a b t
  | _=>exact absurd (show false=true from fx) Bool.false_ne_true
 | int a =>
  obtain ⟨t',rfl⟩:=ry;cases x with
  | non=>cases rx;exact SeqAt.EqAt.int_none a t'
  | bl b=>cases rx;exact SeqAt.EqAt.int_bool a t' b
  | int b=>obtain ⟨t,rfl⟩:=rx;exact SeqAt.EqAt.int_int a t' b t
  | str b=>obtain ⟨t,rfl⟩:=rx;exact SeqAt.EqAt.int_str a t' b t
  | _=>exact absurd (show false=true from fx) Bool.false_ne_true
 | str a =>
  obtain ⟨t',rfl⟩:=ry;cases x with
  | non=>cases rx;exact SeqAt.EqAt.str_none a t'
  | bl b=>cases rx;exact SeqAt.EqAt.str_bool a t' b
  | int b=>obtain ⟨t,rfl⟩:=rx;exact SeqAt.EqAt.str_int a t' b t
  | str b=>obtain ⟨t,rfl⟩:=rx;exact SeqAt.EqAt.str_str a t' b t
  | _=>exact absurd (show false=true from fx) Bool.false_ne_true
 | _=>exact absurd (show false=true from fy) Bool.false_ne_true
theorem nG:b5 X (.builtin "len") (fun xs H Q=>∃ p ys,xs=[.ref p]∧(SqL X.K H p ys∨SqT X.K H p ys)∧Q (.int ys.length) H):=by
 intro pins s σ H xs us Q I r h;obtain ⟨p,ys,rfl,hq,q⟩:=h;obtain ⟨u,rfl,rx⟩:=vals1 r;cases rx;have hn:=je;rcases hq with hq|hq
 ·obtain ⟨its,r',pl,hz⟩:=I.list hq;have hlen:=r'.length;exact Calls.call_len_list pl.isList (by simp only [List.size_toArray] <;> omega) ⟨.int ys.length,H,I.tok _,⟨s.toks+1,by rw [List.size_toArray,hlen]⟩,q⟩
 ·obtain ⟨its,r',pl,hz⟩:=I.tuple hq;have hlen:=r'.length;exact len_tuple pl (by simp only [List.size_toArray] <;> omega) ⟨.int ys.length,H,I.tok _,⟨s.toks+1,by rw [List.size_toArray,hlen]⟩,q⟩
theorem b5.or {f:Value} {r r':List V→Hp→VK→Prop} (h:b5 X f r) (h':b5 X f r'):b5 X f (fun xs H Q=>r xs H Q∨r' xs H Q):=by
 intro pins s σ H xs us Q I rs q;rcases q with q|q
 ·exact h pins s σ H xs us Q I rs q
 ·exact h' pins s σ H xs us Q I rs q
theorem nu:b5 X (.type "list") (fun xs H Q=>∃ p ys,xs=[.ref p]∧(SqL X.K H p ys∨SqT X.K H p ys)∧∀ l,H l=none→Q (.ref l) (upd H l (.lst ys))):=by
 intro pins s σ H xs us Q I r h;obtain ⟨p,ys,rfl,hq,q⟩:=h;obtain ⟨u,rfl,rx⟩:=vals1 r;cases rx;have fin:∀ (its:List Value),Vals ys its→ys.length≤sizeLine→∀ (h':Heap) (c':Nat),(∀ b o',s.heap.get? b=some o'→h'.get? b=some o') →
   h'.get? s.heap.objs.size=some { cls:=.type "list",dict:=none,data:=.seq its.toArray c',slots:=#[] }→EP X pins σ Q (.ref s.heap.objs.size) { s with heap:=h' }:=fun its r' hz h' c' kp e =>
  ⟨.ref s.heap.objs.size,_,I.laid (t':=s.toks) kp (Nat.le_refl _) (show aY X.prog X.w _ h' _ (.lst ys) from ⟨hz,its,c',r',e⟩),rfl,q _ (I.hok.fresh (Nat.le_refl _))⟩
 rcases hq with hq|hq
 ·obtain ⟨its,r',pl,hz⟩:=I.list hq;have hlen:=r'.length;obtain ⟨o,ho,hc,n,hd⟩:=pl.isList;exact call_list_seq p (.inl rfl) ho hc hd (fun h' c' kp e=>fin its r' hz h' c' kp e) (by simp only [List.size_toArray] <;> omega)
 ·obtain ⟨its,r',pl,hz⟩:=I.tuple hq;have hlen:=r'.length;obtain ⟨o,ho,hc,n,hd⟩:=pl;exact call_list_seq p (.inr rfl) ho hc hd (fun h' c' kp e=>fin its r' hz h' c' kp e) (by simp only [List.size_toArray] <;> omega)
def tyV (K:PySem.W.Frag) (T:String) (x:V) (H:Hp):Prop:=match x with
 | .str _=>T = "str"
 | .int _=>T = "int"
 | .ref p=>(T = "list" ∧ ∃ xs,SqL K H p xs)∨(T = "tuple" ∧ ∃ o,K.lookup p=some o∧o.cls=.type "tuple" ∧ o.dict=none) ∨
   (T = "dict" ∧ ((∃ kvs,H p=some (.dK kvs))∨∃ kvs,H p=some (.dT kvs)))∨(T = "set" ∧ ∃ S n,H p=some (.set S n))
 | _=>False
theorem rq {pins:List (Addr×Obj)} {σ:St} {H:Hp} {s:Shared} {T:String} {x:V} {v:Value} (I:Inv X pins σ H s) (r:RelV x v) (ty:tyV X.K T x H) :
  s.TypeIs v T∧∀ a,v=.ref a→∃ ob,s.heap.get? a=some ob∧ob.dict=none:=by
 cases x with
 | str z =>
  obtain ⟨t,rfl⟩:=r;cases (show T = "str" from ty);exact ⟨typeIs_str s z t,fun _ e=>nomatch e⟩
 | int i =>
  obtain ⟨t,rfl⟩:=r;cases (show T = "int" from ty);exact ⟨typeIs_int s i t,fun _ e=>nomatch e⟩
 | ref p =>
  cases r;rcases ty with ⟨rfl,xs,hq⟩|⟨rfl,o,hk,hc,hd⟩|⟨rfl,hk⟩|⟨rfl,S,n,hk⟩
  ·obtain ⟨its,_,pl,_⟩:=I.list hq;refine ⟨pl.isList.typeIs,fun a e=>?_⟩;cases e;obtain ⟨o,n,e,c,hd,_⟩:=pl;exact ⟨o,e,hd⟩
  ·refine ⟨⟨o,I.kIn p o hk,hc⟩,fun a e=>?_⟩;cases e;exact ⟨o,I.kIn _ o hk,hd⟩
  ·have z:∃ o,s.heap.get? p=some o∧o.ExactDict:=by
    rcases hk with ⟨kvs,hk⟩|⟨kvs,hk⟩
    ·obtain ⟨_,_,_,_,o,_,_,e,ex,_⟩:=I.hok p _ hk;exact ⟨o,e,ex⟩
    ·obtain ⟨_,_,_,_,o,_,_,e,ex,_⟩:=I.hok p _ hk;exact ⟨o,e,ex⟩
   obtain ⟨o,e,ex⟩:=z;refine ⟨⟨o,e,ex.1⟩,fun a e2=>?_⟩;cases e2;exact ⟨o,e,ex.2.1⟩
  ·obtain ⟨o,_,_,_,e,ex,_⟩:=I.hok p _ hk;refine ⟨⟨o,e,ex.1⟩,fun a e2=>?_⟩;cases e2;exact ⟨o,e,ex.2.1⟩
 | _=>exact False.elim ty
def sF (K:PySem.W.Frag) (T:String) (r:V→List V→Hp→VK→Prop) (to:TE):TE:=fun σ H Q=>to σ H fun x H1=>tyV K T x H1∧r x [] H1 Q
def tBM (K:PySem.W.Frag) (T:String) (r:V→List V→Hp→VK→Prop) (to:TE) (t:TA):TE:=fun σ H Q=>to σ H fun x H1=>tyV K T x H1∧t σ H1 fun xs H2=>r x xs H2 Q
variable {o e:Expr} {es:List Expr} {to:TE} {t:TA} {name:Str} {apos cpos:Pos} {T id:String} {r:V→List V→Hp→VK→Prop}
theorem xR (pa:PlainAttrs T) (slot:Slot T name id) (hty:typeOf (.builtin id)=pure (.type "method_descriptor")) (hm:MtR X id r) (ho:PE X o to)
  (hbase:attributeBase o name X.env (eval o X.env)=eval o X.env:=by rfl) (hline:(apos.endLine == cpos.line)=true:=by rfl):PE X (.Call (.Attribute o name apos) [] [] cpos) (sF X.K T r to):=by
 intro pins s σ H Q I h;refine wpAny_Call_method0_late hbase hline (thn (ho pins s σ H _ I h) fun v s1 ⟨x,H1,I1,r1,ty,q1⟩=>?_);obtain ⟨h1,h2⟩:=rq I1 r1 ty;exact ⟨T,id,pa,slot,hty,h1,h2,Calls.callWith_builtin rfl (PySem.evalArgs_none (hm pins s1 σ H1 x [] v [] Q I1 r1 .nil q1))⟩
theorem zZ (pa:PlainAttrs T) (slot:Slot T name id) (hty:typeOf (.builtin id)=pure (.type "method_descriptor")) (hm:MtR X id r) (ho:PE X o to) (ha:PA X (e :: es) t)
  (hbase:attributeBase o name X.env (eval o X.env)=eval o X.env:=by rfl)
  (hfew:((backTo cpos (starEach (e :: es) X.env)).all (fun x=>!x.1) && (backToKw cpos (keywordEach [] X.env)).all (fun x=>x.1.isSome)
   && decide ((e :: es).length+([]:List Keyword).length+(if ([]:List Keyword).isEmpty then 0 else 1)<30))=true:=by rfl)
  (hline:(apos.endLine == cpos.line)=true:=by rfl) (hs:starEach (e :: es) X.env=(false,eval e X.env) :: starEach es X.env:=by rfl) (hplain:(backTo cpos (starEach es X.env)).any (·.1)=false:=by rfl) :
  PE X (.Call (.Attribute o name apos) (e :: es) [] cpos) (tBM X.K T r to t):=by
 intro pins s σ H Q I h;refine wpAny_Call_method_late hbase hfew hline rfl (thn (ho pins s σ H _ I h) fun v s1 ⟨x,H1,I1,r1,ty,q1⟩=>?_);obtain ⟨h1,h2⟩:=rq I1 r1 ty;refine ⟨T,id,pa,slot,hty,h1,h2,?_⟩;have hA:=ha cpos pins s1 σ H1 _ I1 q1;rw [hs] at hA ⊢;refine Calls.callWith_builtin (by show (false || (backTo cpos (starEach es X.env)).any (·.1))=false;rw [hplain] <;> rfl) (Calls.evalArgs_plain ?_)
 exact thn hA fun us s2 ⟨vs,H2,I2,r2,q2⟩=>hm pins s2 σ H2 x vs v us Q I2 r1 r2 q2
/- xs.append(e),list.index on a module's tuple .. are MtR facts of 06m -/
end
end L2
namespace L2
open PySem PySem.Spec PyProof.Rows
def MtM (X:Cx) (id:String) (r:V→List V→Hp→VK→Prop):Prop :=
 ∀ (pins:List (Addr×Obj)) (s:Shared) (σ:St) (H:Hp) (x:V) (xs:List V) (v:Value) (us:List Value) (Q:VK),Inv X pins σ H s→RelV x v→Vals xs us→r x xs H Q →
  wpAny (model X.prog X.w) X.A (call (.builtin id) (v :: us)) (EP X pins σ Q) X.xe s
theorem Vals.one {x:V} {us:List Value} (h:Vals [x] us):∃ u,us=[u]∧RelV x u:=by
 cases h with
 | cons r t=>cases t;exact ⟨_,rfl,r⟩
theorem Vals.two {x y:V} {us:List Value} (h:Vals [x,y] us):∃ u v,us=[u,v]∧RelV x u∧RelV y v:=by
 cases h with
 | cons r t =>
  cases t with
  | cons q e=>cases e;exact ⟨_,_,rfl,r,q⟩
theorem Vals.zero:∀ {us:List Value},Vals [] us→us=[]
 | _,.nil=>rfl
theorem Vals.dropLast {xs:List V} {us:List Value} (h:Vals xs us):Vals xs.dropLast us.dropLast:=by
 induction h with
 | nil=>exact .nil
 | cons r t ih =>
  cases t with
  | nil=>exact .nil
  | cons q t'=>exact .cons r ih
theorem Vals.rep {xs:List V} {us:List Value} (h:Vals xs us):∀ k:Nat,Vals (List.replicate k xs).flatten (List.replicate k us).flatten
 | 0=>.nil
 | k+1=>by
  rw [List.replicate_succ,List.replicate_succ,List.flatten_cons,List.flatten_cons];exact Vals.append h (Vals.rep h k)
theorem pY {α:Type} (l:List α):l.eraseIdx (l.length - 1)=l.dropLast:=by
 induction l with
 | nil=>rfl
 | cons a r ih =>
  cases r with
  | nil=>rfl
  | cons b r =>
   have e:(a :: b :: r).length - 1=((b :: r).length - 1)+1:=by
    have h1:(a :: b :: r).length=r.length+2:=rfl;have h2:(b :: r).length=r.length+1:=rfl;omega
   rw [e,List.eraseIdx_cons_succ,ih]
   all_goals rfl
theorem foldl_rep (its:List Value):∀ (k:Nat) (acc:List Value),
  List.foldl (fun x1 x2=>x1++x2) acc.toArray (List.replicate k its.toArray)=(acc++(List.replicate k its).flatten).toArray
 | 0,acc=>by simp
 | k+1,acc=>by
  have e:acc.toArray++its.toArray=(acc++its).toArray:=by simp
  have e2:(acc++its)++(List.replicate k its).flatten=acc++(List.replicate (k+1) its).flatten:=by
   rw [List.replicate_succ,List.flatten_cons,List.append_assoc]
  rw [← e2,← foldl_rep its k (acc++its),← e,List.replicate_succ,List.foldl_cons]
section
variable {X:Cx} {pins:List (Addr×Obj)} {σ:St} {H:Hp} {s:Shared} {l b:Addr} {xs ys zs:List V}
theorem Inv.v9 {its its':List Value} {n:Nat} {f:Array Value→Array Value} {t':Nat} (I:Inv X pins σ H s) (hH:H l=some (.lst xs))
  (e:s.heap.get? l=some { cls:=.type "list",data:=.seq its.toArray n }) (hf:f its.toArray=its'.toArray) (hv:Vals ys its') (hz:ys.length≤sizeLine) :
  Inv X pins σ (upd H l (.lst ys)) { s with heap:=s.heap.update l (Obj.mapSeq f),toks:=t' }:=by
 have q:=PySem.IsL.update e f;rw [hf] at q;refine I.write (x:=l) (e:=l) (by rw [hH];exact trivial) (.inl rfl) (fun b' u hb hu=>(Heap.get?_update_other s.heap (Obj.mapSeq f) (Ne.symm hb)).trans hu) ⟨_,q⟩ ?_
 exact ⟨hz,its',_,hv,q⟩
theorem Inv.xU {its:List Value} {t':Nat} (I:Inv X pins σ H s) (hv:Vals ys its) (hz:ys.length≤sizeLine) :
  Inv X pins σ (upd H s.heap.objs.size (.lst ys)) { s with heap:=s.heap.push { cls:=.type "list",data:=.seq its.toArray },toks:=t' } :=
 I.laid (fun _ _ q=>Heap.get?_push_of_some _ q) (Nat.le_refl _) ⟨hz,its,0,hv,Heap.get?_push_size _ rfl⟩
theorem Inv.fresh (I:Inv X pins σ H s):H s.heap.objs.size=none:=I.hok.fresh (Nat.le_refl _)
theorem Inv.mR (I:Inv X pins σ H s) (hH:H l=some (.lst xs)):xs.length≤sizeLine∧∃ (its:List Value) (n:Nat),Vals xs its∧xs.length=its.length∧s.heap.get? l=some { cls:=.type "list",data:=.seq its.toArray n }:=by
 obtain ⟨z,its,n,r,e⟩:=I.hok l _ hH;exact ⟨z,its,n,r,r.length,e⟩
theorem so {n:Nat} (h:n≤sizeLine):Builtin.List.listTooLong n=false:=by
 unfold Builtin.List.listTooLong;exact decide_eq_false (by omega)
end
section
variable {X:Cx}
def u6:V→List V→Hp→VK→Prop:=fun x vs H Q=>∃ l xs y,x=.ref l∧vs=[y]∧H l=some (.lst xs)∧xs.length<sizeLine∧Q .non (upd H l (.lst (xs++[y])))
theorem kW:MtM X "list.append" u6:=by
 intro pins s σ H x vs v us Q I rx rv h;obtain ⟨l,xs,y,rfl,rfl,hH,hz,q⟩:=h;cases rx;obtain ⟨u,rfl,ru⟩:=rv.one;obtain ⟨z,its,n,r,hl,e⟩:=I.mR hH;refine call_meets F.slot_list_append ⟨_,e,rfl⟩ F.entry_list_append (F.args_list_append_2 _ _) (PySem.list_append l its.toArray n u (by rw [List.size_toArray];omega)) ⟨e,?_⟩
 refine ⟨.non,_,I.v9 (its':=its++[u]) hH e (by simp) (r.append (.cons ru .nil)) ?_,rfl,q⟩
 rw [List.length_append,List.length_singleton];omega
def Bh:V→List V→Hp→VK→Prop:=fun x vs H Q=>∃ l xs y,x=.ref l∧vs=[]∧H l=some (.lst xs)∧xs[xs.length - 1]?=some y∧Q y (upd H l (.lst xs.dropLast))
theorem yz:MtM X "list.pop" Bh:=by
 intro pins s σ H x vs v us Q I rx rv h;obtain ⟨l,xs,y,rfl,rfl,hH,hy,q⟩:=h;cases rx;have hus:=rv.zero;subst hus;obtain ⟨z,its,n,r,hl,e⟩:=I.mR hH;obtain ⟨u,hu,ru⟩:=r.get hy;have hy':its.toArray[its.toArray.size - 1]?=some u:=by
  show its.toArray[its.length - 1]?=some u;rw [← Array.getElem?_toList,← hl];exact hu
 refine call_meets F.slot_list_pop ⟨_,e,rfl⟩ F.entry_list_pop (F.args_list_pop_1 _) (MeetsSeq.list_pop_last l its.toArray n u hy' (by rw [List.size_toArray];omega)) ⟨e,?_⟩
 refine ⟨y,_,I.v9 (its':=its.dropLast) hH e ?_ r.dropLast ?_,ru,q⟩
 ·show its.toArray.eraseIdxIfInBounds (its.toArray.size - 1)=its.dropLast.toArray;rw [List.size_toArray,List.eraseIdxIfInBounds_toArray,pY]
 ·rw [List.length_dropLast];omega
def Bu:R2:=fun x y H Q=>∃ l b xs zs,x=.ref l∧y=.ref b∧H l=some (.lst xs)∧H b=some (.lst zs)∧xs.length+zs.length≤sizeLine∧∀ p,H p=none→Q (.ref p) (upd H p (.lst (xs++zs)))
theorem mx:OpR X (binaryOp .Add) Bu:=by
 intro pins s σ H x y v u Q I rx ry h;obtain ⟨l,b,xs,zs,rfl,rfl,hH,hB,hz,q⟩:=h;cases rx;cases ry;obtain ⟨z,its,n,r,hl,e⟩:=I.mR hH;obtain ⟨z2,its2,n2,r2,hl2,e2⟩:=I.mR hB;refine PySem.P.add_list e e2 ?_ (by rw [List.size_toArray,List.size_toArray];omega)
 have ea:its.toArray++its2.toArray=(its++its2).toArray:=by simp
 rw [ea];exact ⟨.ref _,_,I.xU (t':=s.toks) (r.append r2) (by rw [List.length_append];omega),rfl,q _ I.fresh⟩
def Bn:R2:=fun x y H Q=>∃ l k xs,x=.ref l∧y=.int k∧H l=some (.lst xs)∧-(2 ^ 63)≤k∧k<2 ^ 63∧xs.length * k.toNat≤sizeLine ∧
 ∀ p,H p=none→Q (.ref p) (upd H p (.lst (List.replicate k.toNat xs).flatten))
theorem len_rep {α:Type} (xs:List α) (k:Nat):(List.replicate k xs).flatten.length=k * xs.length:=by
 induction k with
 | zero=>simp
 | succ k ih=>rw [List.replicate_succ,List.flatten_cons,List.length_append,ih,Nat.succ_mul,Nat.add_comm]
theorem fM:OpR X (binaryOp .Mult) Bn:=by
 intro pins s σ H x y v u Q I rx ry h;obtain ⟨l,k,xs,rfl,rfl,hH,h1,h2,hz,q⟩:=h;cases rx;obtain ⟨t,rfl⟩:=ry;obtain ⟨z,its,n,r,hl,e⟩:=I.mR hH;have hlen:its.toArray.size * k.toNat≤sizeLine:=by rw [List.size_toArray,← hl];exact hz
 have hcap:¬ its.toArray.size * k.toNat > (2 ^ 63 - 1) / 8:=by
  have:(sizeLine:Nat)≤(2 ^ 63 - 1) / 8:=by decide
  omega
 have hfit:¬ (!Builtin.List.listFitsIndex k)=true:=by
  rw [fitsIndex_both h1 h2];exact Bool.false_ne_true
 have hlong:¬ Builtin.List.listTooLong (its.toArray.size * k.toNat)=true:=by
  rw [so hlen];exact Bool.false_ne_true
 have hnew:List.foldl (fun x1 x2=>x1++x2) #[] (List.replicate (if its.toArray.isEmpty=true then 0 else k.toNat) its.toArray)=(List.replicate k.toNat its).flatten.toArray:=by
  have f0:∀ m:Nat,List.foldl (fun x1 x2=>x1++x2) #[] (List.replicate m its.toArray)=(List.replicate m its).flatten.toArray:=fun m=>by
   have:=foldl_rep its m [];rw [List.nil_append] at this;exact this
  rw [f0];cases its with
  | nil=>simp
  | cons a r'=>rw [if_neg (by simp)]
 refine wpAny_binaryOp_repeat_ref (T:="list") (U:="int") (by decide) ⟨_,e,rfl⟩ (fun s'=>typeIs_int s' k t) noFill_list_mul F.fills_int_mul F.slot_int_rmul repeat_list F.slot_int_index.lookup
  (call_meets F.slot_int_rmul (typeIs_int s k t) F.entry_int_rmul (F.args_int_rmul_2 _ _) (int___rmul___int_list k t l its.toArray n)
   ⟨e,rfl,⟨_,e,rfl⟩,call_meets F.slot_list_mul ⟨_,e,rfl⟩ F.entry_list_mul (F.args_list_mul_2 _ _) (AutoListH.list___mul___list_int_3 l its.toArray n k t hfit hcap hlong) ⟨e,?_⟩⟩)
 rw [hnew];exact ⟨.ref _,_,I.xU (t':=s.toks) (r.rep k.toNat) (by rw [len_rep,Nat.mul_comm];exact hz),rfl,q _ I.fresh⟩
end
section
variable {prog:Program} {w:World} {A:Around} {E:Value→Shared→Prop} {s:Shared}
end
section
variable {X:Cx}
end
end L2
namespace Att
open PySem PySem.W PySem.Calls PyProof.Rows
theorem jG {P:Params} {h:Heap}:∀ (ns:List Int) (vs:List Value),WellAll P h vs (ns.map WData.int)→IntsAre vs ns:=by
 intro ns
 induction ns with
 | nil =>
  intro vs w;rw [List.map_nil] at w;cases w;exact .nil
 | cons n ns ih =>
  intro vs w;rw [List.map_cons] at w;cases w with
  | cons a b =>
   cases a;exact .cons _ _ (ih _ b)
theorem qJ {l:OpenLaw} {n:Nat} (hn:l.most=some n) {P:Params} {h:Heap} {args:List WData} {vals:List Value}
  (hpre:l.row.toRowW.claim.pre args=true) (hwl:WellAll P h vals args) :
  ∃ a vs ns,vals=[Value.ref a]∧args=[WData.list (ns.map WData.int)]∧h.get? a=some { cls:=.type "list",data:=.seq vs.toArray }∧IntsAre vs ns∧ns.length≤n:=by
 have hsh:WShape.hasAll [] args [.list .int]=true:=(pre_splitW hpre).1;have hc:l.pre.holds [] { args:=args }=true:=(pre_splitW hpre).2;obtain ⟨d,r,rfl,h1,h2⟩:=hasAllW_cons hsh;obtain rfl:=hasAllW_nil h2;obtain ⟨xs,rfl,h3⟩:=hasW_list h1;obtain ⟨ns,rfl⟩:=items_int h3;have hlen:ns.length≤n:=by
  unfold OpenLaw.pre at hc;have h4:(WTm.not (.lt (.lit (.int (n:Int))) (.len (.arg 0)))).holds [] { args:=[.list (ns.map .int)] }=true:=by
   have h4:=(holds_andW hc).1;rw [hn] at h4;exact h4
  have h5:=condW_of h4 (w_not (w_lt w_lit (w_len_list (w_arg rfl))));rw [List.length_map] at h5;refine Nat.le_of_not_lt fun q=>?_;have q':(n:Int)<((ns.length:Nat):Int):=by omega
  first
   | (rw [decide_eq_true q'] at h5;exact absurd h5 (by decide))
   | (simp at h5;omega)
 cases hwl with
 | cons w1 w2 =>
  cases w2;cases w1 with
  | list ho hall=>exact ⟨_,_,ns,rfl,rfl,ho,jG ns _ hall,hlen⟩
theorem qy (l:OpenLaw) (args:List WData):l.row.toRowW.claim.post args (.bool true) args=true :=
 postW_of (r:=l.row.toRowW) (X:=(true == true))
  (show WShape.has [] (.bool true) .bool=true by first|rfl|decide|simp [WShape.has,WShape.arms,WShape.armsAll])
  (show (WTm.eq .res (.lit (.bool true))).value [] { args:=args,res:=some (.bool true),after:=args }=some (.bool (true == true)) from w_eq_bool (w_res rfl) w_lit) rfl
theorem nN {l:OpenLaw} {n:Nat} {q:Program} {loose:List Str} {XP:(Str→Option Value)→Heap→Prop} {YP:World→Heap→Prop} {d:DefRec}
  (hn:l.most=some n) (hdf:d.params.defaults=[])
  (call:∀ (w:World) (s₀ s₁:Shared) (mg mb:Str→Option Value) (fa:Addr) (o:Obj) (pm cd doc:Value) (a:Addr) (vs:List Value) (ns:List Int),
   Ground q loose [] XP w s₀ mg mb s₁.heap→YP w s₁.heap →
   s₁.heap.get? fa=some o→o.data=.func (docDef d.name d.params d.body d.scope pm cd doc)→s₁.heap.CodeRec cd d.name→mg d.name=some (.ref fa) →
   s₁.heap.get? a=some { cls:=.type "list",data:=.seq vs.toArray }→IntsAre vs ns→ns.length≤n→s₁.gens=#[] →
   codeAny (model l.prog w) callerA (.call (.ref fa) ⟨[.ref a],[]⟩) (fun r s'=>r=.ok (.ret (.bool true))∧OldK s₁.heap s'.heap∧s'.os=s₁.os∧AllBare s'.gens) s₁) :
  WalkO q loose XP YP l.row.toRowW d [] (fun f vs=>PySem.call f vs):=by
 intro w s₀ s₁ mg mb G Y fa o pm cd doc dV kV ho hd hcd hD hmg hg args vals as hpre hlay hrd hwl hlo;obtain rfl:dV=.none:=Dflts.none hD hdf;obtain rfl:kV=.none:=Dflts.noKw hD;obtain ⟨a,vs,ns,rfl,rfl,hobj,hints,hlen⟩:=qJ hn hpre hwl;refine enter_call (codeAny_mono (call w s₀ s₁ mg mb fa o pm cd doc a vs ns G Y ho (fd_plain hd) hcd hmg hobj hints hlen hg) fun r s' hq=>?_);obtain ⟨rfl,h2,h3,h4⟩:=hq;exact ⟨.inl ⟨.bool true,.bool true,[],rfl,fun _=>rfl,.bool true,qy l _,fun _=>⟨List.Pairwise.nil,fun _ hm=>(nomatch hm)⟩⟩,h2,h3,h4⟩
section
variable {prog:Program} {w:World} {A:Around} {E:Value→Shared→Prop} {s:Shared} {K:Frag}
end
end Att
namespace L2
open PySem PySem.Spec PyProof.Rows
theorem kN:∀ {vs:List Value} {ns:List Int},IntsAre vs ns→Vals (ns.map V.int) vs
 | _,_,.nil=>.nil
 | _,_,.cons n t h=>.cons ⟨t,rfl⟩ (kN h)
def sZ (H:Hp):Prop:=∀ b,H b=none∨∃ o xs,H b=some (.frz o (.lst xs))
theorem tM {P:Program} {w:World} {K:PySem.W.Frag} {mg mb:Str→Option Value} {CX:CXT} {k:Nat} {fa a:Addr} {fd:FuncData} {x:Str} {sp:Sp} {s₁:Shared} {vs:List Value} {ns:List Int}
  (KX:K.In s₁.heap) (hns:s₁.heap.Ns mainGlobals mg) (hb:s₁.heap.Ns builtinsNs mb) (hbb:∀ x:Str,x ≠ "__name__" → mb x=bootBuiltins x) (hlim:s₁.heap.NoLimit) (hg:s₁.gens=#[])
  (ha:s₁.heap.get? a=some { cls:=.type "list",data:=.seq vs.toArray }) (hi:IntsAre vs ns) (hl:ns.length≤sizeLine) (hr:bg k callerA)
  (F:∀ base:Heap,K.In base→base.Ns mainGlobals mg→aK P w K mg base CX k fa fd [x] sp) (hbind:∀ (s:Shared) (u:Value),BindsTo s fd ⟨[u],[]⟩ [(x,u)])
  (hsp:∀ H:Hp,sZ H→SqL K H a (ns.map V.int)→sp [.ref a] H (fun v _=>v=.bl true) fun _ _ _=>False)
  (hCX:∀ H e s',CX [] H s₁ (fun _ _ _=>False) e s'→False) :
  codeAny (model P w) callerA (.call (.ref fa) ⟨[.ref a],[]⟩) (fun r s'=>r=.ok (.ret (.bool true))∧OldK s₁.heap s'.heap∧s'.os=s₁.os∧AllBare s'.gens) s₁:=by
 have rv:=kN hi;have lenV:=hi.length;have core:∀ H:Hp,sZ H→SqL K H a (ns.map V.int)→HOk P w H s₁.heap→(∀ b,H b≠none→b=a)→(H a≠none→K.lookup a=none) →
   codeAny (model P w) callerA (.call (.ref fa) ⟨[.ref a],[]⟩) (fun r s'=>r=.ok (.ret (.bool true))∧OldK s₁.heap s'.heap∧s'.os=s₁.os∧AllBare s'.gens) s₁:=by
  intro H hO hS hok hA hK;have base_of:∀ {b:Addr} {o:Obj},s₁.heap.get? b=some o→H b=none→(gq s₁.heap H).get? b=some o:=fun e n=>tF e n;have noA:∀ {b:Addr} {o:Obj} {es:Array DictEntry} {ep:Nat},s₁.heap.get? b=some o→o.data=.dict es ep→H b=none:=fun {b o es ep} e d=>by
   cases q:H b with
   | none=>rfl
   | some u =>
    have e':b=a:=hA b (by rw [q];simp)
    subst e';rw [ha] at e;cases e;have d':Data.seq vs.toArray _=Data.dict es ep:=d;cases d'
  have nsK:∀ {b:Addr} {m:Str→Option Value},s₁.heap.Ns b m→(gq s₁.heap H).Ns b m:=fun {b m} ⟨o,es,ep,e,d,r⟩=>⟨o,es,ep,base_of e (noA e d),d,r⟩;have hKb:K.In (gq s₁.heap H):=fun b o e=>base_of (KX b o e) (by
   cases q:H b with
   | none=>rfl
   | some u =>
    have e':b=a:=hA b (by rw [q];simp)
    subst e';rw [hK (by rw [q];simp)] at e;cases e)
  have hM:Mod K mg (gq s₁.heap H):=⟨hKb,nsK hns,⟨mb,nsK hb,hbb⟩,let ⟨mc,h1,h2⟩:=hlim;⟨mc,nsK h1,h2⟩⟩;have e0:fk P w K mg (gq s₁.heap H) callerA [] s₁ H:=⟨rfl,hM,fun b o e=>vt e,Nat.le_of_eq (rZ _ _),trivial,fun b hb=>absurd (show b∈([]:List Addr) from hb) (by simp),hok,.of_eq hg⟩
  refine codeAny_mono ((F _ hKb (nsK hns)).run callerA [] s₁ H ⟨[.ref a],[]⟩ [.ref a] [.ref a] _ _ hr e0 (hbind s₁ (.ref a)) (.cons rfl .nil) (hsp H hO hS)) fun r s' h=>?_;cases r with
  | error e=>exact (hCX H e s' h).elim
  | ok fl =>
   cases fl with
   | next=>exact False.elim h
   | brk=>exact False.elim h
   | cont=>exact False.elim h
   | ret u =>
    obtain ⟨v,H',os,bare,un,hok',r',q⟩:=h;have q':v=.bl true:=q;subst q';obtain rfl:u=Value.bool true:=r';refine ⟨rfl,OldK.of_keep fun b o e=>?_,os,bare⟩;cases q:H b with
    | none=>exact un.keep b o e q (by intro z;exact absurd (show b∈([]:List Addr) from z) (by simp)) (by simp)
    | some u =>
     rcases hO b with z|⟨ob,xs,z⟩
     ·rw [q] at z;cases z
     ·have z2:=un.dF b ob _ z;obtain ⟨e1,_⟩:=hok b _ z;obtain ⟨e2,_⟩:=hok' b _ z2;rw [e] at e1;cases e1;exact e2
 cases hk:K.lookup a with
 | some o =>
  have e:=KX a o hk;rw [ha] at e;cases e;refine core (fun _=>none) (fun _=>.inl rfl) (.inr ⟨_,vs.toArray,_,hk,rfl,rfl,rfl,by rw [List.size_toArray,lenV];exact hl,by simpa using rv⟩) (fun b u z=>by have z':(none:Option HO)=some u:=z;cases z') (fun b z=>absurd rfl z) fun z=>absurd rfl z
 | none =>
  refine core (fun b=>if b=a then some (.frz { cls:=.type "list",data:=.seq vs.toArray } (.lst (ns.map V.int))) else none) (fun b=>?_) (.inl (.inr ⟨{ cls:=.type "list",data:=.seq vs.toArray },if_pos rfl⟩)) (fun b u z=>?_) (fun b z=>?_) fun _=>hk
  ·by_cases hb:b=a
   ·exact .inr ⟨_,_,if_pos hb⟩
   ·exact .inl (if_neg hb)
  ·by_cases hb:b=a
   ·have z':=(if_pos hb).symm.trans z;cases z';subst hb;exact ⟨ha,by rw [List.length_map];exact hl,vs,_,rv,ha⟩
   ·have z':=(if_neg hb).symm.trans z;cases z'
  ·by_cases hb:b=a
   ·exact hb
   ·exact absurd (if_neg hb) z
end L2
namespace L2
open PySem PySem.Spec PyProof.Rows
theorem vo {l:PySem.W.OpenLaw} {n k:Nat} {q:Program} {loose:List Str} {XP:(Str→Option Value)→Heap→Prop} {YP:World→Heap→Prop} {d:DefRec} {K:Params→PySem.W.Frag} {CX:World→CXT} {sp:World→Sp} {x:Str}
  (hn:l.most=some n) (hn2:n≤sizeLine) (hdf:d.params.defaults=[]) (hr:bg k callerA)
  (hY:∀ (w:World) (h:Heap),YP w h→(K w.params).In h)
  (F:∀ (w:World) (mg:Str→Option Value) (fa:Addr) (h:Heap),(K w.params).In h→h.Ns mainGlobals mg→mg d.name=some (.ref fa) →
   ∃ fd:FuncData,(∀ (s:Shared) (u:Value),BindsTo s fd ⟨[u],[]⟩ [(x,u)]) ∧
    ∀ base:Heap,(K w.params).In base→base.Ns mainGlobals mg→aK l.prog w (K w.params) mg base (CX w) k fa fd [x] (sp w))
  (hsp:∀ (w:World) (H:Hp) (a:Addr) (ns:List Int),ns.length≤n→sZ H→SqL (K w.params) H a (ns.map V.int)→sp w [.ref a] H (fun v _=>v=.bl true) fun _ _ _=>False)
  (hCX:∀ (w:World) (H:Hp) (s:Shared) (e:Value) (s':Shared),CX w [] H s (fun _ _ _=>False) e s'→False) :
  PySem.W.WalkO q loose XP YP l.row.toRowW d [] (fun f vs=>PySem.call f vs):=by
 refine Att.nN hn hdf fun w s₀ s₁ mg mb fa o pm cd doc a vs ns G Y ho hd hcd hmg hobj hints hlen hg=>?_;have KX:=hY w _ Y;obtain ⟨fd,hb,hF⟩:=F w mg fa _ KX G.T.g hmg;exact tM KX G.T.g G.T.b G.T.builtins G.T.nolimit hg hobj hints (Nat.le_trans hlen hn2) hr hF hb (fun H hO hS=>hsp w H a ns hlen hO hS) fun H e s'=>hCX w H s₁ e s'
end L2
namespace L2
open PySem PySem.Spec PyProof.Rows
def inClass (s:Stmt) (j:Nat):Stmt:=match s with
 | .ClassDef _ _ _ body _ _ _ _ _ _ _=>body.getD j (.Pass ⟨0,0,0,0⟩)
 | _=>.Pass ⟨0,0,0,0⟩
def bu (s:Stmt):Arguments:=match s with
 | .FunctionDef _ a _ _ _ _ _ _ _ _=>a
 | _=>{ posonlyargs:=[],args:=[],vararg:=none,kwonlyargs:=[],kw_defaults:=[],kwarg:=none,defaults:=[] }
def a9 (s:Stmt):List Stmt:=match s with
 | .FunctionDef _ _ b _ _ _ _ _ _ _=>b
 | _=>[]
def aj (s:Stmt):Scope:=match s with
 | .FunctionDef _ _ _ _ _ _ sc _ _ _=>sc
 | _=>{ kind:=.function,names:=[],isGenerator:=false,isCoroutine:=false }
abbrev CX0:CXT:=fun _ _ _ _ _ _=>False
abbrev E0:XK:=fun _ _ _=>False
theorem jN {X:Cx}:Passes CX0 X E0:=fun _ _ _ _ _ _ _ h=>h.elim
structure Fun (K:PySem.W.Frag) (x qual:Str) (st:Stmt) (f:Addr) (fd:FuncData):Prop where
 ex:∃ (oc:Value) (od:Option Addr) (kV doc pm:Value) (an:Option Addr) (cdv ct:Value) (osl:Array (Option Value)),
  fd=PySem.W.fnOf x qual (bu st) (a9 st) (aj st) .none kV doc pm an cdv ct∧K.lookup f=some ⟨oc,od,.func fd,osl⟩∧PySem.W.codeIn K cdv qual=true
 kp:PySem.W.keepIn K (.ref f)=true
section
variable {P:Program} {w:World} {K:PySem.W.Frag} {mg:Str→Option Value} {base:Heap}
theorem Fun.ok {x qual:Str} {st:Stmt} {f:Addr} {fd:FuncData} {N ps:List Str} {k:Nat} {sp:Sp} (F:Fun K x qual st f fd) (S:aH N ps (aj st)) (len:∀ vs H Q E,sp vs H Q E→vs.length=ps.length)
  (hbody:∀ (cdv:Value) (A:Around) (outer:List Env) (s:Shared) (H:Hp) (vs:List V) (Q:VK) (E:XK),bg k (A.deeper (envOfC qual (aj st) s.heap.objs.size f cdv))→sp vs H Q E →
   ∃ t,PSs (gb CX0 P w K mg base N qual (aj st) f cdv A outer s H E).nox (a9 st) t∧t { nx:=fun _ H'=>Q .non H',rt:=Q } (start N vs) H):aK P w K mg base CX0 (k+1) f fd ps sp:=by
 obtain ⟨oc,od,kV,doc,pm,an,cdv,ct,osl,rfl,lk,hcd⟩:=F.ex;refine uz lk hcd S len fun A outer s H vs Q E hr hsp=>?_;obtain ⟨t,h,q⟩:=hbody cdv A outer s H vs Q E hr hsp;exact ⟨t,h.nox,q⟩
theorem Fun.binds {x qual:Str} {st:Stmt} {f:Addr} {fd:FuncData} {ps:List Str} (F:Fun K x qual st f fd)
  (h:∀ (kV doc pm:Value) (an:Option Addr) (cdv ct:Value) (us:List Value),us.length=ps.length→bindArgs (PySem.W.fnOf x qual (bu st) (a9 st) (aj st) .none kV doc pm an cdv ct) ⟨us,[]⟩=pure (ps.zip us)):Binds K fd ps []:=by
 obtain ⟨oc,od,kV,doc,pm,an,cdv,ct,osl,rfl,lk,hcd⟩:=F.ex;exact .all (h kV doc pm an cdv ct)
theorem gY {x qual:Str} {st:Stmt} {f:Addr} {oc:Value} {od an:Option Addr} {osl:Array (Option Value)} {kV doc pm cdv ct:Value} (l:K.lookup f=some ⟨oc,od,.func (PySem.W.fnOf x qual (bu st) (a9 st) (aj st) .none kV doc pm an cdv ct),osl⟩)
  (c:PySem.W.codeIn K cdv qual=true) (k:PySem.W.keepIn K (.ref f)=true):Fun K x qual st f (PySem.W.fnOf x qual (bu st) (a9 st) (aj st) .none kV doc pm an cdv ct):=⟨⟨oc,od,kV,doc,pm,an,cdv,ct,osl,rfl,l,c⟩,k⟩
end
theorem um {A:Around} {k:Nat} (hr:bg k A):A.units+1<cLine:=Nat.lt_of_le_of_lt (Nat.add_le_add_left (by decide:1≤64) _) hr.units
theorem qS {n:Nat} (h:n≤1000):n<sizeLine:=Nat.lt_of_le_of_lt h (by decide)
section
variable {X:Cx}
theorem pv (i:Nat) {x:Str} {pos:Pos} (hN:X.N[i]?=some x:=by rfl) (hv:Vis X.env.scope x:=by first|exact Or.inl rfl|exact Or.inr (Or.inl rfl)|exact Or.inr (Or.inr rfl)) (hd:(x == ("__debug__" : Str))=false:=by decide)
  (hcd:(x == ("__classdict__" : Str))=false:=by decide):PE X (.Name x pos) (sI i):=w5 hN hv hd hcd
end
theorem gP {A B:Prop} (h:B):if false=true then A else B:=by
 rw [if_neg Bool.false_ne_true];exact h
theorem nA {A B:Prop} (h:A):if true=true then A else B:=by
 rw [if_pos rfl];exact h
def ar (H H':Hp):Prop:=∀ b o,H b=some o→H' b=some o
theorem ar.refl (H:Hp):ar H H:=fun _ _ h=>h
theorem ar.trans {H H1 H2:Hp} (a:ar H H1) (b:ar H1 H2):ar H H2:=fun c o h=>b c o (a c o h)
theorem ar.free {H H':Hp} (e:ar H H') {l:Addr} (h:H' l=Option.none):H l=Option.none:=by
 cases q:H l with
 | none=>rfl
 | some o =>
  rw [e l o q] at h;cases h
theorem ar.seq {K:PySem.W.Frag} {H H':Hp} {a:Addr} {xs:List V} (e:ar H H') (h:SqL K H a xs):SqL K H' a xs:=by
 rcases h with (h|⟨o,h⟩)|h
 ·exact .inl (.inl (e _ _ h))
 ·exact .inl (.inr ⟨o,e _ _ h⟩)
 ·exact .inr h
end L2
namespace L2
open PySem PySem.Spec PyProof.Rows
def dj (env:Env):List (Str×NameKind)→List (Str×Addr)→List (Str×Addr)
 | [],acc=>acc
 | (n,k) :: r,acc=>dj env r (if k == .free then (n,(env.cells.lookup n).getD 0) :: acc else acc)
theorem m4 (env:Env):∀ (l:List (Str×NameKind)) (acc:List (Str×Addr)),(∀ x∈l,x.2=.free→∃ c,env.cells.lookup x.1=some c) →
  (forIn l acc (fun x r=>if (x.snd == NameKind.free)=true then (do let c ← cellOf env x.fst;pure (ForInStep.yield ((x.fst,c) :: r))) else pure (ForInStep.yield r)):Sem (List (Str×Addr)))=pure (dj env l acc)
 | [],acc,_=>rfl
 | (n,k) :: r,acc,h=>by
  rw [List.forIn_cons];have ih:=m4 env r;unfold dj
  by_cases hk:(k == NameKind.free)=true
  ·obtain ⟨c,hc⟩:=h (n,k) List.mem_cons_self (by simpa using hk)
   have e:cellOf env n=pure c:=by unfold cellOf;rw [hc]
   have hc':env.cells.lookup n=some c:=hc;dsimp only;rw [if_pos hk,if_pos hk,e,hc'];exact ih _ fun x hx=>h x (List.mem_cons_of_mem _ hx)
  ·dsimp only;rw [if_neg hk,if_neg hk];exact ih _ fun x hx=>h x (List.mem_cons_of_mem _ hx)
theorem ou {scope:Scope} {env:Env} (h:∀ x∈scope.names,x.2=.free→∃ c,env.cells.lookup x.1=some c):closureFor scope env=pure (dj env scope.names []):=by
 simp only [closureFor];rw [m4 env scope.names [] h];rfl
theorem mS {env:Env}:∀ (l:List (Str×NameKind)) (acc:List (Str×Addr)),(∀ x∈l,x.2=.free→∃ c,env.cells.lookup x.1=some c)→(∀ x c,acc.lookup x=some c→env.cells.lookup x=some c) →
  ∀ x c,(dj env l acc).lookup x=some c→env.cells.lookup x=some c
 | [],acc,_,ha=>ha
 | (n,k) :: r,acc,h,ha=>by
  unfold dj;refine mS r _ (fun x hx=>h x (List.mem_cons_of_mem _ hx)) fun x c e=>?_
  by_cases hk:(k == NameKind.free)=true
  ·rw [if_pos hk] at e;obtain ⟨c',hc⟩:=h (n,k) List.mem_cons_self (by simpa using hk)
   have hc':env.cells.lookup n=some c':=hc;rw [List.lookup_cons] at e
   split at e
   ·rename_i q
    have q':x=n:=by simpa using q
    subst q';rw [hc'] at e ⊢
    simpa using e
   ·exact ha x c e
  ·rw [if_neg hk] at e;exact ha x c e
theorem lr {env:Env}:∀ (l:List (Str×NameKind)) (acc:List (Str×Addr)) (x:Str),(∃ c,acc.lookup x=some c)→∃ c,(dj env l acc).lookup x=some c
 | [],_,_,h=>h
 | (n,k) :: r,acc,x,h=>by
  unfold dj;refine lr r _ x ?_
  by_cases hk:(k == NameKind.free)=true
  ·rw [if_pos hk,List.lookup_cons]
   split
   ·exact ⟨_,rfl⟩
   ·exact h
  ·rw [if_neg hk];exact h
theorem iQ {env:Env}:∀ (l:List (Str×NameKind)) (acc:List (Str×Addr)) (x:Str),(x,NameKind.free)∈l→∃ c,(dj env l acc).lookup x=some c
 | (n,k) :: r,acc,x,h=>by
  unfold dj;rcases List.mem_cons.mp h with e|h
  ·cases e;refine lr r _ _ ?_;rw [if_pos (by rfl),List.lookup_cons]
   simp
  ·exact iQ r _ x h
theorem gF {env:Env}:∀ {names:List (Str×NameKind)} {x:Str},names.lookup x=some .free →
  (names.map fun (n,k)=>if (k == NameKind.free && env.scope.kind == .function && env.kindOf n == some .cell) then (n,NameKind.cell) else (n,k)).lookup x=some .cell ∨
  (names.map fun (n,k)=>if (k == NameKind.free && env.scope.kind == .function && env.kindOf n == some .cell) then (n,NameKind.cell) else (n,k)).lookup x=some .free
 | [],_,h=>by simp at h
 | (n,k) :: r,x,h=>by
  rw [List.map_cons]
  by_cases hx:(x == n)=true
  ·rw [List.lookup_cons,hx] at h;dsimp only at h ⊢;cases h
   split
   ·rw [List.lookup_cons,hx];exact .inl rfl
   ·rw [List.lookup_cons,hx];exact .inr rfl
  ·have hx':(x == n)=false:=by simpa using hx
   rw [List.lookup_cons,hx'] at h;have ih:=gF (env:=env) (names:=r) (x:=x) h;dsimp only at h ⊢
   split
   ·rw [List.lookup_cons,hx'];exact ih
   ·rw [List.lookup_cons,hx'];exact ih
theorem gD {env:Env}:∀ {names:List (Str×NameKind)} {x:Str},
  ((names.map fun (n,k)=>if (k == NameKind.free && env.scope.kind == .function && env.kindOf n == some .cell) then (n,NameKind.cell) else (n,k)).lookup x=some .cell ∨
  (names.map fun (n,k)=>if (k == NameKind.free && env.scope.kind == .function && env.kindOf n == some .cell) then (n,NameKind.cell) else (n,k)).lookup x=some .free) →
  (x,NameKind.free)∈names∨(x,NameKind.cell)∈names
 | [],_,h=>by simp at h
 | (n,k) :: r,x,h=>by
  rw [List.map_cons] at h
  by_cases hx:(x == n)=true
  ·have q':x=n:=by simpa using hx
   dsimp only at h
   split at h
   ·rename_i hc
    have:k=NameKind.free:=by
     cases k <;> simp_all
    subst this q';exact .inl List.mem_cons_self
   ·rw [List.lookup_cons,hx] at h;dsimp only at h;subst q';rcases h with h|h
    ·cases h;exact .inr List.mem_cons_self
    ·cases h;exact .inl List.mem_cons_self
  ·have hx':(x == n)=false:=by simpa using hx
   have ih:=gD (env:=env) (names:=r) (x:=x);dsimp only at h
   split at h
   ·rw [List.lookup_cons,hx'] at h;exact (ih h).elim (fun z=>.inl (List.mem_cons_of_mem _ z)) fun z=>.inr (List.mem_cons_of_mem _ z)
   ·rw [List.lookup_cons,hx'] at h;exact (ih h).elim (fun z=>.inl (List.mem_cons_of_mem _ z)) fun z=>.inr (List.mem_cons_of_mem _ z)
def gi (own:List Str) (fr:List Nat) (N:List Str):List Str:=own++fr.map fun i=>(N[i]?).getD ("" : Str)
def bI (own:List Str) (fr:List Nat) (σ:St):St:=own.map (fun _=>none)++fr.map fun i=>(σ[i]?).join
def bz (X:Cx) (scope:Scope) (own:List Str) (fr:List Nat) (C:Addr) (s₂:Shared) (H₂:Hp) (fp:List Addr):Cx :=
 { X with N:=gi own fr X.N,s₀:=s₂,H₀:=H₂,env:=compEnvC scope (dj X.env scope.names []) C X.env,outer:=X.stack,ex:=fp,fn:=fun _=>false,pn:=[],xe:=fun _ _=>False }
structure bV (sc:Scope) (N:List Str) (scope:Scope) (own:List Str) (fr:List Nat):Prop where
 kind:scope.kind=.function
 rQ:∀ y∈scope.names,y.2≠.cell
 names:∀ y∈scope.names,y.2=.local→scope.names.lookup y.1=some .local
 free:∀ y∈scope.names,y.2=.free→sc.names.lookup y.1=some .cell∨sc.names.lookup y.1=some .free
 fr0:∀ i∈fr,(N[i]?.bind fun x=>scope.names.lookup x)=some .free
 nd:(gi own fr N).Nodup
theorem bV.fr {sc:Scope} {N:List Str} {scope:Scope} {own:List Str} {fr:List Nat} (S:bV sc N scope own fr):∀ i∈fr,∃ x,N[i]?=some x∧scope.names.lookup x=some .free:=fun i hi=>by
 have q:=S.fr0 i hi;cases e:N[i]? with
 | none=>rw [e] at q;cases q
 | some x=>rw [e] at q;exact ⟨x,rfl,q⟩
section
variable {X:Cx} {scope:Scope} {own:List Str} {fr:List Nat} {pins:List (Addr×Obj)} {σ:St} {H₂:Hp} {s₂:Shared} {fp:List Addr} {C D:Addr} {h₁:Heap} {m:Str→Option Value} {tk:Nat}
theorem bV.cells (S:bV X.env.scope X.N scope own fr) (ok:X.Ok):∀ x∈scope.names,x.2=.free→∃ c,X.env.cells.lookup x.1=some c:=fun x hx hf=>ok.has x.1 (S.free x hx hf)
theorem qp {i:Nat} {v:V} (h:(bI own fr σ)[i]?=some (some v)):∃ j,own.length≤i∧fr[i - own.length]?=some j∧σ[j]?=some (some v):=by
 unfold bI at h
 by_cases hi:i<own.length
 ·rw [List.getElem?_append_left (by simpa using hi),List.getElem?_map] at h
  cases e:own[i]? with
  | none=>rw [e] at h;cases h
  | some a=>rw [e] at h;cases h
 ·rw [List.getElem?_append_right (by simpa using hi),List.getElem?_map,List.length_map] at h
  cases e:fr[i - own.length]? with
  | none=>rw [e] at h;cases h
  | some j =>
   rw [e] at h;refine ⟨j,by omega,rfl,?_⟩
   have h':(σ[j]?).join=some v:=by simpa using h
   cases q:σ[j]? with
   | none=>rw [q] at h';cases h'
   | some o=>rw [q] at h';exact congrArg some h'
theorem sX (S:bV X.env.scope X.N scope own fr) (I:Inv X pins σ H₂ s₂) (f2:∀ b∈fp,eQ X pins H₂ b) (fo:∀ b∈fp,b<s₂.heap.objs.size)
  (hC:s₂.heap.objs.size≤C) (hD:s₂.heap.objs.size≤D) (hDC:D≠C) (old:∀ b o,s₂.heap.get? b=some o→h₁.get? b=some o) (hns:h₁.Ns C m) (new:∃ n,h₁.get? D=some { cls:=.type "list",data:=.seq #[] n }) :
  Inv (bz X scope own fr C s₂ H₂ fp) [] (bI own fr σ) (upd H₂ D (.lst [])) { s₂ with heap:=h₁,toks:=tk }:=by
 have hk:=S.cells I.ok;have sub:=mS (env:=X.env) scope.names [] hk (fun x c e=>by cases e)
 have fl:∀ x c,(dj X.env scope.names []).lookup x=some c→∃ v,s₂.heap.IsCell c v:=fun x c e=>I.cell x c (sub x c e);have okX:(bz X scope own fr C s₂ H₂ fp).Ok:=by
  refine ⟨I.ok.mod,S.kind,I.ok.glob,I.ok.blt,hC,fun x y c e1 e2=>I.ok.inj x y c (sub x c e1) (sub y c e2),fun x hx=>?_,fun x c hf=>absurd hf (by intro z;cases z),I.ok.hd,I.ok.frames,.inl rfl,fun b hb=>⟨?_,fun x c e z=>?_⟩,
   I.bs,Nat.le_trans I.ok.bsz I.sz,fun b o e hb=>?_,fun b hb=>?_,I.stack,I.oC⟩
  ·rcases gD hx with z|z
   ·exact iQ _ _ _ z
   ·exact absurd rfl (S.rQ _ z)
  ·exact Nat.ne_of_lt (Nat.lt_of_lt_of_le (fo b hb) hC)
  ·exact (f2 b hb).2.2.2.2.1 x c (sub x c e) z
  ·obtain ⟨_,_,_,f3,_⟩:=f2 b hb;rcases f3 with z|z
   ·exact I.ok.mK b o e z
   ·exact absurd (Nat.lt_of_lt_of_le (Heap.lt_size (I.ok.bs b o e).1) z) (Nat.lt_irrefl _)
  ·obtain ⟨_,f1,f2',_⟩:=f2 b hb;intro z;rcases List.mem_cons.mp (I.mU b z) with q|q
   ·exact f1 q
   ·exact f2' q
 have frH:∀ a,s₂.heap.objs.size≤a→H₂ a=none:=fun a h=>I.hok.fresh h;refine ⟨okX,rfl,I.bare,Un.laid old hD (frH D hD),⟨m,hns,fun i x v e1 e2 e3=>?_⟩,fun x c e=>?_,?_,fun x c e=>?_,fun p hp=>absurd (show p∈([]:List (Addr×Obj)) from hp) (by simp),I.hok.laid old hD ?_,?_⟩
 ·obtain ⟨j,hi,hj,hv⟩:=qp e2;have hx:X.N[j]?=some x:=by
   obtain ⟨y,hy,_⟩:=S.fr j (List.mem_of_getElem? hj);have e1':(gi own fr X.N)[i]?=some x:=e1;unfold gi at e1';rw [List.getElem?_append_right hi,List.getElem?_map,hj] at e1';have e1'':(X.N[j]?).getD ("" : Str)=x:=by simpa using e1'
   rw [hy] at e1'' ⊢;exact congrArg some e1''
  obtain ⟨y,hy,hfree⟩:=S.fr j (List.mem_of_getElem? hj);rw [hx] at hy;cases hy;have hkind:X.env.kindOf x=some .cell∨X.env.kindOf x=some .free:=S.free _ (PySem.mem_of_lookup hfree) rfl;obtain ⟨mo,hno,hlo⟩:=I.loc;obtain ⟨u,r,l⟩:=hlo j x v hx hv (hkind.elim (fun z=>.inr (.inl z)) fun z=>.inr (.inr z));refine ⟨u,r,.inr ⟨gF hfree,?_⟩⟩;obtain ⟨c,hc⟩:=iQ (env:=X.env) scope.names [] x (PySem.mem_of_lookup hfree);refine ⟨c,hc,?_⟩;have hc':=sub x c hc;rcases l with ⟨k,_⟩|⟨_,c',e,o,z1,z2⟩
  ·rcases hkind with z|z
   ·rw [k] at z;cases z
   ·rw [k] at z;cases z
  ·rw [hc'] at e;cases e;exact ⟨o,old _ _ z1,z2⟩
 ·obtain ⟨v,o,z1,z2⟩:=fl x c e;exact ⟨v,o,old _ _ z1,z2⟩
 ·show (upd H₂ D (.lst [])) C=none;rw [ag (Ne.symm hDC)];exact frH C hC
 ·obtain ⟨v,o,z1,z2⟩:=fl x c e;rw [ag (Nat.ne_of_lt (Nat.lt_of_lt_of_le (Heap.lt_size z1) hD))];exact I.dw x c (sub x c e)
 ·obtain ⟨n,e⟩:=new;exact ⟨Nat.zero_le _,[],n,.nil,e⟩
 ·show (bI own fr σ).length=(gi own fr X.N).length;simp [bI,gi]
end
def PIf (X:Cx) (ifs:List Expr) (t:TT):Prop :=
 ∀ (pins:List (Addr×Obj)) (s:Shared) (σ:St) (H:Hp) (Q:Bool→Hp→Prop),Inv X pins σ H s→t σ H Q →
  wpAny (model X.prog X.w) X.A (forIn ifs true fun c r=>if r=true then (do let ok ← isTrue c X.env (eval c X.env);pure (ForInStep.yield ok)) else pure (ForInStep.yield r)) (TP X pins σ Q) X.xe s
def tS:TT:=fun _ H Q=>Q true H
theorem ic {X:Cx}:PIf X [] tS:=fun _ _ _ H _ I h=>wpAny_tests_nil ⟨H,I,h⟩
theorem ve {X:Cx} {c:Expr} {t:TT} (h:PT X c t):PIf X [c] t:=fun pins s σ H Q I hw=>wpAny_tests_one (h pins s σ H Q I hw)
section
variable {prog:Program} {w:World} {A:Around} {R:Result→Shared→Prop} {s:Shared}
theorem rk {elt target iter:Expr} {ifs:List Expr} {scope:Scope} {pos:Pos} {it acc:Value} {env:Env} (J:Nat→Shared→Prop)
  (turn:∀ n s,J n s→wpAny (model prog w) A (pyNext it) (fun r s₁=>match r with
   | none=>R (.ok .next) s₁
   | some v=>wpAny (model prog w) A (letOwnedTupleGo target it v) (fun _ s₂=>wpAny (model prog w) A (assign target env v) (fun _ s₃ =>
     wpAny (model prog w) A (forIn ifs true fun c r=>if r=true then (do let ok ← isTrue c env (eval c env);pure (ForInStep.yield ok)) else pure (ForInStep.yield r)) (fun ok s₄ =>
      if ok=true then wpAny (model prog w) A (eval elt env) (fun x s₅=>wpAny (model prog w) A (call (.builtin "list.append") [acc,x]) (fun _ s₆=>∃ m,m<n∧J m s₆) (fun _ _=>False) s₅) (fun _ _=>False) s₄
      else ∃ m,m<n∧J m s₄) (fun _ _=>False) s₃) (fun _ _=>False) s₂) (fun _ _=>False) s₁) (fun _ _=>False) s)
  (n:Nat) (h:J n s):codeAny (model prog w) A (.compLoop (.ListComp elt [⟨target,iter,ifs,0⟩] scope pos) 0 it acc env) R s:=by
 refine codeAny_loop rfl J (fun n s hJ=>?_) n h;show wpAny _ A ((compTurn (.ListComp elt [⟨target,iter,ifs,0⟩] scope pos) 0 it acc env).onRaise (fun x=>(do noteFrame x env;theTreesLotGoes x))) _ _ s;have nf:∀ {x:Value} {s':Shared},False→notedBy (model prog w) A env (fun e s'=>R (.error e) s') x s':=fun z=>z.elim;refine wpAny_noted ?_;rw [compTurn_list];refine wpAny_bind (wpAny_standAt (wpAny_bind (wpAny_mono (turn n s hJ) (fun r s₁ h₁=>?_) fun _ _ z=>nf z)));cases r with
 | none=>exact wpAny_pure h₁
 | some v =>
  refine wpAny_bind (wpAny_mono h₁ (fun _ s₂ h₂=>?_) fun _ _ z=>nf z);refine wpAny_bind (wpAny_mono h₂ (fun _ s₃ h₃=>?_) fun _ _ z=>nf z);refine wpAny_bind (wpAny_mono h₃ (fun ok s₄ h₄=>?_) fun _ _ z=>nf z);cases ok with
  | false=>exact wpAny_pure ⟨rfl,h₄⟩
  | true =>
   refine wpAny_bind (wpAny_bind (wpAny_mono h₄ (fun x s₅ h₅=>?_) fun _ _ z=>nf z));exact wpAny_bind (wpAny_mono h₅ (fun _ s₆ h₆=>wpAny_pure (wpAny_pure ⟨rfl,h₆⟩)) fun _ _ z=>nf z)
end
def mh (own:List Str) (fr:List Nat) (wi:TI) (g:TG) (tt:TT) (te:TE):TE:=fun σ H Q=>wi σ H fun J H1=>∀ D,H1 D=none →
 ∃ W:Nat→Nat→St→Hp→Prop,(∃ m,W 0 m (bI own fr σ) (upd H1 D (.lst [])))∧∀ i m σ' H',W i m σ' H' →
  (J.stop i H'∧Q (.ref D) H')∨(J.go i H'∧∀ x H2,J.yld i H' x H2→g x σ' H2 fun σ2 H3=>tt σ2 H3 fun ok H4 =>
   if ok=true then te σ2 H4 fun y H5=>∃ ys,H5 D=some (.lst ys)∧ys.length<sizeLine∧∃ m',m' < m∧W (i+1) m' σ2 (upd H5 D (.lst (ys++[y]))) else ∃ m',m' < m∧W (i+1) m' σ2 H4)
section
variable {X:Cx} {elt tg iter:Expr} {ifs:List Expr} {scope:Scope} {pos:Pos} {own:List Str} {fr:List Nat} {wi:TI} {g:TG} {tt:TT} {te:TE}
theorem k0 {pins:List (Addr×Obj)} {s:Shared} {σ:St} {H:Hp} {Q:VK} {RR:Value→Addr→Result→Shared→Prop} (hc:X.calm=true) (S:bV X.env.scope X.N scope own fr) (hi:PI X tg iter wi)
  (hb:∀ C s₂ H₂ fp,PG (bz X scope own fr C s₂ H₂ fp) tg g∧PIf (bz X scope own fr C s₂ H₂ fp) ifs tt∧PE (bz X scope own fr C s₂ H₂ fp) elt te)
  (I:Inv X pins σ H s) (h:mh own fr wi g tt te σ H Q)
  (hRR:∀ D C s' H' m',Inv X pins σ H' s'→Q (.ref D) H'→eQ X pins H' C→s'.heap.Ns C m'→RR (.ref D) C (.ok .next) s') :
  wpAny (model X.prog X.w) X.A (eval iter X.env) (fun v s₁=>wpAny (model X.prog X.w) X.A (pyIter v) (fun it s₂=>wpAny (model X.prog X.w) X.A (newList []) (fun acc s₃ =>
   wpAny (model X.prog X.w) X.A (newFunctionEnv scope X.env.globals (dj X.env scope.names []) [] X.env.qual none .none (some X.env)) (fun cenv s₄ =>
    codeAny (model X.prog X.w) X.A (.compStart (.ListComp elt [⟨tg,iter,ifs,0⟩] scope pos) 0 it acc { cenv with scope:=relabel scope X.env }) (RR acc cenv.locals) s₄) X.xe s₃) X.xe s₂) X.xe s₁) X.xe s:=by
 refine thn (hi pins s σ H _ I h) fun v s1 h1=>thn h1 fun itv s2 h2=>?_;obtain ⟨it,fp,tn,J,H2,e,I2,T,st2,f2,hq⟩:=h2;subst e;refine wpAny_newObj_type (wpAny_newFunctionEnv S.rQ (by intro y hy;simp at hy) (fun h₁ hns₁ hsb₁=>?_) S.kind)
 dsimp only at hns₁ hsb₁ ⊢;have hD:=I2.hok.fresh (Nat.le_refl s2.heap.objs.size);obtain ⟨W,⟨m0,w0⟩,turn⟩:=hq s2.heap.objs.size hD;generalize hH2:s2.heap.push { cls:=.type "list",dict:=none,data:=.seq ([]:List Value).toArray }=G at hns₁ hsb₁ ⊢;have hG:G.objs.size=s2.heap.objs.size+1:=by rw [← hH2,Heap.size_push]
 have hDC:s2.heap.objs.size≠G.objs.size:=by rw [hG];exact Nat.ne_of_lt (Nat.lt_succ_self _)
 have hC:s2.heap.objs.size≤G.objs.size:=by rw [hG];exact Nat.le_succ _
 have old:∀ b o,s2.heap.get? b=some o→h₁.get? b=some o:=fun b o e =>
  hsb₁.extBut b o (by rw [hG];exact Nat.ne_of_lt (Nat.lt_succ_of_lt (Heap.lt_size e))) (Heap.get?_push_of_some _ (hH2 ▸ Heap.get?_push_of_some _ e))
 have new:h₁.get? s2.heap.objs.size=some { cls:=.type "list",data:=.seq #[] 0 }:=hsb₁.extBut _ _ hDC (Heap.get?_push_of_some _ (hH2 ▸ Heap.get?_push_size _ rfl));have fo:∀ b∈fp,b<s2.heap.objs.size:=fun b hb'=>let ⟨o,e,_⟩:=T.obj 0 _ st2 b hb';Heap.lt_size e;have I4:Inv (bz X scope own fr G.objs.size s2 H2 fp) [] (bI own fr σ) (upd H2 s2.heap.objs.size (.lst [])) { s2 with heap:=h₁,toks:=s2.toks+([]:List (Str×Value)).length } :=
  sX S I2 f2 fo hC (Nat.le_refl _) hDC old hns₁ ⟨_,new⟩
 obtain ⟨hg,ht,he⟩:=hb G.objs.size s2 H2 fp;have fpX:∀ {H':Hp},(∀ b∈fp,H' b=none)→∀ b∈fp,eQ (bz X scope own fr G.objs.size s2 H2 fp) [] H' b:=fun {H'} hn b hb'=>by
  refine ⟨hn b hb',Nat.ne_of_lt (Nat.lt_of_lt_of_le (fo b hb') hC),I4.ok.mV b hb',.inl hb',(I4.ok.exf b hb').2,fun p hp=>absurd (show p∈([]:List (Addr×Obj)) from hp) (by simp)⟩
 have fr0:∀ b∈fp,(upd H2 s2.heap.objs.size (.lst [])) b=none:=fun b hb'=>by
  rw [ag (Nat.ne_of_lt (fo b hb'))];exact (f2 b hb').1
 have tn0:tn 0 h₁:=T.keep _ _ _ st2 fun b hb' o e=>old b o e;have loop:codeAny (model X.prog X.w) X.A (.compLoop (.ListComp elt [⟨tg,iter,ifs,0⟩] scope pos) 0 (.ref it) (.ref s2.heap.objs.size) (compEnvC scope (dj X.env scope.names []) G.objs.size X.env))
   (RR (.ref s2.heap.objs.size) G.objs.size) { s2 with heap:=h₁,toks:=s2.toks+([]:List (Str×Value)).length }:=by
  refine rk (fun n s'=>∃ i σ' H',Inv (bz X scope own fr G.objs.size s2 H2 fp) [] σ' H' s'∧tn i s'.heap∧(∀ b∈fp,H' b=none)∧W i n σ' H') ?_ m0 ⟨0,_,_,I4,tn0,fr0,w0⟩;rintro n s3 ⟨i,σ3,H3,I3,st3,fr3,w3⟩;have nfp:∀ {H':Hp} {s':Shared} {σ':St} {pl:List (Addr×Obj)},Inv (bz X scope own fr G.objs.size s2 H2 fp) pl σ' H' s'→pl=fF fp s'.heap→True:=fun _ _=>trivial;rcases turn i n σ3 H3 w3 with ⟨stop,qn⟩|⟨go,step⟩
  ·refine thn (T.done (bz X scope own fr G.objs.size s2 H2 fp) rfl rfl rfl hc i [] s3 σ3 H3 (fun _ _=>False) I3 (fpX fr3) st3 stop) fun r s4 ⟨hr,I5⟩=>?_;subst hr;have IX:Inv X pins σ H3 s4:=I2.Am (ch:=fp) I5.os I5.base I5.hok I5.bare fun b hb'=>let ⟨_,f1,_,f3,f4,f5⟩:=f2 b hb';⟨f3,f1,f4,f5⟩;obtain ⟨m',hn',_⟩:=I5.loc;exact hRR _ _ _ _ m' IX qn (I2.iH hC I5.free) hn'
  ·refine thn (T.item (bz X scope own fr G.objs.size s2 H2 fp) rfl rfl rfl hc i [] s3 σ3 H3 (fun _ _=>False) I3 (fpX fr3) st3 go) fun r s4 ⟨u,hr,h4⟩=>?_;subst hr;refine thn h4 fun _ s5 ⟨x,H5,I5,r5,y5,st5,fr5⟩=>?_;have I5':=I5.pinned (fpX fr5) (T.obj _ _ st5);refine thn (hg _ s5 σ3 H5 x u _ I5' r5 (step x H5 y5)) fun _ s6 ⟨σ6,H6,I6,q6⟩=>?_;have again:∀ {s7:Shared} {σ7:St} {H7:Hp} {m':Nat},Inv (bz X scope own fr G.objs.size s2 H2 fp) ([]++fF fp s5.heap) σ7 H7 s7→m' < n→W (i+1) m' σ7 H7 →
     ∃ m,m<n∧∃ i σ' H',Inv (bz X scope own fr G.objs.size s2 H2 fp) [] σ' H' s7∧tn i s7.heap∧(∀ b∈fp,H' b=none)∧W i m σ' H':=fun {s7 σ7 H7 m'} I7 hm w7=>by
    refine ⟨m',hm,i+1,σ7,H7,I7.gn,T.keep _ _ _ st5 fun b hb' o e=>(I7.pin (b,o) (List.mem_append_right _ (List.mem_append_right _ (el hb' e)))).1,fun b hb'=>?_,w7⟩;obtain ⟨o,e,d⟩:=T.obj _ _ st5 b hb';exact (I7.pin (b,o) (List.mem_append_right _ (List.mem_append_right _ (el hb' e)))).2.1
   refine thn (ht _ s6 σ6 H6 _ I6 q6) fun ok s7 ⟨H7,I7,q7⟩=>?_;cases ok with
   | false =>
    rw [if_neg Bool.false_ne_true] at q7 ⊢;obtain ⟨m',hm,w7⟩:=q7;exact again I7 hm w7
   | true =>
    rw [if_pos rfl] at q7 ⊢;refine thn (he _ s7 σ6 H7 _ I7 q7) fun y s8 ⟨yv,H8,I8,r8,q8⟩=>?_;obtain ⟨ys,hy,hl,m',hm,w8⟩:=q8;refine thn (kW _ s8 σ6 H8 (.ref s2.heap.objs.size) [yv] _ [y] (fun _ H9=>H9=upd H8 s2.heap.objs.size (.lst (ys++[yv]))) I8 rfl (.cons r8 .nil) ⟨_,ys,yv,rfl,rfl,hy,hl,rfl⟩) fun _ s9 ⟨_,H9,I9,_,e9⟩=>?_;subst e9;exact again I9 hm w8
 exact codeAny_compStart_list loop (T.self X.A 0 _ _ _ tn0 loop)
theorem ki (hc:X.calm=true) (S:bV X.env.scope X.N scope own fr) (hi:PI X tg iter wi)
  (hb:∀ C s₂ H₂ fp,PG (bz X scope own fr C s₂ H₂ fp) tg g∧PIf (bz X scope own fr C s₂ H₂ fp) ifs tt∧PE (bz X scope own fr C s₂ H₂ fp) elt te)
  (hs:∀ x,foldedSetIterable iter X.env x=pure x:=by intro _;rfl):PE X (.ListComp elt [⟨tg,iter,ifs,0⟩] scope pos) (mh own fr wi g tt te):=by
 intro pins s σ H Q I h;rw [eval_ListComp];refine wpAny_comprehension_free (use:=none) rfl hs (ou (S.cells I.ok)) S.kind S.names ?_;refine k0 (RR:=fun acc C=>compPost (model X.prog X.w) X.A X.xe none (EP X pins σ Q) acc C) hc S hi hb I h ?_;intro D C s' H' m' I' q f hn;obtain ⟨f0,f1,f2,f3,f4,f5⟩:=f;exact ⟨m',hn,fun h' sb=>⟨.ref D,H',I'.turned (t':=s'.toks) (fun b o hb e=>(sb.2 b hb).trans e) f0 f1 f3 f4 f5,rfl,q⟩⟩
theorem i3 {i:Nat} {y:Str} {py spos:Pos} (hc:X.calm=true) (hN:X.N.Nodup) (hi':X.N[i]?=some y) (hy:Loc X.env.scope y) (S:bV X.env.scope X.N scope own fr) (hi:PI X tg iter wi)
  (hb:∀ C s₂ H₂ fp,PG (bz X scope own fr C s₂ H₂ fp) tg g∧PIf (bz X scope own fr C s₂ H₂ fp) ifs tt∧PE (bz X scope own fr C s₂ H₂ fp) elt te)
  (hsw:swapsWith (.ListComp elt [⟨tg,iter,ifs,0⟩] scope pos) (some (.Name y py)) spos.line X.env=pure true)
  (hs:∀ x,foldedSetIterable iter X.env x=pure x:=by intro _;rfl) (hf:X.fn y=true∨X.env.scope.names.lookup y=some .local:=by first|exact .inl rfl|exact .inr rfl|assumption) :
  PS X (.Assign [.Name y py] (.ListComp elt [⟨tg,iter,ifs,0⟩] scope pos) spos) (qi (mh own fr wi g tt te) (cg i)):=by
 intro pins s σ H D I h;rw [exec_Assign_Name_used _ _ _ _ hsw];refine wpAny_bind (wpAny_standAt (wpAny_bind ?_));show wpAny _ X.A (do let _ ← comprehension (.ListComp elt [⟨tg,iter,ifs,0⟩] scope pos) scope X.env _ (newList []) false (eval iter X.env) (some (assign (.Name y py) X.env))) _ _ s;refine wpAny_bind (wpAny_mono (wpAny_comprehension_free (use:=some (assign (.Name y py) X.env)) (Q:=fun _ s'=>SP X pins D .next s') rfl hs (ou (S.cells I.ok)) S.kind S.names ?_) (fun _ s' hq=>wpAny_pure (wpAny_pure hq)) fun _ _ e=>e);refine k0 (RR:=fun acc C=>compPost (model X.prog X.w) X.A X.xe (some (assign (.Name y py) X.env)) (fun _ s'=>SP X pins D .next s') acc C) hc S hi hb I h ?_;intro D' C s' H' m' I' q f hn;show wpAny _ _ (assign (.Name y py) X.env (.ref D')) _ _ _;refine wpAny_assign_Name (lj I' hN hi' hy (v:=.ref D') rfl (fun s2 I2 ⟨a,sb,ha⟩=>?_) hf);obtain ⟨f0,f1,f2,f3,f4,f5⟩:=f;have hCa:C≠a:=by
  rcases ha with e|e
  ·rw [e];exact f1
  ·exact fun z=>f4 y a e z.symm
 refine ⟨m',hn.sameBut sb hCa,fun h' sb'=>?_⟩;exact ⟨_,H',I2.turned (t':=s2.toks) (fun b o hb e=>(sb'.2 b hb).trans e) f0 f1 f3 f4 f5,q⟩
end
end L2
namespace L2
open PySem PySem.Spec PyProof.Rows
class Rep (α:Type) where
 is:PySem.W.Frag→Hp→V→α→Prop
 mono:∀ {K:PySem.W.Frag} {H H':Hp} {v:V} {a:α},ar H H'→is K H v a→is K H' v a
instance:Rep Int:=⟨fun _ _ v a=>v=.int a,fun _ h=>h⟩
instance:Rep Nat:=⟨fun _ _ v a=>v=.int (a:Int),fun _ h=>h⟩
instance:Rep Bool:=⟨fun _ _ v a=>v=.bl a,fun _ h=>h⟩
theorem Paired.get {α β:Type} {F:α→β→Prop}:∀ {l₁:List α} {l₂:List β} {i:Nat} {b:β},Paired F l₁ l₂→l₂[i]?=some b→∃ a,l₁[i]?=some a∧F a b
 | _,_,_,_,.nil,e=>by simp at e
 | _,_,0,_,.cons r _,e=>by simp at e;subst e;exact ⟨_,rfl,r⟩
 | _,_,i+1,b,.cons _ t,e=>by
  obtain ⟨a,h1,h2⟩:=Paired.get (i:=i) (b:=b) t (by simpa using e)
  exact ⟨a,by simpa using h1,h2⟩
theorem Paired.getL {α β:Type} {F:α→β→Prop}:∀ {l₁:List α} {l₂:List β} {i:Nat} {a:α},Paired F l₁ l₂→l₁[i]?=some a→∃ b,l₂[i]?=some b∧F a b
 | _,_,_,_,.nil,e=>by simp at e
 | _,_,0,_,.cons r _,e=>by simp at e;subst e;exact ⟨_,rfl,r⟩
 | _,_,i+1,b,.cons _ t,e=>by
  obtain ⟨a,h1,h2⟩:=Paired.getL (i:=i) (a:=b) t (by simpa using e)
  exact ⟨a,by simpa using h1,h2⟩
theorem Paired.app {α β:Type} {F:α→β→Prop}:∀ {l₁ l₃:List α} {l₂ l₄:List β},Paired F l₁ l₂→Paired F l₃ l₄→Paired F (l₁++l₃) (l₂++l₄)
 | _,_,_,_,.nil,s=>s
 | _,_,_,_,.cons r t,s=>.cons r (Paired.app t s)
theorem Paired.ux {α β:Type} {F:α→β→Prop}:∀ {l₁:List α} {l₂:List β} (n:Nat),Paired F l₁ l₂→Paired F (l₁.take n) (l₂.take n)
 | _,_,0,_=>.nil
 | _,_,_+1,.nil=>.nil
 | _,_,n+1,.cons r t=>.cons r (Paired.ux n t)
theorem Paired.uo {α β:Type} {F:α→β→Prop}:∀ {l₁:List α} {l₂:List β} (n:Nat),Paired F l₁ l₂→Paired F (l₁.drop n) (l₂.drop n)
 | _,_,0,r=>r
 | _,_,_+1,.nil=>.nil
 | _,_,n+1,.cons _ t=>Paired.uo n t
theorem Paired.of_map {α β γ:Type} {F:α→β→Prop} {f:γ→α} {g:γ→β} (h:∀ c,F (f c) (g c)):∀ l:List γ,Paired F (l.map f) (l.map g)
 | []=>.nil
 | c :: r=>.cons (h c) (Paired.of_map h r)
instance {α:Type} [Rep α]:Rep (List α) :=
 ⟨fun K H v l=>∃ p xs,v=.ref p∧SqL K H p xs∧Paired (Rep.is K H) xs l,fun e ⟨p,xs,h1,h2,h3⟩=>⟨p,xs,h1,e.seq h2,Paired.dq h3 fun _ _ q=>Rep.mono e q⟩⟩
theorem ar.tup {K:PySem.W.Frag} {H H':Hp} {a:Addr} {xs:List V} (e:ar H H') (h:SqT K H a xs):SqT K H' a xs:=by
 rcases h with (h|⟨o,h⟩)|h
 ·exact .inl (.inl (e _ _ h))
 ·exact .inl (.inr ⟨o,e _ _ h⟩)
 ·exact .inr h
instance {α β:Type} [Rep α] [Rep β]:Rep (α×β) :=
 ⟨fun K H v l=>∃ p x y,v=.ref p∧SqT K H p [x,y]∧Rep.is K H x l.1∧Rep.is K H y l.2,fun e ⟨p,x,y,h1,h2,h3,h4⟩=>⟨p,x,y,h1,e.tup h2,Rep.mono e h3,Rep.mono e h4⟩⟩
abbrev At {α:Type} [Rep α] (K:PySem.W.Frag) (H:Hp) (v:V) (a:α):Prop:=Rep.is K H v a
theorem At.item {α:Type} [Rep α] {K:PySem.W.Frag} {H:Hp} {v:V} {l:List α} {i:Nat} {a:α} (h:At K H v l) (e:l[i]?=some a):∃ p xs x,v=.ref p∧SqL K H p xs∧atI xs (i:Int)=some x∧At K H x a:=by
 obtain ⟨p,xs,rfl,hS,hP⟩:=h;obtain ⟨x,hx,r⟩:=Paired.get hP e;exact ⟨p,xs,x,rfl,hS,oQ hx,r⟩
theorem At.len {α:Type} [Rep α] {K:PySem.W.Frag} {H:Hp} {v:V} {l:List α} (h:At K H v l):∃ p xs,v=.ref p∧SqL K H p xs∧xs.length=l.length:=by
 obtain ⟨p,xs,rfl,hS,hP⟩:=h;exact ⟨p,xs,rfl,hS,hP.length⟩
class aS (α:Type) [Rep α] [DecidableEq α] where
 depth:Nat
 inj:∀ {X:Cx} {pins:List (Addr×Obj)} {σ:St} {H:Hp} {s:Shared} {x:V} {a b:α},Inv X pins σ H s→At X.K H x a→At X.K H x b→a=b
 eq:∀ {X:Cx} {pins:List (Addr×Obj)} {σ:St} {H:Hp} {s:Shared} {A:Around} {x y:V} {u v:Value} {a b:α},Inv X pins σ H s→At X.K H x a→At X.K H y b→RelV x u→RelV y v→A.units+depth<cLine →
  SeqAt.EqAt A s u v (decide (a=b))
instance:aS Int where
 depth:=0
 inj:=fun _ h h'=>by cases h;cases h';rfl
 eq:=fun {X pins σ H s A x y u v a b} _ hx hy ru rv _=>by
  cases hx;cases hy;have q:=rC (A:=A) (s:=s) ru rv rfl rfl;have e:eqV (.int a) (.int b)=decide (a=b):=rfl;rw [e] at q;exact q
instance:aS Nat where
 depth:=0
 inj:=fun _ h h'=>by
  have q:=(show _=V.int _ from h).symm.trans (show _=V.int _ from h');injection q with q;exact Int.ofNat.inj q
 eq:=fun {X pins σ H s A x y u v a b} _ hx hy ru rv _=>by
  cases hx;cases hy;have q:=rC (A:=A) (s:=s) ru rv rfl rfl;have e:eqV (.int (a:Int)) (.int (b:Int))=decide (a=b):=by
   show decide ((a:Int)=(b:Int))=decide (a=b);exact decide_eq_decide.mpr Int.ofNat_inj
  rw [e] at q;exact q
theorem sH {A:Around} {n:Nat} (h:A.units+(n+1)<cLine):A.in1.units+n<cLine:=by
 show A.units+1+n<cLine;omega
theorem gf {X:Cx} {pins:List (Addr×Obj)} {σ:St} {H:Hp} {s:Shared} {α:Type} [Rep α] [DecidableEq α] [aS α] (I:Inv X pins σ H s) :
  ∀ {xs:List V} {as bs:List α},Paired (Rep.is X.K H) xs as→Paired (Rep.is X.K H) xs bs→as=bs
 | _,_,_,.nil,.nil=>rfl
 | _,_,_,.cons r t,.cons r' t'=>by rw [aS.inj I r r',gf I t t']
theorem range_all {α:Type} [DecidableEq α]:∀ (as bs:List α),as.length=bs.length→((List.range as.length).all fun j=>decide (as[j]?=bs[j]?))=decide (as=bs):=by
 intro as bs hl;rw [Bool.eq_iff_iff];simp only [List.all_eq_true,List.mem_range,decide_eq_true_eq];constructor
 ·intro h;refine List.ext_getElem? fun i=>?_
  by_cases hi:i<as.length
  ·exact h i hi
  ·rw [List.getElem?_eq_none (by omega),List.getElem?_eq_none (by omega)]
 ·intro h i _;rw [h]
theorem kB {X:Cx} {pins:List (Addr×Obj)} {σ:St} {H:Hp} {s:Shared} {A:Around} {α:Type} [Rep α] [DecidableEq α] [aS α] {p q:Addr} {xs ys:List V} {as bs:List α}
  (I:Inv X pins σ H s) (h1:SqL X.K H p xs) (r1:Paired (Rep.is X.K H) xs as) (h2:SqL X.K H q ys) (r2:Paired (Rep.is X.K H) ys bs) (hu:A.units+(aS.depth α+1)<cLine) (hl:as.length=bs.length) :
  ∃ its its2:List Value,s.heap.IsList p its.toArray∧s.heap.IsList q its2.toArray∧its.toArray.size=its2.toArray.size∧its.toArray.size=as.length ∧
   ∀ j (h1:j<its.toArray.size) (h2:j<its2.toArray.size),SeqAt.EqAt A.in1 s its.toArray[j] its2.toArray[j] (decide (as[j]?=bs[j]?)):=by
 obtain ⟨its,v1,p1,_⟩:=I.list h1;obtain ⟨its2,v2,p2,_⟩:=I.list h2;have e1:=v1.length;have e2:=v2.length;have e3:=r1.length;have e4:=r2.length;refine ⟨its,its2,p1.isList,p2.isList,by simp;omega,by simp;omega,fun j h1 h2=>?_⟩
 have h1':j<its.length:=by simpa using h1
 have h2':j<its2.length:=by simpa using h2
 have hx:j<xs.length:=by omega
 have hy:j<ys.length:=by omega
 obtain ⟨u,hu1,ru⟩:=v1.get (i:=j) (x:=xs[j]) (by simp [hx])
 obtain ⟨v,hv1,rv⟩:=v2.get (i:=j) (x:=ys[j]) (by simp [hy])
 obtain ⟨a,ha,ra⟩:=Paired.getL r1 (i:=j) (a:=xs[j]) (by simp [hx])
 obtain ⟨b,hb,rb⟩:=Paired.getL r2 (i:=j) (a:=ys[j]) (by simp [hy])
 have eu:its.toArray[j]=u:=by
  have:its[j]?=some its[j]:=by simp [h1']
  rw [this] at hu1
  simpa using hu1
 have ev:its2.toArray[j]=v:=by
  have:its2[j]?=some its2[j]:=by simp [h2']
  rw [this] at hv1
  simpa using hv1
 rw [eu,ev,ha,hb];have z:=aS.eq (A:=A.in1) I ra rb ru rv (sH hu);have e:decide (some a=some b)=decide (a=b):=by simp
 rw [e];exact z
instance {α:Type} [Rep α] [DecidableEq α] [aS α]:aS (List α) where
 depth:=aS.depth α+1
 inj:=fun {X pins σ H s x a b} I h h'=>by
  obtain ⟨p,xs,e,h1,r1⟩:=h;obtain ⟨q,ys,e',h2,r2⟩:=h';subst e;cases e';have:=I.dG h1 h2;subst this;exact gf I r1 r2
 eq:=fun {X pins σ H s A x y u v a b} I hx hy ru rv hu=>by
  obtain ⟨p,xs,e,h1,r1⟩:=hx;obtain ⟨q,ys,e',h2,r2⟩:=hy;subst e e';cases (show u=Value.ref p from ru);cases (show v=Value.ref q from rv)
  by_cases hpq:p=q
  ·subst hpq;have:=I.dG h1 h2;subst this;have:=gf I r1 r2;subst this;rw [decide_eq_true rfl];exact SeqAt.EqAt.same _
  ·refine SeqAt.EqAt.of_refs hpq ?_;have hu0:A.units<cLine:=by omega
   by_cases hl:a.length=b.length
   ·obtain ⟨its,its2,l1,l2,e1,e2,he⟩:=kB (A:=A) I h1 r1 h2 r2 hu hl;have z:=SeqAt.RcAt.lists l1 l2 e1 hu0 he;rw [e2,range_all a b hl] at z;exact z
   ·obtain ⟨its,v1,p1,_⟩:=I.list h1;obtain ⟨its2,v2,p2,_⟩:=I.list h2;have e1:=v1.length;have e2:=v2.length;have e3:=r1.length;have e4:=r2.length;rw [decide_eq_false (fun z=>hl (by rw [z]))]
    exact SeqAt.RcAt.lists_lengths p1.isList p2.isList (by simp;omega) hu0
theorem xo {X:Cx} (α:Type) [Rep α] [DecidableEq α] [aS α] (hu:X.A.units+64<cLine) (hd:aS.depth α≤32:=by decide) :
  OpR X (compareOp .Eq) (fun x y H Q=>∃ as bs:List α,At X.K H x as∧At X.K H y bs∧Q (.bl (decide (as=bs))) H):=by
 intro pins s σ H x y u v Q I ru rv h;obtain ⟨as,bs,⟨p,xs,e,h1,r1⟩,⟨q,ys,e',h2,r2⟩,hq⟩:=h;subst e e';cases (show u=Value.ref p from ru);cases (show v=Value.ref q from rv);have hu0:X.A.units<cLine:=by omega
 by_cases hl:as.length=bs.length
 ·obtain ⟨its,its2,l1,l2,e1,e2,he⟩:=kB (A:=X.A) I h1 r1 h2 r2 (by omega) hl
  refine SeqAt.eq_listAt l1 l2 e1 hu0 he ?_;rw [e2,range_all as bs hl];exact ⟨.bl _,H,I,rfl,hq⟩
 ·obtain ⟨its,v1,p1,_⟩:=I.list h1;obtain ⟨its2,v2,p2,_⟩:=I.list h2;have e1:=v1.length;have e2:=v2.length;have e3:=r1.length;have e4:=r2.length;rw [decide_eq_false (fun z=>hl (by rw [z]))] at hq
  exact SeqAt.eq_list_lengthsAt p1.isList p2.isList (by simp;omega) hu0 ⟨.bl false,H,I,rfl,hq⟩
theorem vM {X:Cx} (α:Type) [Rep α] [DecidableEq α] [aS α] (hu:X.A.units+64<cLine) (hd:aS.depth α≤32:=by decide) :
  OpR X (compareOp .NotEq) (fun x y H Q=>∃ as bs:List α,At X.K H x as∧At X.K H y bs∧Q (.bl (!decide (as=bs))) H):=by
 intro pins s σ H x y u v Q I ru rv h;obtain ⟨as,bs,⟨p,xs,e,h1,r1⟩,⟨q,ys,e',h2,r2⟩,hq⟩:=h;subst e e';cases (show u=Value.ref p from ru);cases (show v=Value.ref q from rv);have hu0:X.A.units<cLine:=by omega
 have fin:∀ k:Bool,Q (.bl k) H→Value.bool k≠Value.notImplemented∧EP X pins σ Q (.bool k) s:=fun k z=>⟨(fun z=>nomatch z),.bl k,H,I,rfl,z⟩
 by_cases hl:as.length=bs.length
 ·obtain ⟨its,its2,l1,l2,e1,e2,he⟩:=kB (A:=X.A) I h1 r1 h2 r2 (by omega) hl
  obtain ⟨⟨cls,dd,data,sl⟩,ho,hc,n,hd'⟩:=id l1;obtain ⟨⟨cls2,dd2,data2,sl2⟩,ho2,hc2,n2,hd2⟩:=id l2;simp only at hc hd' hc2 hd2;subst hc hd' hc2 hd2;have hq':=fin _ hq;rw [← range_all as bs hl,← e2] at hq';exact richCompare_meets_room (op:=.NotEq) ⟨_,ho,rfl⟩ ⟨_,ho2,rfl⟩ F.slot_list_ne F.entry_list_ne (F.args_list_ne_2 _ _) (SeqAt.list_neAt p q _ _ n n2 dd dd2 sl sl2 e1 _) ⟨ho,ho2,he,hq'⟩ hu0
 ·obtain ⟨its,v1,p1,_⟩:=I.list h1;obtain ⟨its2,v2,p2,_⟩:=I.list h2;have e1:=v1.length;have e2:=v2.length;have e3:=r1.length;have e4:=r2.length;rw [decide_eq_false (fun z=>hl (by rw [z]))] at hq
  obtain ⟨⟨cls,dd,data,sl⟩,ho,hc,n,hd'⟩:=id p1.isList;obtain ⟨⟨cls2,dd2,data2,sl2⟩,ho2,hc2,n2,hd2⟩:=id p2.isList;simp only at hc hd' hc2 hd2;subst hc hd' hc2 hd2;exact richCompare_meets_room (op:=.NotEq) ⟨_,ho,rfl⟩ ⟨_,ho2,rfl⟩ F.slot_list_ne F.entry_list_ne (F.args_list_ne_2 _ _) (SeqAt.list_ne_lengthsAt p q _ _ n n2 dd dd2 sl sl2 (by simp;omega)) ⟨ho,ho2,fin _ hq⟩ hu0
theorem nV {X:Cx}:b5 X (.builtin "isinstance") (fun xs H Q=>∃ x n t b,xs=[x,.ty n]∧c5 X.K H x t∧PySem.W.kitOne X.K t (.type n)=some b∧Q (.bl b) H):=by
 intro pins s σ H xs us Q I r h;obtain ⟨x,n,t,b,rfl,ty,e,q⟩:=h;obtain ⟨u,v,rfl,ru,rv⟩:=r.two;cases (show v=Value.type n from rv);exact q0 I ru ty e fun tk=>⟨.bl b,H,I.tok tk,rfl,q⟩
structure Df (K:PySem.W.Frag) (mg:Str→Option Value) (x:Str) (st:Stmt) (ps:List Str) where
 f:Addr
 fd:FuncData
 fn:Fun K x x st f fd
 bd:Binds K fd ps []
 nm:mg x=some (.ref f)
section
variable {X:Cx} {x:Str} {st:Stmt} {ps:List Str} {k:Nat} {sp:Sp} {p pos:Pos} {e:Expr} {es:List Expr} {t:TA}
theorem zC (d:Df X.K X.mg x st ps) (G:aK X.prog X.w X.K X.mg X.base CX0 k d.f d.fd ps sp) (hr:bg k X.A) (hg:Gl X x) (ha:PA X (e :: es) t) (hdb:(x == ("__debug__" : Str))=false:=by decide)
  (he:starEach (e :: es) X.env=(false,eval e X.env) :: starEach es X.env:=by rfl) (hpl:(backTo pos (starEach es X.env)).any (·.1)=false:=by rfl) :
  PE X (.Call (.Name x p) (e :: es) [] pos) (l0 sp [] E0 t):=uX G hr hg d.nm d.fn.kp d.bd .nil jN ha hdb he hpl
end
theorem Df.ok {P:Program} {w:World} {K:PySem.W.Frag} {mg:Str→Option Value} {base:Heap} {x:Str} {st:Stmt} {N ps:List Str} {k:Nat} {sp:Sp} (d:Df K mg x st ps) (S:aH N ps (aj st)) (len:∀ vs H Q E,sp vs H Q E→vs.length=ps.length)
  (hbody:∀ (cdv:Value) (A:Around) (outer:List Env) (s:Shared) (H:Hp) (vs:List V) (Q:VK) (E:XK),bg k (A.deeper (envOfC x (aj st) s.heap.objs.size d.f cdv))→sp vs H Q E →
   ∃ t,PSs (gb CX0 P w K mg base N x (aj st) d.f cdv A outer s H E).nox (a9 st) t∧t { nx:=fun _ H'=>Q .non H',rt:=Q } (start N vs) H):aK P w K mg base CX0 (k+1) d.f d.fd ps sp :=
 d.fn.ok S len hbody
theorem aD {H:Hp} {p:Addr} (h:H p=none) (o:HO):ar H (upd H p o):=fun b u q=>by rw [ag (ao q h)];exact q
theorem small {n:Nat} (h:n≤1000):n≤sizeLine:=Nat.le_of_lt (qS h)
end L2
namespace L2
open PySem PySem.Spec PyProof.Rows
def isB (x:V) (H:Hp) (QB:Bool→Hp→Prop):Prop:=∃ k,x=.bl k∧QB k H
abbrev isF (K:PySem.W.Frag) (f:Str) (x:V) (H1:Hp) (Q:VK):Prop:=∃ a C dx fs v,x=.ref a∧H1 a=some (.ins C dx fs)∧Cls K C∧cp K C f∧fs.lookup f=some v∧Q v H1
def isI (x:V) (H:Hp) (QO:Option Int→Hp→Prop):Prop:=∃ i,x=.int i∧QO (some i) H
def gg (g:TG) (t:TS) (D:Ends) (σ:St):It→Hp→Prop:=fun J H1=>∃ W:Nat→Nat→St→Hp→Prop,(∃ m,W 0 m σ H1)∧∀ i m σ H,W i m σ H →
  (J.stop i H∧D.nx σ H)∨(J.go i H∧∃ N:St→Hp→Prop,(∀ σ' H',N σ' H'→∃ m',m' < m∧W (i+1) m' σ' H')∧∀ x H',J.yld i H x H'→g x σ H' fun σ2 H2=>t { D with nx:=N,ct:=N,bk:=D.nx } σ2 H2)
def eB (own:List Str) (fr:List Nat) (g:TG) (tt:TT) (ta:TE) (σ:St) (Q:VK):It→Hp→Prop:=fun J H1=>∀ d,H1 d=none→∃ W:Nat→Nat→St→Hp→Prop,(∃ m,W 0 m (bI own fr σ) (upd H1 d (.lst [])))∧∀ i m σ' H',W i m σ' H' →
  (J.stop i H'∧Q (.ref d) H')∨(J.go i H'∧∀ x H2,J.yld i H' x H2→g x σ' H2 fun σ2 H3=>tt σ2 H3 fun ok H4 =>
   if ok=true then ta σ2 H4 fun y H5=>∃ ys,H5 d=some (.lst ys)∧ys.length<sizeLine∧∃ m',m' < m∧W (i+1) m' σ2 (upd H5 d (.lst (ys++[y]))) else ∃ m',m' < m∧W (i+1) m' σ2 H4)
def pL (K:PySem.W.Frag) (x:V) (H:Hp) (R:It→Hp→Prop):Prop:=∃ a,x=.ref a∧(∃ xs,SqL K H a xs)∧R (Itl K a) H
def tJ (vs:List V) (H:Hp) (R:It→Hp→Prop):Prop:=∃ j:Int,vs=[.int j]∧-(2 ^ 62)≤j∧j<2 ^ 62∧R (Itr 0 j.toNat) H
section
variable {σ:St} {H:Hp} {Q:VK} {QB:Bool→Hp→Prop} {D:Ends} {K:PySem.W.Frag} {t u:TS} {ta tb tc:TE} {g:TG} {i:Nat} {v x y:V} {tt tu:TT} {tA:TA} {a b:Int}
theorem iY (h:D.nx σ H):uM D σ H:=h
theorem lZ (h:ta σ H fun x H1=>g x σ H1 D.nx):qi ta g D σ H:=h
theorem jg {QS:St→Hp→Prop} (h:QS (σ.set i (some v)) H):cg i v σ H QS:=h
theorem jE (h:ta σ H fun _ H1=>D.nx σ H1):uj ta D σ H:=h
theorem mj (h:ta σ H D.rt):xx ta D σ H:=h
theorem uu (h:tt σ H fun b H1=>if b=true then t D σ H1 else u D σ H1):tj tt t u D σ H:=h
theorem ug (J:St→Hp→Prop) (main:∀ N:St→Hp→Prop,(∀ σ' H',J σ' H'→N σ' H')→tt σ H fun b H1=>if b=true then t { D with nx:=N } σ H1 else u { D with nx:=N } σ H1)
  (key:∀ σ' H',J σ' H'→D.nx σ' H'):tj tt t u D σ H:=main D.nx key
theorem l5 (e:σ[i]?=some (some v)) (h:Q v H):sI i σ H Q:=⟨v,e,h⟩
theorem r_C (h:Q v H):tC v σ H Q:=h
theorem pT {r:R2} (h:ta σ H fun x H1=>tb σ H1 fun y H2=>r x y H2 Q):tOp r ta tb σ H Q:=h
theorem o6 {r:V→Hp→VK→Prop} (h:ta σ H fun x H1=>r x H1 Q):tUn r ta σ H Q:=h
theorem lQ {f:Int→Int→V} (h:Q (f a b) H):rI0 f (.int a) (.int b) H Q:=⟨a,b,rfl,rfl,h⟩
theorem iD {C:Int→Int→Prop} {f:Int→Int→V} (c:C a b) (h:Q (f a b) H):rI C f (.int a) (.int b) H Q:=⟨a,b,rfl,rfl,c,h⟩
theorem jq (h:Q (.bl (decide (a=b))) H):rEq (.int a) (.int b) H Q:=⟨rfl,by
 have e:decide (V.int a=V.int b)=decide (a=b):=decide_eq_decide.mpr ⟨fun z=>by injection z,fun z=>by rw [z]⟩
 rw [e];exact h⟩
theorem jP (h:Q (.bl (!decide (a=b))) H):rNe (.int a) (.int b) H Q:=⟨rfl,by
 have e:decide (V.int a=V.int b)=decide (a=b):=decide_eq_decide.mpr ⟨fun z=>by injection z,fun z=>by rw [z]⟩
 rw [e];exact h⟩
theorem iX (h:ta σ H fun x H'=>isB x H' QB):uD ta σ H QB:=h
theorem pw (h:ta σ H fun x H1=>isB x H1 QB):tB ta σ H QB:=h
theorem qg {c:Bool} (h:QB c H):isB (.bl c) H QB:=⟨c,rfl,h⟩
theorem l7 (h:tt σ H fun c H1=>if c=true then tu σ H1 QB else QB false H1):vN tt tu σ H QB:=h
theorem pz (h:tt σ H fun c H1=>if c=true then QB true H1 else tu σ H1 QB):tOr tt tu σ H QB:=h
theorem me (h:tt σ H fun c H1=>QB (!c) H1):xv tt σ H QB:=h
theorem jr (h:ta σ H fun x H1=>isB x H1 fun c H1=>if c=true then tb σ H1 Q else Q (.bl false) H1):uv ta tb σ H Q:=h
theorem ji (h:ta σ H fun x H1=>isB x H1 fun c H1=>Q (.bl (!c)) H1):uk ta σ H Q:=h
theorem lT {QA:List V→Hp→Prop} (h:QA [] H):pG σ H QA:=h
theorem ju {QA:List V→Hp→Prop} (h:ta σ H fun x H1=>tA σ H1 fun xs H2=>QA (x :: xs) H2):jz ta tA σ H QA:=h
theorem pW {r:List V→Hp→VK→Prop} (h:tA σ H fun vs H1=>r vs H1 Q):tCB r tA σ H Q:=h
theorem jO {sp:Sp} {E:XK} (h:tA σ H fun vs H1=>sp (vs++[]) H1 Q E):l0 sp [] E tA σ H Q:=h
theorem cS (h:tA σ H fun xs H1=>xs.length≤sizeLine∧∀ p,H1 p=none→Q (.ref p) (upd H1 p (.lst xs))):sS tA σ H Q:=h
theorem md (h:tA σ H fun xs H1=>xs.length≤sizeLine∧∀ p,H1 p=none→Q (.ref p) (upd H1 p (.tup xs))):xm tA σ H Q:=h
theorem mf {wi:TI} (h:wi σ H (gg g t D σ)):xF wi g t D σ H:=h
theorem g7 {R:It→Hp→Prop} (h:ta σ H fun x H1=>pL K x H1 R):qm K ta σ H R:=h
theorem g9 {R:It→Hp→Prop} (h:tA σ H fun vs H1=>tJ vs H1 R):qr tA σ H R:=h
theorem iZ {own:List Str} {fr:List Nat} {wi:TI} (h:wi σ H (eB own fr g tt ta σ Q)):mh own fr wi g tt ta σ H Q:=h
theorem pP {r:V→Option Int→Option Int→Hp→VK→Prop} {tl th:TO} (h:ta σ H fun x H1=>tl σ H1 fun l H2=>th σ H2 fun u H3=>r x l u H3 Q):tSl r ta tl th σ H Q:=h
theorem fX {QO:Option Int→Hp→Prop} (h:QO none H):ot σ H QO:=h
theorem jy {QO:Option Int→Hp→Prop} (h:ta σ H fun x H1=>isI x H1 QO):ui ta σ H QO:=h
theorem jo {QO:Option Int→Hp→Prop} (h:QO (some a) H):isI (.int a) H QO:=⟨a,rfl,h⟩
theorem pD {T:String} {r:V→List V→Hp→VK→Prop} (h:ta σ H fun x H1=>tyV K T x H1∧tA σ H1 fun xs H2=>r x xs H2 Q):tBM K T r ta tA σ H Q:=h
theorem lV {f:Str} (h:ta σ H fun x H1=>isF K f x H1 Q):sg K ta f σ H Q:=h
theorem jn {C:Addr} {sp:Sp} {dvs:List V} {E:XK} (h:tA σ H fun vs H1=>∀ x dx,H1 x=none→H1 dx=none→dx≠x→sp (.ref x :: (vs++dvs)) (upd (upd H1 dx (.own x)) x (.ins C dx [])) (fun v H2=>v=.non∧Q (.ref x) H2) E):qk C sp dvs E tA σ H Q:=h
theorem jv {f:Str} (h:tb σ H fun y H1=>ta σ H1 fun x H2=>∃ a C dx fs,x=.ref a∧H2 a=some (.ins C dx fs)∧Cls K C∧cp K C f∧fs.length<1000∧D.nx σ (upd H2 a (.ins C dx (cJ f y fs)))):sN K ta tb f D σ H:=h
theorem v3 {α:Type} [Rep α] {l:List α} {n:Nat} {c:α} (h:At K H v l) (e:a=(n:Int)) (hn:l[n]?=some c) (q:∀ w,At K H w c→Q w H):kl K v (.int a) H Q:=by
 obtain ⟨p,xs,x,rfl,hS,hx,hc⟩:=h.item hn;subst e;exact ⟨p,xs,_,x,rfl,rfl,hS,hx,q x hc⟩
theorem Au {l:List Nat} {n c:Nat} (h:At K H v l) (e:a=(n:Int)) (hn:l[n]?=some c) (q:Q (.int (c:Int)) H):kl K v (.int a) H Q :=
 v3 h e hn fun w hw=>by cases (show w=V.int (c:Int) from hw);exact q
theorem g6 {l:List Int} {n:Nat} {c:Int} (h:At K H v l) (e:a=(n:Int)) (hn:l[n]?=some c) (q:Q (.int c) H):kl K v (.int a) H Q :=
 v3 h e hn fun w hw=>by cases (show w=V.int c from hw);exact q
theorem tq {n:Nat} (e:a=(n:Int)) (hn:n≤1000000) (Pv:Nat→St→Hp→Prop) (h0:Pv 0 σ H)
  (hs:∀ i σ' H',i<n→Pv i σ' H'→g (.int (i:Int)) σ' H' fun σ2 H2=>t { D with nx:=Pv (i+1),ct:=Pv (i+1),bk:=D.nx } σ2 H2) (hd:∀ σ' H',Pv n σ' H'→D.nx σ' H') :
  tJ [.int a] H (gg g t D σ):=by
 subst e;refine ⟨n,rfl,by omega,by omega,?_⟩
 have z:((n:Int)).toNat=n:=by omega
 show gg g t D σ (Itr 0 (n:Int).toNat) H;rw [z];exact qG Pv h0 (fun i σ' H' hi p=>by rw [Int.zero_add];exact hs i σ' H' hi p) hd
def del (H:Hp) (d:Addr):Hp:=fun a=>if a=d then none else H a
theorem i6 {H:Hp} {d b:Addr} (h:b≠d):del H d b=H b:=if_neg h
theorem iN {H H':Hp} {d:Addr} (e:ar H H'):ar (del H d) (del H' d):=fun b o h=>by
 by_cases hb:b=d
 ·rw [hb] at h;have z:del H d d=none:=if_pos rfl;rw [z] at h;cases h
 ·rw [i6 hb] at h ⊢;exact e b o h
theorem oB {H:Hp} {d:Addr} {o:HO}:ar (del H d) (del (upd H d o) d):=fun b u h=>by
 by_cases hb:b=d
 ·rw [hb] at h;have z:del H d d=none:=if_pos rfl;rw [z] at h;cases h
 ·rw [i6 hb] at h ⊢;rw [ag hb];exact h
theorem qu {H:Hp} {d:Addr}:ar (del H d) H:=fun b u h=>by
 by_cases hb:b=d
 ·rw [hb] at h;have z:del H d d=none:=if_pos rfl;rw [z] at h;cases h
 ·rw [i6 hb] at h;exact h
theorem vD {β:Type} [Rep β] {J:It} {n:Nat} {own:List Str} {fr:List Nat} (Src:Nat→V→Hp→Prop) (acc:Nat→List β) (Sh:St→Prop)
  (hgo:∀ i H',i<n→ar H H'→J.go i H') (hst:∀ H',ar H H'→J.stop n H') (hy:∀ i H' x H2,i<n→ar H H'→J.yld i H' x H2→H2=H'∧Src i x H')
  (hz:n≤100000) (ha0:acc 0=[]) (hal:∀ i,i≤n→(acc i).length≤i) (h0:Sh (bI own fr σ))
  (turn:∀ i w σ' H' (d:Addr) (R:St→V→Hp→Prop) (R0:St→Hp→Prop),i<n→ar H H'→Src i w H'→Sh σ' →
   (∀ σ2 y b H5,Sh σ2→ar H' H5→At K (del H5 d) y b→acc (i+1)=acc i++[b]→R σ2 y H5)→(∀ σ2 H5,Sh σ2→ar H' H5→acc (i+1)=acc i→R0 σ2 H5)→(∃ ys,H' d=some (.lst ys)) →
   g w σ' H' fun σ2 H3=>tt σ2 H3 fun ok H4=>if ok=true then ta σ2 H4 (R σ2) else R0 σ2 H4)
  (fin:∀ d H',H d=none→ar H H'→(∃ ys,H' d=some (.lst ys)∧Paired (Rep.is K (del H' d)) ys (acc n))→Q (.ref d) H') (d:Addr) (hd:H d=none) :
  ∃ W:Nat→Nat→St→Hp→Prop,(∃ m,W 0 m (bI own fr σ) (upd H d (.lst [])))∧∀ i m σ' H',W i m σ' H' →
   (J.stop i H'∧Q (.ref d) H')∨(J.go i H'∧∀ x H2,J.yld i H' x H2→g x σ' H2 fun σ2 H3=>tt σ2 H3 fun ok H4 =>
    if ok=true then ta σ2 H4 fun y H5=>∃ ys,H5 d=some (.lst ys)∧ys.length<sizeLine∧∃ m',m' < m∧W (i+1) m' σ2 (upd H5 d (.lst (ys++[y]))) else ∃ m',m' < m∧W (i+1) m' σ2 H4):=by
 refine ⟨fun i m σ' H'=>m=n - i∧i≤n∧Sh σ'∧ar H H'∧∃ ys,H' d=some (.lst ys)∧Paired (Rep.is K (del H' d)) ys (acc i),⟨n,rfl,Nat.zero_le _,h0,aD hd _,[],ai,by rw [ha0];exact .nil⟩,?_⟩
 rintro i m σ' H' ⟨rfl,hi,hsh,hs,ys,hys,hp⟩
 by_cases hlt:i<n
 ·refine .inr ⟨hgo i H' hlt hs,fun x H2 hx=>?_⟩;obtain ⟨rfl,hsrc⟩:=hy i H' x H2 hlt hs hx;refine turn i x σ' H2 d _ _ hlt hs hsrc hsh (fun σ2 y b H5 h1 h2 h3 h4=>?_) (fun σ2 H5 h1 h2 h4=>?_) ⟨ys,hys⟩
  ·have hl:=hp.length;have hl2:=hal i hi;refine ⟨ys,h2 _ _ hys,Nat.lt_of_le_of_lt (show ys.length≤100000 by omega) (by rw [sizeLine_eq];decide),n - (i+1),by omega,rfl,hlt,h1,fun b' o e=>?_,ys++[y],ai,?_⟩
   ·rw [ag (ao e hd)];exact h2 _ _ (hs _ _ e)
   ·rw [h4];exact Paired.app (Paired.dq hp fun _ _ q=>Rep.mono oB (Rep.mono (iN h2) q)) (.cons (Rep.mono oB h3) .nil)
  ·refine ⟨n - (i+1),by omega,rfl,hlt,h1,hs.trans h2,ys,h2 _ _ hys,?_⟩
   rw [h4];exact Paired.dq hp fun _ _ q=>Rep.mono (iN h2) q
 ·have e:i=n:=by omega
  subst e;exact .inl ⟨hst H' hs,fin d H' hd hs ⟨ys,hys,hp⟩⟩
theorem rX {α β:Type} [Rep α] [Rep β] {l:List α} {own:List Str} {fr:List Nat} (h:At K H v l) (hz:l.length≤100000) (acc:Nat→List β) (Sh:St→Prop) (ha0:acc 0=[]) (hal:∀ i,i≤l.length→(acc i).length≤i) (h0:Sh (bI own fr σ))
  (turn:∀ i c w σ' H' (d:Addr) (R:St→V→Hp→Prop) (R0:St→Hp→Prop),l[i]?=some c→ar H H'→At K H' w c→Sh σ' →
   (∀ σ2 y b H5,Sh σ2→ar H' H5→At K (del H5 d) y b→acc (i+1)=acc i++[b]→R σ2 y H5)→(∀ σ2 H5,Sh σ2→ar H' H5→acc (i+1)=acc i→R0 σ2 H5)→(∃ ys,H' d=some (.lst ys)) →
   g w σ' H' fun σ2 H3=>tt σ2 H3 fun ok H4=>if ok=true then ta σ2 H4 (R σ2) else R0 σ2 H4)
  (fin:∀ d H',H d=none→ar H H'→(∃ ys,H' d=some (.lst ys)∧Paired (Rep.is K (del H' d)) ys (acc l.length))→Q (.ref d) H') :
  pL K v H (eB own fr g tt ta σ Q):=by
 obtain ⟨p,xs,rfl,hS,hP⟩:=h;have hl:=hP.length;refine ⟨p,rfl,⟨xs,hS⟩,vD (J:=Itl K p) (n:=l.length) (fun i w H'=>∃ c,l[i]?=some c∧At K H' w c) acc Sh (fun i H' hi e=>⟨xs,xs[i]'(by omega),e.seq hS,by simp [hl,hi]⟩) (fun H' e=>⟨xs,e.seq hS,Nat.le_of_eq hl⟩)
  (fun i H' x H2 hi e hy=>?_) hz ha0 hal h0 (fun i w σ' H' d R R0 hi e ⟨c,hc,hw⟩=>turn i c w σ' H' d R R0 hc e hw) fin⟩
 obtain ⟨e1,e2⟩:=hy;have z:=e2 xs (e.seq hS);obtain ⟨c,hc,r⟩:=Paired.getL hP z;exact ⟨e1,c,hc,Rep.mono e r⟩
theorem tV {α β:Type} [Rep α] [Rep β] {l:List α} {own:List Str} {fr:List Nat} (h:At K H v l) (hz:l.length≤100000) (acc:Nat→List β) (Sh:St→Prop) (ha0:acc 0=[]) (hal:∀ i,i≤l.length→(acc i).length≤i) (h0:Sh (bI own fr σ))
  (turn:∀ i c w σ' H' (d:Addr) (R:St→V→Hp→Prop) (R0:St→Hp→Prop),l[i]?=some c→ar H H'→At K H' w c→Sh σ' →
   (∀ σ2 y b H5,Sh σ2→ar H' H5→At K (del H5 d) y b→acc (i+1)=acc i++[b]→R σ2 y H5)→(∀ σ2 H5,Sh σ2→ar H' H5→acc (i+1)=acc i→R0 σ2 H5)→(∃ ys,H' d=some (.lst ys)) →
   g w σ' H' fun σ2 H3=>tt σ2 H3 fun ok H4=>if ok=true then ta σ2 H4 (R σ2) else R0 σ2 H4)
  (fin:∀ d H',ar H H'→At K H' (.ref d) (acc l.length)→Q (.ref d) H') :
  pL K v H (eB own fr g tt ta σ Q) :=
 rX h hz acc Sh ha0 hal h0 turn fun d H' _ hs ⟨ys,hys,hp⟩=>fin d H' hs ⟨d,ys,rfl,SqL.of hys,Paired.dq hp fun _ _ q=>Rep.mono qu q⟩
theorem jK (h:QB true H):tS σ H QB:=h
theorem jj {A B:Prop} (h:A):if true=true then A else B:=nA h
end
theorem cA {c A B:Prop} [Decidable c] (h1:c→A) (h2:¬ c→B):if decide c=true then A else B:=by
 by_cases h:c
 ·rw [decide_eq_true h];exact nA (h1 h)
 ·rw [decide_eq_false h];exact gP (h2 h)
theorem fG {c A B:Prop} [Decidable c] (h1:¬ c→A) (h2:c→B):if (!decide c)=true then A else B:=by
 by_cases h:c
 ·rw [decide_eq_true h];exact gP (h2 h)
 ·rw [decide_eq_false h];exact nA (h1 h)
end L2
namespace L2
open PySem PySem.Spec PyProof.Rows
def Gr {β:Type} [Rep β] (K:PySem.W.Frag) (H:Hp) (d:Addr) (l:List β):Prop:=∃ ys,H d=some (.lst ys)∧Paired (Rep.is K (del H d)) ys l
section
variable {β:Type} [Rep β] {K:PySem.W.Frag} {H H':Hp} {d:Addr} {l:List β} {y:V} {b:β} {Q:VK}
theorem Gr.nil (h:H d=some (.lst [])):Gr K H d ([]:List β):=⟨[],h,.nil⟩
theorem Gr.at (h:Gr K H d l):At K H (.ref d) l:=by
 obtain ⟨ys,h1,h2⟩:=h;exact ⟨d,ys,rfl,SqL.of h1,Paired.dq h2 fun _ _ q=>Rep.mono qu q⟩
theorem Gr.mono (s:ar H H') (h:Gr K H d l):Gr K H' d l:=by
 obtain ⟨ys,h1,h2⟩:=h;exact ⟨ys,s _ _ h1,Paired.dq h2 fun _ _ q=>Rep.mono (iN s) q⟩
theorem Gr.is (h:Gr K H d l):∃ ys,H d=some (.lst ys):=let ⟨ys,h1,_⟩:=h;⟨ys,h1⟩
theorem ar.but {H₀:Hp} (hd:H₀ d=none) (s:ar H₀ H) (k:∀ a o,a≠d→H a=some o→H' a=some o):ar H₀ H':=fun a o z=>k a o (ao z hd) (s a o z)
end
def cut {α:Type} (l:List α) (lo hi:Option Int):List α:=(l.drop (HT.sIx l.length 0 lo)).take (HT.sIx l.length l.length hi - HT.sIx l.length 0 lo)
theorem jY {α:Type} [Rep α] {K:PySem.W.Frag} {H:Hp} {v:V} {Q:VK} {l:List α} {lo hi:Option Int} (h:At K H v l) (q:∀ p H',ar H H'→H p=none→At K H' (.ref p) (cut l lo hi)→Q (.ref p) H'):tY K v lo hi H Q:=by
 obtain ⟨p,xs,rfl,hS,hP⟩:=h;refine ⟨p,xs,rfl,hS,fun d hd=>q d _ (aD hd _) hd ⟨d,_,rfl,SqL.of ai,?_⟩⟩;have e:=hP.length;unfold nL cut;rw [e];exact Paired.ux _ (Paired.uo _ (Paired.dq hP fun _ _ z=>Rep.mono (aD hd _) z))
end L2
namespace L2
open PySem PySem.Spec PyProof.Rows
def xp (K:PySem.W.Frag):List V→Hp→VK→Prop:=fun xs H Q=>∃ p ys,xs=[.ref p]∧(SqL K H p ys∨SqT K H p ys)∧Q (.int ys.length) H
def uJ (K:PySem.W.Frag):List V→Hp→VK→Prop:=fun xs H Q=>∃ p ys,xs=[.ref p]∧(SqL K H p ys∨SqT K H p ys)∧∀ l,H l=none→Q (.ref l) (upd H l (.lst ys))
def uh (K:PySem.W.Frag):List V→Hp→VK→Prop:=fun xs H Q=>∃ x n t b,xs=[x,.ty n]∧c5 K H x t∧PySem.W.kitOne K t (.type n)=some b∧Q (.bl b) H
def vS (α:Type) [Rep α] [DecidableEq α] (K:PySem.W.Frag):R2:=fun x y H Q=>∃ as bs:List α,At K H x as∧At K H y bs∧Q (.bl (decide (as=bs))) H
def yy (α:Type) [Rep α] [DecidableEq α] (K:PySem.W.Frag):R2:=fun x y H Q=>∃ as bs:List α,At K H x as∧At K H y bs∧Q (.bl (!decide (as=bs))) H
section
variable {K:PySem.W.Frag} {H:Hp} {Q:VK} {v x y:V} {α:Type} [Rep α] {l:List α}
theorem uB (h:At K H v l) (q:Q (.int (l.length:Int)) H):xp K [v] H Q:=by
 obtain ⟨p,xs,rfl,hS,e⟩:=h.len;exact ⟨p,xs,rfl,.inl hS,by rw [e];exact q⟩
theorem rA {n:String} {t:Value} {b:Bool} (ty:c5 K H x t) (e:PySem.W.kitOne K t (.type n)=some b) (q:Q (.bl b) H):uh K [x,.ty n] H Q:=⟨x,n,t,b,rfl,ty,e,q⟩
theorem pQ [DecidableEq α] {as bs:List α} (ha:At K H x as) (hb:At K H y bs) (q:Q (.bl (decide (as=bs))) H):vS α K x y H Q:=⟨as,bs,ha,hb,q⟩
theorem i8 [DecidableEq α] {as bs:List α} (ha:At K H x as) (hb:At K H y bs) (q:Q (.bl (!decide (as=bs))) H):yy α K x y H Q:=⟨as,bs,ha,hb,q⟩
end
section
variable {X:Cx} (K:PySem.W.Frag) (hK:X.K=K) {e l o value:Expr} {ta tv tl:TE} {f:Str} {pos pos':Pos}
include hK
theorem bY:IxR X (kl K):=by subst hK;exact vc
theorem ig:IxR X (tP K):=by subst hK;exact wD
theorem cw (he:PE X e ta) (hb:attributeBase e f X.env (eval e X.env)=eval e X.env):PE X (.Attribute e f pos) (sg K ta f):=by subst hK;exact yf he hb
theorem jX (ha:PE X o ta) (hv:PE X value tv) (hs:swapsWith value (some (.Attribute o f pos')) pos.line X.env=pure false):PS X (.Assign [.Attribute o f pos'] value pos) (sN K ta tv f):=by subst hK;exact wt ha hv hs
theorem mN {tg:Expr} (hl:PE X l tl):PI X tg l (qm K tl):=by subst hK;exact vp hl
theorem iT:SlR X (tY K):=by subst hK;exact uT
theorem bB:b5 X (.builtin "len") (xp K):=by subst hK;exact nG
theorem pq:b5 X (.type "list") (uJ K):=by subst hK;exact nu
theorem gE:b5 X (.builtin "isinstance") (uh K):=by subst hK;exact nV
theorem j9 (α:Type) [Rep α] [DecidableEq α] [aS α] (hu:X.A.units+64<cLine) (hd:aS.depth α≤32:=by decide) :
  OpR X (compareOp .Eq) (vS α K):=by subst hK;exact xo α hu hd
theorem fH (α:Type) [Rep α] [DecidableEq α] [aS α] (hu:X.A.units+64<cLine) (hd:aS.depth α≤32:=by decide) :
  OpR X (compareOp .NotEq) (yy α K):=by subst hK;exact vM α hu hd
theorem yx {T id:String} {name:Str} {r:V→List V→Hp→VK→Prop} {to:TE} {t:TA} {e:Expr} {es:List Expr} {apos cpos:Pos} (pa:PlainAttrs T) (slot:Slot T name id) (hty:typeOf (.builtin id)=pure (.type "method_descriptor")) (hm:MtR X id r) (ho:PE X o to) (ha:PA X (e :: es) t)
  (hbase:attributeBase o name X.env (eval o X.env)=eval o X.env:=by rfl)
  (hfew:((backTo cpos (starEach (e :: es) X.env)).all (fun x=>!x.1) && (backToKw cpos (keywordEach [] X.env)).all (fun x=>x.1.isSome)
   && decide ((e :: es).length+([]:List Keyword).length+(if ([]:List Keyword).isEmpty then 0 else 1)<30))=true:=by rfl)
  (hline:(apos.endLine == cpos.line)=true:=by rfl) (hs:starEach (e :: es) X.env=(false,eval e X.env) :: starEach es X.env:=by rfl) (hplain:(backTo cpos (starEach es X.env)).any (·.1)=false:=by rfl) :
  PE X (.Call (.Attribute o name apos) (e :: es) [] cpos) (tBM K T r to t):=by subst hK;exact zZ pa slot hty hm ho ha hbase hfew hline hs hplain
theorem vw {T id:String} {name:Str} {r:V→List V→Hp→VK→Prop} {to:TE} {apos cpos:Pos} (pa:PlainAttrs T) (slot:Slot T name id) (hty:typeOf (.builtin id)=pure (.type "method_descriptor")) (hm:MtR X id r) (ho:PE X o to)
  (hbase:attributeBase o name X.env (eval o X.env)=eval o X.env:=by rfl) (hline:(apos.endLine == cpos.line)=true:=by rfl):PE X (.Call (.Attribute o name apos) [] [] cpos) (sF K T r to):=by subst hK;exact xR pa slot hty hm ho hbase hline
end
end L2
namespace L2
open PySem PySem.Spec PyProof.Rows
section
variable {X:Cx} {pins:List (Addr×Obj)} {σ:St} {H:Hp} {s:Shared} {h':Heap} {t':Nat} {fp:List Addr} {p:Addr} {o:HO}
theorem Inv.kS (I:Inv X pins σ H s) (hf:∀ b∈fp,eQ X pins H b) (k:∀ b ob,b∉fp→s.heap.get? b=some ob→h'.get? b=some ob) (hp:s.heap.objs.size≤p) (new:aY X.prog X.w (upd H p o) h' p o) :
  Inv X pins σ (upd H p o) { s with heap:=h',toks:=t' }:=by
 have hn:=I.hok.fresh hp;have lt:∀ {b:Addr} {ob:Obj},s.heap.get? b=some ob→b≠p:=fun e=>Nat.ne_of_lt (Nat.lt_of_lt_of_le (Heap.lt_size e) hp);have nofp:∀ b u,H b=some u→b∉fp:=fun b u e hb=>by rw [(hf b hb).1] at e;cases e
 refine I.step (g':=s.gens) (d':=s.drawn) (ch:=fp) (fun b hb=>let ⟨_,f1,_,f3,f4,f5⟩:=hf b hb;⟨f3,f1,f4,f5⟩) (fun b ob _ _ hc e _=>k b ob hc e) (fun b ob _ _ hc e _=>⟨ob.slots,k b ob hc e⟩)
  (fun b ob _ e n=>by rw [ag (lt e)];exact n) (fun b ob hc e=>⟨ob,k b ob hc e⟩) (fun b xs e=>by rw [ag (ao e hn)];exact e) (fun b ob u e=>by rw [ag (ao e hn)];exact e)
  (fun b ps e=>⟨#[],by rw [ag (ao e hn),e];simp⟩) (fun m hm=>?_) (fun b u e=>?_) I.bare
 ·obtain ⟨ob,es,ep,e,r⟩:=hm;exact ⟨ob,es,ep,k _ ob (fun hb=>(hf _ hb).2.1 rfl) e,r⟩
 ·by_cases hb:b=p
  ·subst hb;rw [ai] at e;cases e;exact new
  ·rw [ag hb] at e;refine (I.hok b u e).iC (fun c v hc q=>k c v ?_ q) (fun c q=>by rw [ag (ao q hn)];exact q) fun c xs q=>by rw [ag (ao q hn)];exact q
   rcases hc with z|z
   ·rw [z];exact nofp b u e
   ·exact nofp c _ z
end
def Ite (K:PySem.W.Frag) (a:Addr):It :=
 ⟨fun i H=>∃ xs x,SqL K H a xs∧xs[i]?=some x,fun i H v H'=>∃ p x,v=.ref p∧H p=none∧H'=upd H p (.tup [.int (i:Int),x])∧∀ xs,SqL K H a xs→xs[i]?=some x,fun i H=>∃ xs,SqL K H a xs∧xs.length≤i⟩
theorem qZ {P:Program} {w:World} {K:PySem.W.Frag} {es:List Expr} {kk:Nat} {tpos:Pos} (a e it:Addr) (hei:e≠it) :
  Turn P w K (.Tuple es kk tpos) (Ite K a) [e,it] e (fun i h=>(∃ old,IsEnum h e it i old)∧h.IsListIter it a i) where
 mem:=by simp
 obj:=fun i h st b hb=>by
  obtain ⟨⟨old,he⟩,o,e1,c,d⟩:=st;rcases List.mem_cons.mp hb with z|hb
  ·rw [z];exact ⟨_,he,fun v z=>by
    have z':Data.fields _=Data.cell v:=z;cases z'⟩
  ·rw [List.mem_singleton.mp hb];exact ⟨o,e1,fun v z=>by rw [d] at z;cases z⟩
 keep:=fun i h h' st k=>⟨let ⟨old,he⟩:=st.1;⟨old,k e (by simp) _ he⟩,st.2.at fun o e=>k it (by simp) o e⟩
 item:=by
  intro X hP hw hK hc i pins s σ H E I hf st hg;subst hP hw hK;obtain ⟨xs,x,hq,hx⟩:=hg;obtain ⟨its,rv,p,hz⟩:=I.list hq;obtain ⟨u,hu,ru⟩:=rv.get hx;obtain ⟨⟨old,he⟩,hit⟩:=st;refine wpAny_pyNext_enum_item he hit p.isList (x:=u) (by simpa using hu) hei fun h' ho hit' hT hsz hk=>?_
  refine ⟨_,rfl,?_⟩;have I1:Inv X pins σ (upd H s.heap.objs.size (.tup [.int (i:Int),x])) { s with heap:=h',toks:=s.toks+1 } :=
   I.kS hf (fun b ob hb q=>hk b ob (fun z=>hb (by simp [z])) (fun z=>hb (by simp [z])) q) (Nat.le_refl _) ⟨by show 2≤sizeLine;decide,[.int i s.toks,u],.cons ⟨_,rfl⟩ (.cons ru .nil),⟨_,hT,rfl,_,rfl⟩⟩
  have fE:=hf e (by simp)
  have hlt:e<s.heap.objs.size:=Heap.lt_size he;have hlt2:it<s.heap.objs.size:=by obtain ⟨_,z,_⟩:=hit;exact Heap.lt_size z
  refine wpAny_letOwnedTupleGo_enum ho fun h2 he2 hs2=>?_;have nE:(upd H s.heap.objs.size (.tup [.int (i:Int),x])) e=none:=by rw [ag (Nat.ne_of_lt hlt)];exact fE.1
  refine ⟨.ref s.heap.objs.size,_,I1.turned (t':=s.toks+1) (fun b ob hb q=>(hs2.2 b hb).trans q) nE fE.2.1 fE.2.2.2.1 fE.2.2.2.2.1 fE.2.2.2.2.2,rfl,⟨_,x,rfl,I.hok.fresh (Nat.le_refl _),rfl,fun ys hy=>by rw [I.dG hy hq];exact hx⟩,?_,fun b hb=>?_⟩
  ·refine ⟨⟨u,?_⟩,hit'.at fun o q=>(hs2.2 it (Ne.symm hei)).trans q⟩;have e1:((i+1:Nat):Int)=(i:Int)+1:=by omega
   rw [e1];exact he2
  ·have hb':b<s.heap.objs.size:=by
    rcases List.mem_cons.mp hb with z|hb
    ·rw [z];exact hlt
    ·rw [List.mem_singleton.mp hb];exact hlt2
   rw [ag (Nat.ne_of_lt hb')];exact (hf b hb).1
 done:=by
  intro X hP hw hK hc i pins s σ H E I hf st hg;subst hP hw hK;obtain ⟨xs,hq,hx⟩:=hg;obtain ⟨its,rv,p,hz⟩:=I.list hq;obtain ⟨⟨old,he⟩,hit⟩:=st;have hl:=rv.length;obtain ⟨f0,f1,f2,f3,f4,f5⟩:=hf it (by simp)
  exact wpAny_pyNext_enum_end (I.ok.hd hc) he hit p.isList (by simp;omega) fun h' eb=>⟨rfl,I.turned (t':=s.toks) (fun b o hb e=>eb b o hb e) f0 f1 f3 f4 f5⟩
 self:=fun _ _ _ _ _ st h=>by
  obtain ⟨⟨old,he⟩,_⟩:=st;exact wpAny_pyIter_enum he h
def sx (K:PySem.W.Frag) (vs:List V) (H:Hp) (R:It→Hp→Prop):Prop:=∃ a xs,vs=[.ref a]∧SqL K H a xs∧R (Ite K a) H
def pZ (K:PySem.W.Frag) (ta:TA):TI:=fun σ H R=>ta σ H fun vs H1=>sx K vs H1 R
theorem tQ {X:Cx} (K:PySem.W.Frag) (hK:X.K=K) {tgs:List Expr} {kk:Nat} {tpos:Pos} {a:Expr} {ta:TA} {p pos:Pos} (hg:Gl X "enumerate") (hm:X.mg "enumerate" = none) (ha:PA X [a] ta) (hs:starEach [a] X.env=[(false,eval a X.env)]:=by rfl) :
  PI X (.Tuple tgs kk tpos) (.Call (.Name "enumerate" p) [a] [] pos) (pZ K ta):=by
 subst hK;intro pins s σ H R I h;refine Call_ (dg I hg hm boot_enumerate (PyProof.Rows.callWith_type1 (thn (ha pos pins s σ H _ I h) fun us s1 ⟨vs,H1,I1,r1,q1⟩=>?_) hs rfl));obtain ⟨l,xs,e,hS,q⟩:=q1;subst e;cases r1 with
 | cons r rr =>
  cases rr;cases (show _=Value.ref l from r);obtain ⟨its,rv,pl,hz⟩:=I1.list hS;refine call_enumerate_list pl.isList fun h' he hit hsz hk=>?_;refine wpAny_pyIter_enum he ?_;have I2:Inv X pins σ H1 { s1 with heap:=h' }:=I1.kept (t':=s1.toks) hk;refine ⟨s1.heap.objs.size+1,[s1.heap.objs.size+1,s1.heap.objs.size],_,_,H1,rfl,I2,qZ l _ _ (Nat.succ_ne_self _),⟨⟨.none,he⟩,hit⟩,fun b hb=>?_,q⟩;rcases List.mem_cons.mp hb with z|hb
  ·rw [z];exact I1.iH (Nat.le_succ _) (I1.hok.fresh (Nat.le_succ _))
  ·rw [List.mem_singleton.mp hb];exact I1.iH (Nat.le_refl _) (I1.hok.fresh (Nat.le_refl _))
end L2
namespace L2
open PySem PySem.Spec PyProof.Rows
section
variable {σ:St} {H:Hp} {Q:VK} {D:Ends} {K:PySem.W.Frag} {t:TS} {ta tb:TE} {g:TG} {v w x y:V} {tA:TA} {a:Int}
theorem oP {l:List Nat}:Paired (Rep.is K H) (l.map fun (n:Nat)=>V.int (n:Int)) l:=by
 have q:=Paired.of_map (F:=fun (v:V) (a:Nat)=>v=.int (a:Int)) (f:=fun (n:Nat)=>V.int (n:Int)) (g:=id) (fun _=>rfl) l;rw [List.map_id] at q;exact q
theorem jI {to ti:TE} {ts:pN} {QS:St→Hp→Prop} (h:to σ H fun o H1=>ti σ H1 fun i H2=>ts o i v H2 fun H3=>QS σ H3):wm to ti ts v σ H QS:=h
theorem mF {p:Addr} {xs:List V} {j:Nat} {QH:Hp→Prop} (hp:H p=some (.lst xs)) (e:a=(j:Int)) (hj:j<xs.length) (q:QH (upd H p (.lst (xs.set j v)))):uE (.ref p) (.int a) v H QH:=by
 subst e;refine ⟨p,xs,_,j,rfl,rfl,hp,?_,q⟩;unfold ixN;rw [if_pos (by omega),if_pos (by omega)]
 rfl
def isP (vs:List V) (H:Hp) (k:V→V→Hp→Prop):Prop:=∃ v w,vs=[v,w]∧k v w H
theorem lY {i j:Nat} (h:tA σ H fun vs H1=>isP vs H1 fun v w H1=>D.nx ((σ.set i (some v)).set j (some w)) H1):vX i j tA D σ H:=h
theorem jb {k:V→V→Hp→Prop} (h:k x y H):isP [x,y] H k:=⟨x,y,rfl,h⟩
theorem g5 {R:It→Hp→Prop} (h:tA σ H fun vs H1=>sx K vs H1 R):pZ K tA σ H R:=h
theorem jS {α:Type} [Rep α] {l:List α} {ia ib:Nat} {H₀:Hp} (h:At K H₀ v l) (Pv:Nat→St→Hp→Prop) (h0:Pv 0 σ H) (hl:∀ i σ' H',Pv i σ' H'→ar H₀ H')
  (hs:∀ i c w σ' H' H'' p,l[i]?=some c→At K H₀ w c→Pv i σ' H'→H' p=none→H''=upd H' p (.tup [.int (i:Int),w])→ar H' H''→t { D with nx:=Pv (i+1),ct:=Pv (i+1),bk:=D.nx } ((σ'.set ia (some (.int (i:Int)))).set ib (some w)) H'')
  (hd:∀ σ' H',Pv l.length σ' H'→D.nx σ' H'):sx K [v] H (gg (kA K 2 (c9 (cg ia) (c9 (cg ib) j8))) t D σ):=by
 obtain ⟨p,xs,rfl,hS,hP⟩:=h;have hlen:=hP.length;refine ⟨p,xs,rfl,(hl 0 σ H h0).seq hS,fun i m σ' H'=>m=xs.length - i∧i≤xs.length∧Pv i σ' H',⟨xs.length,by simp,Nat.zero_le _,h0⟩,?_⟩
 rintro i m σ' H' ⟨rfl,hi,p0⟩;have q:=(hl i σ' H' p0).seq hS
 by_cases hlt:i<xs.length
 ·refine .inr ⟨⟨xs,xs[i],q,by simp [hlt]⟩,Pv (i+1),fun σ2 H2 p'=>⟨xs.length - (i+1),by omega,rfl,hlt,p'⟩,fun z H2 yl=>?_⟩
  obtain ⟨d,w,rfl,hd',rfl,hw⟩:=yl;have hx:=hw xs q;obtain ⟨c,hc,r⟩:=Paired.getL hP hx;refine ⟨d,[.int (i:Int),w],rfl,SqT.of ai,rfl,⟨_,_,rfl,⟨_,_,rfl,⟨rfl,?_⟩⟩⟩⟩;exact hs i c w σ' H' _ d hc r p0 hd' rfl (aD hd' _)
 ·have e:i=xs.length:=by omega
  subst e;exact .inl ⟨⟨xs,q,Nat.le_refl _⟩,hd σ' H' (by rw [hlen] at p0;exact p0)⟩
end
def ma (r:List Nat):List V:=r.map fun (n:Nat)=>V.int (n:Int)
structure Tbl (H:Hp) (d:Addr) (rows:List (List Nat)) (ps:List Addr):Prop where
 top:H d=some (.lst (ps.map V.ref))
 nd:ps.Nodup
 ap:d∉ps
 len:ps.length=rows.length
 row:∀ (i:Nat) (p:Addr) (r:List Nat),ps[i]?=some p→rows[i]?=some r→H p=some (.lst (ma r))
section
variable {H H':Hp} {d:Addr} {rows:List (List Nat)} {ps:List Addr} {K:PySem.W.Frag}
theorem Tbl.mono (s:ar H H') (h:Tbl H d rows ps):Tbl H' d rows ps:=⟨s _ _ h.top,h.nd,h.ap,h.len,fun i p r e1 e2=>s _ _ (h.row i p r e1 e2)⟩
theorem gC {α β:Type} {F:α→β→Prop}:∀ {xs:List α} {ys:List β},xs.length=ys.length→(∀ (i:Nat) (x:α) (y:β),xs[i]?=some x→ys[i]?=some y→F x y)→Paired F xs ys
 | [],[],_,_=>.nil
 | [],_ :: _,h,_=>by cases h
 | _ :: _,[],h,_=>by cases h
 | x :: xs,y :: ys,h,g=>.cons (g 0 x y rfl rfl) (gC (by simpa using h) fun i u v hu hv=>g (i+1) u v (by simpa using hu) (by simpa using hv))
theorem Tbl.at (h:Tbl H d rows ps):At K H (.ref d) rows:=by
 refine ⟨d,_,rfl,SqL.of h.top,gC (by rw [List.length_map,h.len]) fun i x r hx hr=>?_⟩
 rw [List.getElem?_map] at hx;cases e:ps[i]? with
 | none=>rw [e] at hx;cases hx
 | some p =>
  rw [e] at hx;have hx':x=V.ref p:=(Option.some.inj hx).symm;rw [hx'];exact ⟨p,_,rfl,SqL.of (h.row i p r e hr),oP⟩
theorem Tbl.set (h:Tbl H d rows ps) {i j n:Nat} {p:Addr} {r:List Nat} (e:rows[i]?=some r) (hp:ps[i]?=some p):Tbl (upd H p (.lst ((ma r).set j (.int (n:Int))))) d (rows.set i (r.set j n)) ps:=by
 have hi:i<ps.length:=(List.getElem?_eq_some_iff.mp hp).1;have mem:p∈ps:=List.mem_of_getElem? hp;refine ⟨by rw [ag (fun z=>h.ap (by rw [z];exact mem))];exact h.top,h.nd,h.ap,by rw [List.length_set];exact h.len,fun k q r' hq hr=>?_⟩
 by_cases hk:k=i
 ·subst hk;rw [hp] at hq;cases hq;rw [List.getElem?_set_self (by rw [← h.len];exact hi)] at hr
  cases hr;rw [ai];unfold ma;rw [List.map_set]
 ·rw [List.getElem?_set_ne (Ne.symm hk)] at hr;have hne:q≠p:=fun z=>hk (by
   subst z;have h1:=(List.getElem?_eq_some_iff.mp hq);have h2:=(List.getElem?_eq_some_iff.mp hp);exact (List.getElem_inj h.nd).mp (h1.2.trans h2.2.symm))
  rw [ag hne];exact h.row k q r' hq hr
end
def Wr (K:PySem.W.Frag) {α:Type} [Rep α] (t:TE) (a:α):Prop:=∀ σ H Q,(∀ v H',ar H H'→At K H' v a→Q v H')→t σ H Q
def WrA (K:PySem.W.Frag) {α:Type} [Rep α] (t:TA) (l:List α):Prop:=∀ σ H Q,(∀ vs H',ar H H'→Paired (Rep.is K H') vs l→Q vs H')→t σ H Q
section
variable {K:PySem.W.Frag} {α:Type} [Rep α] {t:TE} {tA:TA} {a:α} {l:List α}
theorem qO {n:Nat} {i:Int} (e:i=(n:Int)):Wr K (tC (.int i)) n:=fun _ H _ q=>q _ H (ar.refl _) (by rw [e];rfl)
theorem rS:WrA K pG ([]:List α):=fun _ H _ q=>q [] H (ar.refl _) .nil
theorem oh (h:Wr K t a) (hr:WrA K tA l):WrA K (jz t tA) (a :: l):=fun σ H Q q=>h σ H _ fun v H1 s1 a1=>hr σ H1 _ fun vs H2 s2 a2=>q _ H2 (s1.trans s2) (.cons (Rep.mono s2 a1) a2)
end
end L2
namespace L2
open PySem PySem.Spec PyProof.Rows
def isStar:Expr→Bool
 | .Starred ..=>true
 | _=>false
theorem aR {e:Expr} {es:List Expr} {env:Env} (h:isStar e=false):starEach (e :: es) env=(false,eval e env) :: starEach es env:=by
 cases e <;> first|rfl|cases h
theorem bP {env:Env} {pos:Pos}:∀ {es:List Expr},es.all (fun e=>!isStar e)=true→(backTo pos (starEach es env)).any (·.1)=false
 | [],_=>rfl
 | e :: es,h=>by
  rw [List.all_cons,Bool.and_eq_true] at h;rw [aR (by simpa using h.1)]
  have ih:=bP (env:=env) (pos:=pos) h.2;show (backTo pos ((false,eval e env) :: starEach es env)).any (·.1)=false;unfold backTo at ih ⊢
  simpa using ih
theorem sM {env:Env} {pos:Pos} {es:List Expr} (h:es.all (fun e=>!isStar e)=true) (hl:es.length<30):((backTo pos (starEach es env)).all (fun x=>!x.1) && (backToKw pos (keywordEach [] env)).all (fun x=>x.1.isSome)
   && decide (es.length+([]:List Keyword).length+(if ([]:List Keyword).isEmpty then 0 else 1)<30))=true:=by
 have h1:=bP (env:=env) (pos:=pos) h;have h2:(backTo pos (starEach es env)).all (fun x=>!x.1)=true:=by
  rw [List.any_eq_false] at h1;rw [List.all_eq_true];intro x hx;have:=h1 x hx
  simpa using this
 rw [h2];show (true && true && decide (es.length+0+0<30))=true
 simpa using hl
section
variable {X:Cx} {e o:Expr} {es:List Expr} {te:TE} {t:TA} {x:Str} {st:Stmt} {ps:List Str} {k:Nat} {sp:Sp} {p pos:Pos}
theorem paF (ha:PE X e te) (hr:PA X es t) (hn:isStar e=false:=by rfl):PA X (e :: es) (jz te t):=oI ha hr (aR hn)
theorem bo (d:Df X.K X.mg x st ps) (G:aK X.prog X.w X.K X.mg X.base CX0 k d.f d.fd ps sp) (hr:bg k X.A) (hg:Gl X x) (ha:PA X (e :: es) t) (hn:isStar e=false:=by rfl) (hall:es.all (fun e=>!isStar e)=true:=by rfl) (hdb:(x == ("__debug__" : Str))=false:=by decide) :
  PE X (.Call (.Name x p) (e :: es) [] pos) (l0 sp [] E0 t):=zC d G hr hg ha hdb (aR hn) (bP hall)
theorem bb {id:String} {r:List V→Hp→VK→Prop} (hc:b5 X (.builtin id) r) (hg:Gl X x) (hm:X.mg x=none) (hv:bootBuiltins x=some (.builtin id)) (ha:PA X (e :: es) t) (hn':isStar e=false:=by rfl) (hall:es.all (fun e=>!isStar e)=true:=by rfl) (hn:x ≠ "__name__":=by decide) (hdb:(x == ("__debug__" : Str))=false:=by decide) :
  PE X (.Call (.Name x p) (e :: es) [] pos) (tCB r t):=tE hc hg hm hv ha hn hdb (aR hn') (bP hall)
theorem qo {T:String} {r:List V→Hp→VK→Prop} (hc:b5 X (.type T) r) (hg:Gl X x) (hm:X.mg x=none) (hv:bootBuiltins x=some (.type T)) (ha:PA X (e :: es) t) (hn':isStar e=false:=by rfl) (hall:es.all (fun e=>!isStar e)=true:=by rfl) (hn:x ≠ "__name__":=by decide) (hdb:(x == ("__debug__" : Str))=false:=by decide) :
  PE X (.Call (.Name x p) (e :: es) [] pos) (tCB r t):=rK hc hg hm hv ha hn hdb (aR hn') (bP hall)
theorem wb (K:PySem.W.Frag) (hK:X.K=K) {T id:String} {name:Str} {r:V→List V→Hp→VK→Prop} {to:TE} {apos cpos:Pos} (pa:PlainAttrs T) (slot:Slot T name id) (hty:typeOf (.builtin id)=pure (.type "method_descriptor")) (hm:MtR X id r) (ho:PE X o to) (ha:PA X (e :: es) t)
  (hbase:attributeBase o name X.env (eval o X.env)=eval o X.env:=by rfl) (hn:isStar e=false:=by rfl) (hall:es.all (fun e=>!isStar e)=true:=by rfl) (hl:(e :: es).length<30:=by decide) (hline:(apos.endLine == cpos.line)=true:=by rfl) :
  PE X (.Call (.Attribute o name apos) (e :: es) [] cpos) (tBM K T r to t) :=
 yx K hK pa slot hty hm ho ha hbase (sM (by rw [List.all_cons,hn,hall];rfl) hl) hline (aR hn) (bP hall)
theorem fY {tg a:Expr} {ta:TA} (hg:Gl X "range") (hm:X.mg "range" = none) (ha:PA X [a] ta) (hn:isStar a=false:=by rfl):PI X tg (.Call (.Name "range" p) [a] [] pos) (qr ta):=qx hg hm ha (aR hn)
theorem iU (K:PySem.W.Frag) (hK:X.K=K) {tgs:List Expr} {kk:Nat} {tpos:Pos} {a:Expr} {ta:TA} (hg:Gl X "enumerate") (hm:X.mg "enumerate" = none) (ha:PA X [a] ta) (hn:isStar a=false:=by rfl) :
  PI X (.Tuple tgs kk tpos) (.Call (.Name "enumerate" p) [a] [] pos) (pZ K ta):=tQ K hK hg hm ha (aR hn)
end
section
variable {X:Cx} {CX:CXT} {k:Nat} {f C:Addr} {fd:FuncData} {ps:List Str} {sp:Sp} {dvs:List V} {ds:List Value} {E:XK} {x:Str} {p pos:Pos} {e:Expr} {es:List Expr} {t:TA}
theorem iS (M:Mk X.K C f) (F:aK X.prog X.w X.K X.mg X.base CX k f fd ps sp) (hr:bg (k+1) X.A) (hg:Gl X x) (hm:X.mg x=some (.ref C)) (hb:Binds X.K fd ps ds) (hd:Vals dvs ds) (hx:Passes CX X E)
  (ha:PA X (e :: es) t) (hn:isStar e=false:=by rfl) (hall:es.all (fun e=>!isStar e)=true:=by rfl) (hdb:(x == ("__debug__" : Str))=false:=by decide):PE X (.Call (.Name x p) (e :: es) [] pos) (qk C sp dvs E t) :=
 uQ M F hr hg hm hb hd hx ha hdb (aR hn) (bP hall)
end
end L2
namespace L2
open PySem PySem.Spec PyProof.Rows
section
variable {σ:St} {H H':Hp} {Q:VK} {K:PySem.W.Frag} {a b:Nat}
theorem AW {n:Nat} (h:Q (.int ((@OfNat.ofNat Nat n (instOfNatNat n):Nat):Int)) H):tC (.int (@OfNat.ofNat Int n instOfNat)) σ H Q:=h
theorem xB (q:Q (.int ((a+b:Nat):Int)) H):rI0 (fun i j=>.int (i+j)) (.int (a:Int)) (.int (b:Int)) H Q:=⟨a,b,rfl,rfl,by
 have e:(a:Int)+(b:Int)=((a+b:Nat):Int):=by omega
 dsimp only;rw [e];exact q⟩
theorem wI (h:a<18446744073709551616∨b<18446744073709551616) (q:Q (.int ((a * b:Nat):Int)) H):rI o8 (fun i j=>.int (i * j)) (.int (a:Int)) (.int (b:Int)) H Q:=⟨a,b,rfl,rfl,by
 rcases h with h|h
 ·exact .inl ⟨by omega,by omega⟩
 ·exact .inr ⟨by omega,by omega⟩,by
 have e:(a:Int) * (b:Int)=((a * b:Nat):Int):=by push_cast;rfl
 dsimp only;rw [e];exact q⟩
theorem xg (h:0<b) (q:Q (.int ((a % b:Nat):Int)) H):rI (fun _ j=>0<j) (fun i j=>.int (i % j)) (.int (a:Int)) (.int (b:Int)) H Q:=⟨a,b,rfl,rfl,by omega,by
 have e:(a:Int) % (b:Int)=((a % b:Nat):Int):=by push_cast;rfl
 dsimp only;rw [e];exact q⟩
theorem ym (h:0<b) (h2:b<1073741824) (q:Q (.int ((a / b:Nat):Int)) H):rI tw (fun i j=>.int (i / j)) (.int (a:Int)) (.int (b:Int)) H Q:=⟨a,b,rfl,rfl,⟨by omega,by omega⟩,by
 have e:(a:Int) / (b:Int)=((a / b:Nat):Int):=by push_cast;rfl
 dsimp only;rw [e];exact q⟩
theorem gk {p q:Prop} [Decidable p] [Decidable q] (h:p↔q) {R:Bool→Prop} (z:R (decide q)):R (decide p):=by
 rw [decide_eq_decide.mpr h];exact z
theorem zt (q:Q (.bl (decide (a=b))) H):rEq (.int (a:Int)) (.int (b:Int)) H Q:=jq (gk (R:=fun k=>Q (.bl k) H) (by omega) q)
theorem zd (q:Q (.bl (!decide (a=b))) H):rNe (.int (a:Int)) (.int (b:Int)) H Q:=jP (gk (R:=fun k=>Q (.bl (!k)) H) (by omega) q)
theorem yY (q:Q (.bl (decide (a<b))) H):rI0 (fun i j=>.bl (decide (i<j))) (.int (a:Int)) (.int (b:Int)) H Q:=⟨a,b,rfl,rfl,gk (R:=fun k=>Q (.bl k) H) (by omega) q⟩
theorem zk (q:Q (.bl (decide (b<a))) H):rI0 (fun i j=>.bl (decide (j<i))) (.int (a:Int)) (.int (b:Int)) H Q:=⟨a,b,rfl,rfl,gk (R:=fun k=>Q (.bl k) H) (by omega) q⟩
end
section
variable {β:Type} [Rep β] {K:PySem.W.Frag} {H H':Hp} {d:Addr} {l:List β} {y:V} {b:β} {Q:VK}
end
theorem sC {α:Type} (l:List α):cut l (some 1) none=l.drop 1:=by
 unfold cut;have e:HT.sIx l.length 0 (some 1)=min 1 l.length:=HT.vf l.length 0 1;rw [e,HT.tZ];cases l with
 | nil=>rfl
 | cons x r =>
  have:min 1 (x :: r).length=1:=by simp
  rw [this];exact List.take_of_length_le (by simp)
theorem u0 {K:PySem.W.Frag} {α:Type} [Rep α] {tA:TA} {l:List α} (h:WrA K tA l) (hz:l.length≤1000) {σ:St} {H:Hp} {Q:VK} (q:∀ d H',H d=none→ar H H'→Gr K H' d l→Q (.ref d) H'):sS tA σ H Q :=
 h σ H _ fun vs H1 s1 a1=>⟨by have:=a1.length;exact small (by omega),fun p hp=>q p _ (s1.free hp) (s1.trans (aD hp _)) ⟨vs,ai,Paired.dq a1 fun _ _ z=>Rep.mono (fun b o e=>by
  have hb:b≠p:=ao e hp;rw [i6 hb,ag hb];exact e) z⟩⟩
def since (H H':Hp):Hp:=fun a=>match H a with
 | none=>H' a
 | some _=>none
section
variable {H H' H'':Hp} {a d:Addr} {rows:List (List Nat)} {ps:List Addr} {K:PySem.W.Frag}
theorem iJ (h:H a=none):since H H' a=H' a:=by unfold since;rw [h]
theorem Tbl.since (h:Tbl H' d rows ps) (fd:H d=none) (fps:∀ p∈ps,H p=none):Tbl (since H H') d rows ps :=
 ⟨by rw [iJ fd];exact h.top,h.nd,h.ap,h.len,fun i p r e1 e2=>by rw [iJ (fps p (List.mem_of_getElem? e1))];exact h.row i p r e1 e2⟩
theorem Gr.since {l:List Nat} (h:Gr K H' d l) (fd:H d=none):At K (since H H') (.ref d) l:=by
 obtain ⟨ys,hy,hP⟩:=h;exact ⟨d,ys,rfl,SqL.of (by rw [iJ fd];exact hy),Paired.dq hP fun _ _ z=>z⟩
end
theorem tm {K:PySem.W.Frag} {H H₀:Hp} {σ:St} {g:TG} {t:TS} {D:Ends} {v:V} {α:Type} [Rep α] {l:List α} (h:At K H₀ v l) (Pv:Nat→St→Hp→Prop) (h0:Pv 0 σ H) (hl:∀ i σ' H',Pv i σ' H'→ar H₀ H')
  (hs:∀ i c w σ' H',l[i]?=some c→At K H₀ w c→Pv i σ' H'→g w σ' H' fun σ2 H2=>t { D with nx:=Pv (i+1),ct:=Pv (i+1),bk:=D.nx } σ2 H2) (hd:∀ σ' H',Pv l.length σ' H'→D.nx σ' H') :
  pL K v H (gg g t D σ):=by
 obtain ⟨p,xs,rfl,hS,hP⟩:=h;refine ⟨p,rfl,⟨xs,(hl 0 σ H h0).seq hS⟩,sL (K:=K) (a:=p) (xs:=xs) Pv h0 (fun i σ' H' _ q=>(hl i σ' H' q).seq hS) (fun i x σ' H' hx q=>?_) (fun σ' H' q=>?_)⟩
 ·obtain ⟨c,hc,r⟩:=Paired.getL hP hx;exact hs i c x σ' H' hc r q
 ·rw [hP.length] at q;exact hd σ' H' q
theorem mq {c:TT} {t:TS} {D:Ends} {σ:St} {H:Hp} (W:Nat→St→Hp→Prop) (m:Nat) (h0:W m σ H)
  (hs:∀ m σ' H',W m σ' H'→c σ' H' fun b H1=>if b=true then ∃ N:St→Hp→Prop,(∀ σ2 H2,N σ2 H2→∃ m',m' < m∧W m' σ2 H2)∧t { D with nx:=N,ct:=N,bk:=D.nx } σ' H1 else D.nx σ' H1):rJ c t D σ H:=⟨W,⟨m,h0⟩,hs⟩
end L2
namespace L2
open PySem PySem.Spec PyProof.Rows
def tL (K:PySem.W.Frag):List V→Hp→VK→Prop:=fun xs H Q=>∃ (p:Addr) (bs:List Bool),xs=[.ref p]∧SqL K H p (bs.map V.bl)∧Q (.bl (bs.any id)) H
theorem kO:∀ {bs:List Bool} {its:List Value},Vals (bs.map V.bl) its→∀ (i:Nat) (v:Value),its[i]?=some v→∃ b,bs[i]?=some b∧v=.bool b
 | [],_,.nil,i,v,e=>by simp at e
 | b :: bs,_,.cons r t,0,v,e=>by
  simp at e;subst e;exact ⟨b,rfl,r⟩
 | b :: bs,_,.cons r t,i+1,v,e=>by
  obtain ⟨c,h1,h2⟩:=kO (bs:=bs) t i v (by simpa using e)
  exact ⟨c,by simpa using h1,h2⟩
theorem oZ (bs:List Bool):((List.range bs.length).any fun i=>(bs[i]?).getD false)=bs.any id:=by
 rw [Bool.eq_iff_iff,List.any_eq_true,List.any_eq_true];constructor
 ·rintro ⟨i,hi,e⟩;have hi':=List.mem_range.mp hi;simp only [List.getElem?_eq_getElem hi',Option.getD_some] at e;exact ⟨_,List.getElem_mem hi',e⟩
 ·rintro ⟨b,hb,e⟩;obtain ⟨i,hi,rfl⟩:=List.getElem_of_mem hb;exact ⟨i,List.mem_range.mpr hi,by simp only [List.getElem?_eq_getElem hi,Option.getD_some];exact e⟩
theorem rO {X:Cx} (hc:X.calm=true):b5 X (.builtin "any") (tL X.K):=by
 intro pins s σ H xs us Q I r h;obtain ⟨p,bs,rfl,hS,q⟩:=h;obtain ⟨u,rfl,ru⟩:=vals1 r;cases (show u=Value.ref p from ru);obtain ⟨its,rv,pl,hz⟩:=I.list hS;have hl:=pl.isList;have hlen:its.length=bs.length:=by have:=rv.length;simp at this;omega
 have hlt:p<s.heap.objs.size:=by obtain ⟨_,e,_⟩:=hl;exact Heap.lt_size e
 refine call_any_walk (wpAny_pyIter_list hl ?_);refine ⟨s.heap.objs.size,[s.heap.objs.size,p],[s.heap.objs.size],its.toArray.size,_,_,fun i=>(bs[i]?).getD false,rfl,Walks.list (A:=X.A.in1) (I.ok.hd hc) _ p (Nat.ne_of_lt hlt) its.toArray,
  ⟨⟨_,Heap.get?_push_size _ rfl,rfl,rfl⟩,hl.push _⟩,fun i v s' Q' E' hP hQ=>?_,fun h' tk hk=>?_⟩
 ·obtain ⟨b,e,rfl⟩:=kO rv i v (by simpa using hP)
  simp only [e,Option.getD_some] at hQ;exact wpAny_truthy_bool hQ
 ·have e:((List.range its.toArray.size).any fun i=>(bs[i]?).getD false)=bs.any id:=by
   rw [List.size_toArray,hlen];exact oZ bs
  rw [e];exact ⟨.bl _,H,I.kept (t':=tk) (fun b x e=>hk b x (fun hm=>by rw [List.mem_singleton.mp hm] at e;exact Nat.lt_irrefl _ (Heap.lt_size e)) (Heap.get?_push_of_some _ e)),rfl,q⟩
theorem rF {X:Cx} (K:PySem.W.Frag) (hK:X.K=K) (hc:X.calm=true):b5 X (.builtin "any") (tL K):=by subst hK;exact rO hc
section
variable {σ:St} {H H':Hp} {Q:VK} {K:PySem.W.Frag} {v:V}
theorem ua {bs:List Bool} (h:At K H v bs):∃ p,v=.ref p∧SqL K H p (bs.map V.bl):=by
 obtain ⟨p,xs,rfl,hS,hP⟩:=h;refine ⟨p,rfl,?_⟩;have e:xs=bs.map V.bl:=by
  clear hS
  induction hP with
  | nil=>rfl
  | cons r _ ih=>rw [List.map_cons,← ih];exact congrArg (· :: _) r
 rw [← e];exact hS
theorem yE {bs:List Bool} (h:At K H v bs) (q:Q (.bl (bs.any id)) H):tL K [v] H Q:=by
 obtain ⟨p,rfl,hS⟩:=ua h;exact ⟨p,bs,rfl,hS,q⟩
theorem Bj {f:Int→V} {a:Int} (h:Q (f a) H):rU f (.int a) H Q:=⟨a,rfl,h⟩
end
end L2
namespace L2
open PySem PySem.Spec PyProof.Rows
end L2
namespace L2
open PySem PySem.Spec PyProof.Rows
end L2
namespace L2
open PySem PySem.Spec PyProof.Rows
def o5:Expr→Option Int
 | .Constant (.int i) _ _=>some i
 | _=>none
def l4:List Expr→Option (List Int)
 | []=>some []
 | e :: es=>match o5 e,l4 es with
  | some i,some l=>some (i :: l)
  | _,_=>none
def jD:List Int→TA
 | []=>pG
 | i :: l=>jz (tC (.int i)) (jD l)
theorem ni {X:Cx}:∀ {es:List Expr} (ns:List Int),l4 es=some ns→PA X es (jD ns)
 | [],ns,h=>by cases h;exact ae
 | e :: es,ns,h=>by
  unfold l4 at h
  split at h
  ·rename_i i l h1 h2
   cases h;cases e with
   | Constant c j pos =>
    cases c with
    | int k =>
     have hk:k=i:=by simpa [o5] using h1
     subst hk;exact oI ak (ni l h2) (aR rfl)
    | _=>simp [o5] at h1
   | _=>simp [o5] at h1
  ·cases h
@[irreducible] def nD (es:List Expr) (ns:List Int):Bool:=decide (l4 es=some ns)
theorem vI {X:Cx} {es:List Expr} (ns:List Int) (h:nD es ns=true):PA X es (jD ns):=ni ns (by unfold nD at h;exact of_decide_eq_true h)
structure IsP (p:Prop):Prop where
 out:p
theorem sO {X:Cx} {es:List Expr} (ns:List Int) (h:nD es ns=true):IsP (PA X es (jD ns)):=⟨vI ns h⟩
section
variable {K:PySem.W.Frag}
theorem og:∀ (l:List Nat),WrA K (jD (l.map fun (n:Nat)=>(n:Int))) l
 | []=>rS
 | n :: l=>oh (qO rfl) (og l)
end
theorem zT {σ:St} {H:Hp} {Q:VK} {K:PySem.W.Frag} {ta:TE} {T:String} {r:V→List V→Hp→VK→Prop} (h:ta σ H fun x H1=>tyV K T x H1∧r x [] H1 Q):sF K T r ta σ H Q:=h
end L2
namespace L2
open PySem PySem.Spec PyProof.Rows
section
variable {σ:St} {H H':Hp} {Q:VK} {K:PySem.W.Frag} {v:V}
end
end L2
namespace L2
open PySem PySem.Spec PyProof.Rows
section
variable {X:Cx} {pins:List (Addr×Obj)} {σ:St} {H:Hp} {s:Shared} {A:Around} {α β:Type} [Rep α] [DecidableEq α] [aS α] [Rep β] [DecidableEq β] [aS β]
theorem vk {p q:Addr} {x1 x2 y1 y2:V} {a c:α} {b d:β} (I:Inv X pins σ H s) (hp:SqT X.K H p [x1,x2]) (h1:At X.K H x1 a) (h2:At X.K H x2 b) (hq:SqT X.K H q [y1,y2]) (h3:At X.K H y1 c) (h4:At X.K H y2 d)
  (hu:A.units+(max (aS.depth α) (aS.depth β)+1)<cLine):SeqAt.RcAt A s (.ref p) (.ref q) (decide ((a,b)=(c,d))):=by
 obtain ⟨its,v1,t1,_⟩:=I.tuple hp;obtain ⟨its2,v2,t2,_⟩:=I.tuple hq;obtain ⟨u1,u2,rfl,r1,r2⟩:=v1.two;obtain ⟨w1,w2,rfl,r3,r4⟩:=v2.two;have e1:=aS.eq (A:=A.in1) I h1 h3 r1 r3 (by show A.units+1+_<_;omega)
 have e2:=aS.eq (A:=A.in1) I h2 h4 r2 r4 (by show A.units+1+_<_;omega)
 have z:=SeqAt.RcAt.tuples (A:=A) (e:=fun j=>if j=0 then decide (a=c) else decide (b=d)) t1 t2 (by omega) fun j hj1 hj2=>by
  have hj:j<2:=by simpa using hj1
  match j,hj with
  | 0,_=>exact e1
  | 1,_=>exact e2
 have ek:((List.range (min (#[u1,u2]:Array Value).size (#[w1,w2]:Array Value).size)).all (fun j=>if j=0 then decide (a=c) else decide (b=d)) && (#[u1,u2]:Array Value).size == (#[w1,w2]:Array Value).size)=decide ((a,b)=(c,d)):=by
  have:(List.range (min (#[u1,u2]:Array Value).size (#[w1,w2]:Array Value).size))=[0,1]:=rfl;rw [this,Bool.eq_iff_iff];simp
 rw [← ek];exact z
instance:aS (α×β) where
 depth:=max (aS.depth α) (aS.depth β)+1
 inj:=fun {X pins σ H s x a b} I h h'=>by
  obtain ⟨p,x1,x2,e,h1,h2,h3⟩:=h;obtain ⟨q,y1,y2,e',h4,h5,h6⟩:=h';subst e;cases e';have z:=I.lh h1 h4;cases z;exact Prod.ext (aS.inj I h2 h5) (aS.inj I h3 h6)
 eq:=fun {X pins σ H s A x y u v a b} I hx hy ru rv hu=>by
  obtain ⟨p,x1,x2,e,h1,h2,h3⟩:=hx;obtain ⟨q,y1,y2,e',h4,h5,h6⟩:=hy;subst e e';cases (show u=Value.ref p from ru);cases (show v=Value.ref q from rv)
  by_cases hpq:p=q
  ·subst hpq;have z:=I.lh h1 h4;cases z;have e1:a=b:=Prod.ext (aS.inj I h2 h5) (aS.inj I h3 h6);rw [decide_eq_true e1];exact SeqAt.EqAt.same _
  ·exact SeqAt.EqAt.of_refs hpq (vk I h1 h2 h3 h4 h5 h6 hu)
end
section
variable {σ:St} {H:Hp} {Q:VK} {K:PySem.W.Frag}
theorem lS {p:Addr} {xs:List V} {i:Nat} {x:V} (h:H p=some (.tup xs)) (hx:xs[i]?=some x) (q:Q x H):tP K (.ref p) (.int (i:Int)) H Q:=⟨p,xs,_,x,rfl,rfl,SqT.of h,oQ hx,q⟩
end
end L2
namespace L2
open PySem PySem.Spec PyProof.Rows
end L2
namespace L2
open PySem PySem.Spec PyProof.Rows
theorem vZ {X:Cx} (K:PySem.W.Frag) (hK:X.K=K) {pos p1 p2:Pos} {i j k:Nat} {x y:Str} (hc:X.calm=true) (hN:X.N.Nodup) (hi:X.N[i]?=some x) (hx:Loc X.env.scope x) (hj:X.N[j]?=some y) (hy:Loc X.env.scope y)
  (hf:X.fn x=true∨X.env.scope.names.lookup x=some .local:=by first|exact .inl rfl|exact .inr rfl|assumption) (hf':X.fn y=true∨X.env.scope.names.lookup y=some .local:=by first|exact .inl rfl|exact .inr rfl|assumption) :
  PG X (.Tuple [.Name x p1,.Name y p2] k pos) (kA K 2 (c9 (cg i) (c9 (cg j) j8))):=by
 subst hK;exact gU hc (b2 (bf hN hi hx hf) (b2 (bf hN hj hy hf') fB))
end L2
namespace L2
open PySem PySem.Spec PyProof.Rows
section
variable {X:Cx} {pins:List (Addr×Obj)} {σ:St} {H:Hp} {s:Shared} {h':Heap} {t':Nat} {fp:List Addr}
theorem Inv.rR (I:Inv X pins σ H s) (hf:∀ b∈fp,eQ X pins H b) (k:∀ b ob,b∉fp→s.heap.get? b=some ob→h'.get? b=some ob):Inv X pins σ H { s with heap:=h',toks:=t' }:=by
 have nofp:∀ b u,H b=some u→b∉fp:=fun b u e hb=>by rw [(hf b hb).1] at e;cases e
 refine I.step (g':=s.gens) (d':=s.drawn) (ch:=fp) (fun b hb=>let ⟨_,f1,_,f3,f4,f5⟩:=hf b hb;⟨f3,f1,f4,f5⟩) (fun b ob _ _ hc e _=>k b ob hc e) (fun b ob _ _ hc e _=>⟨ob.slots,k b ob hc e⟩)
  (fun _ _ _ _ n=>n) (fun b ob hc e=>⟨ob,k b ob hc e⟩) (fun _ _ e=>e) (fun _ _ _ e=>e) (fun b ps e=>⟨#[],by rw [e];simp⟩) (fun m hm=>?_) (fun b u e=>?_) I.bare
 ·obtain ⟨ob,es,ep,e,r⟩:=hm;exact ⟨ob,es,ep,k _ ob (fun hb=>(hf _ hb).2.1 rfl) e,r⟩
 ·refine (I.hok b u e).iC (fun c v hc q=>k c v ?_ q) (fun _ q=>q) fun _ _ q=>q;rcases hc with z|z
  ·rw [z];exact nofp b u e
  ·exact nofp c _ z
end
theorem uS {a b:Nat} (h:¬ a=b):@Ne Addr a b:=h
theorem q5 (n l l':Nat) (h1:l<n) (h2:l' < n):ZipApart (n+4) (n+2) (n+3) n (n+1) l l':=by
 constructor <;> (refine uS ?_;omega)
def Itz (K:PySem.W.Frag) (a b:Addr):It :=
 ⟨fun i H=>∃ xs x ys y,SqL K H a xs∧xs[i]?=some x∧SqL K H b ys∧ys[i]?=some y,fun i H v H'=>∃ p x y,v=.ref p∧H p=none∧H'=upd H p (.tup [x,y])∧(∀ xs,SqL K H a xs→xs[i]?=some x)∧∀ ys,SqL K H b ys→ys[i]?=some y,
  fun i H=>∃ xs ys,SqL K H a xs∧SqL K H b ys∧(xs.length≤i∨ys.length≤i)⟩
theorem su {P:Program} {w:World} {K:PySem.W.Frag} {es:List Expr} {kk:Nat} {tpos:Pos} (a b z TI TO i1 i2:Addr) (D:ZipApart z TI TO i1 i2 a b) :
  Turn P w K (.Tuple es kk tpos) (Itz K a b) [z,TI,TO,i1,i2] z (fun i h=>IsZip h z TI TO .none∧IsPair h TI (.ref i1) (.ref i2)∧(∃ c d,IsPair h TO c d)∧h.IsListIter i1 a i∧h.IsListIter i2 b i) where
 mem:=by simp
 obj:=fun i h st c hc=>by
  obtain ⟨hz,hTI,⟨u,v,hTO⟩,⟨o1,e1,_,d1⟩,o2,e2,_,d2⟩:=st;have hc':c=z∨c=TI∨c=TO∨c=i1∨c=i2:=by simpa using hc
  rcases hc' with rfl|rfl|rfl|rfl|rfl
  ·exact ⟨_,hz,fun v y=>by
    have y':Data.fields _=Data.cell v:=y;cases y'⟩
  ·exact ⟨_,hTI,fun v y=>by
    have y':Data.seq _ _=Data.cell v:=y;cases y'⟩
  ·exact ⟨_,hTO,fun v y=>by
    have y':Data.seq _ _=Data.cell v:=y;cases y'⟩
  ·exact ⟨o1,e1,fun v y=>by rw [d1] at y;cases y⟩
  ·exact ⟨o2,e2,fun v y=>by rw [d2] at y;cases y⟩
 keep:=fun i h h' st k=>by
  obtain ⟨hz,hTI,⟨u,v,hTO⟩,h1,h2⟩:=st;exact ⟨k z (by simp) _ hz,k TI (by simp) _ hTI,⟨u,v,k TO (by simp) _ hTO⟩,h1.at fun o e=>k i1 (by simp) o e,h2.at fun o e=>k i2 (by simp) o e⟩
 item:=by
  intro X hP hw hK hc i pins s σ H E I hf st hg;subst hP hw hK;obtain ⟨xs,x,ys,y,hq,hx,hq2,hy⟩:=hg;obtain ⟨its,rv,p,_⟩:=I.list hq;obtain ⟨its2,rv2,p2,_⟩:=I.list hq2;obtain ⟨u,hu,ru⟩:=rv.get hx;obtain ⟨u2,hu2,ru2⟩:=rv2.get hy;obtain ⟨hz,hTI,⟨c,d,hTO⟩,h1,h2⟩:=st;have lz:z<s.heap.objs.size:=Heap.lt_size hz;have lTI:TI<s.heap.objs.size:=Heap.lt_size hTI;have lTO:TO<s.heap.objs.size:=Heap.lt_size hTO;have l1:i1<s.heap.objs.size:=by obtain ⟨_,q,_⟩:=h1;exact Heap.lt_size q
  have l2:i2<s.heap.objs.size:=by obtain ⟨_,q,_⟩:=h2;exact Heap.lt_size q
  refine wpAny_pyNext_zip_item D hz hTI hTO h1 h2 p.isList p2.isList (x:=u) (y:=u2) (by simpa using hu) (by simpa using hu2) fun h' a1 a2 a3 a4 a5 a6 hk=>?_
  refine ⟨_,rfl,?_⟩;have I1:Inv X pins σ (upd H s.heap.objs.size (.tup [x,y])) { s with heap:=h',toks:=s.toks } :=
   I.kS hf (fun b ob hb q=>hk b ob (fun z=>hb (by simp [z])) (fun z=>hb (by simp [z])) (fun z=>hb (by simp [z])) (fun z=>hb (by simp [z])) q) (Nat.le_refl _) ⟨by show 2≤sizeLine;decide,[u,u2],.cons ru (.cons ru2 .nil),⟨_,a5,rfl,_,rfl⟩⟩
  have fE:=hf z (by simp)
  refine wpAny_letOwnedTupleGo_zip a1 fun h2' hz2 hs2=>?_;have nE:(upd H s.heap.objs.size (.tup [x,y])) z=none:=by rw [ag (Nat.ne_of_lt lz)];exact fE.1
  refine ⟨.ref s.heap.objs.size,_,I1.turned (t':=s.toks) (fun b ob hb q=>(hs2.2 b hb).trans q) nE fE.2.1 fE.2.2.2.1 fE.2.2.2.2.1 fE.2.2.2.2.2,rfl,⟨_,x,y,rfl,I.hok.fresh (Nat.le_refl _),rfl,fun zs hz=>by rw [I.dG hz hq];exact hx,fun zs hz=>by rw [I.dG hz hq2];exact hy⟩,?_,fun b hb=>?_⟩
  ·exact ⟨hz2,hs2.extBut _ _ D.TIz (hk _ _ D.TIz D.TITO D.TIi1 D.TIi2 hTI),⟨_,_,hs2.extBut _ _ D.TOz a2⟩,a3.extBut hs2.extBut D.i1z,a4.extBut hs2.extBut D.i2z⟩
  ·have hb2:b=z∨b=TI∨b=TO∨b=i1∨b=i2:=by simpa using hb
   have hb':b<s.heap.objs.size:=by rcases hb2 with rfl|rfl|rfl|rfl|rfl <;> assumption
   rw [ag (Nat.ne_of_lt hb')];exact (hf b hb).1
 done:=by
  intro X hP hw hK hc i pins s σ H E I hf st hg;subst hP hw hK;obtain ⟨xs,ys,hq,hq2,hx⟩:=hg;obtain ⟨its,rv,p,_⟩:=I.list hq;obtain ⟨its2,rv2,p2,_⟩:=I.list hq2;obtain ⟨hz,hTI,⟨c,d,hTO⟩,h1,h2⟩:=st;have e1:=rv.length;have e2:=rv2.length;refine wpAny_pyNext_zip_end (I.ok.hd hc) D hz hTI hTO h1 h2 p.isList p2.isList (by
   rcases hx with z|z
   ·exact .inl (by simp;omega)
   ·exact .inr (by simp;omega)) fun h' hk=>⟨rfl,I.rR (t':=s.toks) hf fun b ob hb q=>hk b ob (fun z=>hb (by simp [z])) (fun z=>hb (by simp [z])) (fun z=>hb (by simp [z])) (fun z=>hb (by simp [z])) q⟩
 self:=fun _ _ _ _ _ st h=>wpAny_pyIter_zip st.1 h
def oU (K:PySem.W.Frag) (vs:List V) (H:Hp) (R:It→Hp→Prop):Prop:=∃ a b xs ys,vs=[.ref a,.ref b]∧SqL K H a xs∧SqL K H b ys∧R (Itz K a b) H
def xZ (K:PySem.W.Frag) (ta:TA):TI:=fun σ H R=>ta σ H fun vs H1=>oU K vs H1 R
theorem zG {K:PySem.W.Frag} {ta:TA} {σ:St} {H:Hp} {R:It→Hp→Prop} (h:ta σ H fun vs H1=>oU K vs H1 R):xZ K ta σ H R:=h
theorem vF {X:Cx} (K:PySem.W.Frag) (hK:X.K=K) {tgs:List Expr} {kk:Nat} {tpos:Pos} {a b:Expr} {ta:TA} {p pos:Pos} (hg:Gl X "zip") (hm:X.mg "zip" = none) (ha:PA X [a,b] ta) (hn:isStar a=false:=by rfl) (hn2:isStar b=false:=by rfl) :
  PI X (.Tuple tgs kk tpos) (.Call (.Name "zip" p) [a,b] [] pos) (xZ K ta):=by
 subst hK;intro pins s σ H R I h;refine Call_ (dg I hg hm boot_zip (PyProof.Rows.callWith_type1 (thn (ha pos pins s σ H _ I h) fun us s1 ⟨vs,H1,I1,r1,q1⟩=>?_) (aR hn) (bP (by simp [hn2]))))
 obtain ⟨l,l',xs,ys,e,hS,hS2,q⟩:=q1;subst e;cases r1 with
 | cons r rr =>
  cases rr with
  | cons r2 rr2 =>
   cases rr2;cases (show _=Value.ref l from r);cases (show _=Value.ref l' from r2);obtain ⟨its,rv,pl,_⟩:=I1.list hS;obtain ⟨its2,rv2,pl2,_⟩:=I1.list hS2;have lt1:l<s1.heap.objs.size:=by obtain ⟨_,z,_⟩:=pl.isList;exact Heap.lt_size z
   have lt2:l' < s1.heap.objs.size:=by obtain ⟨_,z,_⟩:=pl2.isList;exact Heap.lt_size z
   refine call_zip_2 pl.isList pl2.isList fun h' hz hTI hTO hi1 hi2 hsz hk=>?_;refine wpAny_pyIter_zip hz ?_;have I2:Inv X pins σ H1 { s1 with heap:=h' }:=I1.kept (t':=s1.toks) hk;have D:ZipApart (s1.heap.objs.size+4) (s1.heap.objs.size+2) (s1.heap.objs.size+3) s1.heap.objs.size (s1.heap.objs.size+1) l l':=by
    exact q5 _ _ _ lt1 lt2
   refine ⟨s1.heap.objs.size+4,[s1.heap.objs.size+4,s1.heap.objs.size+2,s1.heap.objs.size+3,s1.heap.objs.size,s1.heap.objs.size+1],_,_,H1,rfl,I2,su l l' _ _ _ _ _ D,⟨hz,hTI,⟨_,_,hTO⟩,hi1,hi2⟩,fun b hb=>?_,q⟩;have hb2:b=s1.heap.objs.size+4∨b=s1.heap.objs.size+2∨b=s1.heap.objs.size+3∨b=s1.heap.objs.size∨b=s1.heap.objs.size+1:=by simpa using hb
   have hb':s1.heap.objs.size≤b:=by rcases hb2 with rfl|rfl|rfl|rfl|rfl <;> omega
   exact I1.iH hb' (I1.hok.fresh hb')
end L2
namespace L2
open PySem PySem.Spec PyProof.Rows
section
variable {prog:Program} {w:World} {A:Around} {E:Value→Shared→Prop}
variable {s:Shared}
end
section
variable {X:Cx} {pos:Pos}
end
end L2
namespace L2
open PySem PySem.Spec PyProof.Rows
end L2
namespace L2
open PySem PySem.Spec PyProof.Rows
structure nt (K:PySem.W.Frag) (x qual:Str) (st:Stmt) (f:Addr) (fd:FuncData):Prop where
 ex:∃ (oc:Value) (od:Option Addr) (D:Addr) (kV doc pm:Value) (an:Option Addr) (cdv ct:Value) (osl:Array (Option Value)) (dc:Value) (dd:Option Addr) (n:Nat) (dsl:Array (Option Value)),
  fd=PySem.W.fnOf x qual (bu st) (a9 st) (aj st) (.ref D) kV doc pm an cdv ct∧K.lookup f=some ⟨oc,od,.func fd,osl⟩∧PySem.W.codeIn K cdv qual=true∧K.lookup D=some ⟨dc,dd,.seq #[.none] n,dsl⟩
 kp:PySem.W.keepIn K (.ref f)=true
section
variable {P:Program} {w:World} {K:PySem.W.Frag} {mg:Str→Option Value} {base:Heap} {x qual:Str} {st:Stmt} {f:Addr} {fd:FuncData} {ps:List Str}
theorem nt.ok {N:List Str} {k:Nat} {sp:Sp} (F:nt K x qual st f fd) (S:aH N ps (aj st)) (len:∀ vs H Q E,sp vs H Q E→vs.length=ps.length)
  (hbody:∀ (cdv:Value) (A:Around) (outer:List Env) (s:Shared) (H:Hp) (vs:List V) (Q:VK) (E:XK),bg k (A.deeper (envOfC qual (aj st) s.heap.objs.size f cdv))→sp vs H Q E →
   ∃ t,PSs (gb CX0 P w K mg base N qual (aj st) f cdv A outer s H E).nox (a9 st) t∧t { nx:=fun _ H'=>Q .non H',rt:=Q } (start N vs) H):aK P w K mg base CX0 (k+1) f fd ps sp:=by
 obtain ⟨oc,od,D,kV,doc,pm,an,cdv,ct,osl,dc,dd,n,dsl,rfl,lk,hcd,_⟩:=F.ex;refine uz lk hcd S len fun A outer s H vs Q E hr hsp=>?_;obtain ⟨t,h,q⟩:=hbody cdv A outer s H vs Q E hr hsp;exact ⟨t,h.nox,q⟩
theorem nt.to {s:Shared} {args:Args} {bs:List (Str×Value)} (F:nt K x qual st f fd) (KI:K.In s.heap)
  (h:∀ (D:Addr) (kV doc pm:Value) (an:Option Addr) (cdv ct:Value),∃ k:Option (Array Value)→Sem (List (Str×Value)),bindArgs (PySem.W.fnOf x qual (bu st) (a9 st) (aj st) (.ref D) kV doc pm an cdv ct) args=seqItems? (.ref D) >>= k∧k (some #[.none])=pure bs):BindsTo s fd args bs:=by
 obtain ⟨oc,od,D,kV,doc,pm,an,cdv,ct,osl,dc,dd,n,dsl,rfl,lk,hcd,dl⟩:=F.ex;obtain ⟨k,h1,h2⟩:=h D kV doc pm an cdv ct;exact BindsTo.of_defaults (fd:=PySem.W.fnOf x qual (bu st) (a9 st) (aj st) (.ref D) kV doc pm an cdv ct) (T:=D) rfl (KI _ _ dl) rfl h1 h2
end
def byName {α:Type} (k:Nat) (us ws:List α):List α:=if us.length=k∧ws.length=1 then us++ws else []
structure DfD (K:PySem.W.Frag) (mg:Str→Option Value) (x:Str) (st:Stmt) (ps:List Str) (y:Str) (k:Nat) where
 f:Addr
 fd:FuncData
 fn:nt K x x st f fd
 bd:Binds K fd ps []
 bn:Binds K fd ps [.none]
 bk:xD K fd ps [y] (byName k) (byName k)
 nm:mg x=some (.ref f)
theorem DfD.ok {P:Program} {w:World} {K:PySem.W.Frag} {mg:Str→Option Value} {base:Heap} {x y:Str} {st:Stmt} {N ps:List Str} {k j:Nat} {sp:Sp} (d:DfD K mg x st ps y j) (S:aH N ps (aj st)) (len:∀ vs H Q E,sp vs H Q E→vs.length=ps.length)
  (hbody:∀ (cdv:Value) (A:Around) (outer:List Env) (s:Shared) (H:Hp) (vs:List V) (Q:VK) (E:XK),bg k (A.deeper (envOfC x (aj st) s.heap.objs.size d.f cdv))→sp vs H Q E →
   ∃ t,PSs (gb CX0 P w K mg base N x (aj st) d.f cdv A outer s H E).nox (a9 st) t∧t { nx:=fun _ H'=>Q .non H',rt:=Q } (start N vs) H):aK P w K mg base CX0 (k+1) d.f d.fd ps sp :=
 d.fn.ok S len hbody
section
variable {X:Cx} {x y:Str} {st:Stmt} {ps:List Str} {k j:Nat} {sp:Sp} {p pos kpos:Pos} {e a:Expr} {es:List Expr} {t:TA} {te:TE}
end
end L2
set_option Elab.async false
set_option linter.all false
set_option maxRecDepth 100000
namespace L2
open PySem PySem.Spec PyProof.Rows
end L2
namespace L2
open PySem PySem.Spec PyProof.Rows
section
variable (P:Program) (w:World)
end
section
variable {P:Program} {w:World} {H H':Hp} {h h':Heap} {a:Addr} {o:HO}
end
section
variable {P:Program} {w:World} {H:Hp} {h h':Heap} {x e:Addr} {o':HO}
end
section
variable {fs fs' ex ex':List Addr} {H H1 H2:Hp} {h h1 h2 h':Heap} {a x e:Addr} {o:HO}
end
end L2
namespace L2
open PySem PySem.Spec PyProof.Rows
section
variable {X:Cx} {pins:List (Addr×Obj)} {σ:List (Option V)} {H H':Hp} {s:Shared} {h':Heap}
end
end L2
namespace L2
open PySem PySem.Spec PyProof.Rows
section
variable {X:Cx}
variable {a b:Expr} {ta tb:TE} {pos:Pos}
variable {tA tB':TT} {rest:List Expr}
end
end L2
namespace L2
open PySem PySem.Spec PyProof.Rows
section
variable {X:Cx} {pins:List (Addr×Obj)} {σ:St} {H:Hp} {s:Shared} {a:Addr} {xs ys:List V}
end
section
variable {X:Cx} {pins:List (Addr×Obj)} {σ:St} {H:Hp} {s:Shared} {E:Value→Shared→Prop}
end
section
variable {X:Cx} {st:Stmt} {rest:List Stmt} {t u:TS} {e:Expr} {te:TE} {pos:Pos}
end
section
variable {X:Cx} {pos:Pos}
end
section
variable {X:Cx} {pos:Pos}
end
end L2
namespace L2
open PySem PySem.Spec PyProof.Rows
section
variable {X:Cx} {tg:Expr}
end
end L2
namespace L2
open PySem PySem.Spec PyProof.Rows
section
variable {X:Cx} {a b c:Expr} {ta tb tc:TE} {pos:Pos}
end
section
variable {X:Cx} {a b c:Expr} {ta tb tc:TE} {pos:Pos}
end
end L2
namespace L2
open PySem PySem.Spec PyProof.Rows
section
variable {prog:Program} {w:World} {A:Around} {E:Value→Shared→Prop} {s:Shared} {K:PySem.W.Frag} {x dx C f:Addr} {mA:Str→Option Value} {name:Str} {v:Value}
end
section
variable {P:Program} {w:World} {H H':Hp} {h h':Heap} {a C dx:Addr} {fs fs':List (Str×V)}
end
section
variable {X:Cx} {pins:List (Addr×Obj)} {σ:St} {H:Hp} {s:Shared} {a C dx:Addr} {fs:List (Str×V)} {f:Str} {v:V} {A:Around} {E:Value→Shared→Prop}
end
section
variable {X:Cx} {o e value:Expr} {f:Str} {pos pos' tpos:Pos} {ta tv:TE}
end
section
variable {X:Cx} {pins:List (Addr×Obj)} {σ:St} {H:Hp} {s:Shared} {A:Around} {E:Value→Shared→Prop} {Q:Value→Shared→Prop} {c:Value} {b:Bool}
end
end L2
namespace L2
open PySem PySem.Spec PyProof.Rows
section
variable {X:Cx} {e:Expr} {es:List Expr} {te:TE} {t:TA} {pos:Pos}
end
section
variable {X:Cx} {pins:List (Addr×Obj)} {σ:St} {H:Hp} {s s':Shared}
end
section
variable {X:Cx} {CX:CXT} {k:Nat} {f C:Addr} {fd:FuncData} {ps:List Str} {sp:Sp} {dvs:List V} {ds:List Value} {E:XK} {x m:Str} {p pos apos:Pos} {e o:Expr} {es:List Expr} {ta:TE} {t:TA}
end
section
variable {X:Cx} {CX:CXT} {k:Nat} {f C:Addr} {fd:FuncData} {ps ks:List Str} {sp:Sp} {E:XK} {x m:Str} {p pos apos kpos:Pos} {e o:Expr} {es:List Expr} {kws:List Keyword} {te ta:TE} {t tk:TA} {nm:Option Str}
variable {g:List Value→List Value→List Value} {gV:List V→List V→List V}
end
end L2
namespace L2
open PySem PySem.Spec PyProof.Rows
section
variable {X:Cx} {x:Str} {p pos:Pos} {e:Expr} {es:List Expr} {t:TA} {id T:String} {r:List V→Hp→VK→Prop}
end
end L2
namespace L2
open PySem PySem.Spec PyProof.Rows
section
variable {κ:Type} [DecidableEq κ]
def cb (kvs:List (κ×V)) (k:κ):Option V:=(kvs.find? fun kv=>decide (kv.1=k)).map (·.2)
def putK (kvs:List (κ×V)) (k:κ) (v:V):List (κ×V) :=
 if (kvs.any fun kv=>decide (kv.1=k))=true then kvs.map (fun kv=>if kv.1=k then (kv.1,v) else kv) else kvs++[(k,v)]
theorem gm {p:κ×V} {r:List (κ×V)} {k:κ} (e:p.1=k):cb (p :: r) k=some p.2:=by simp [cb,List.find?_cons,e]
theorem eW {p:κ×V} {r:List (κ×V)} {k:κ} (e:¬ p.1=k):cb (p :: r) k=cb r k:=by simp [cb,List.find?_cons,e]
theorem iE (k:κ):∀ kvs:List (κ×V),(kvs.any fun kv=>decide (kv.1=k))=(cb kvs k).isSome
 | []=>rfl
 | p :: r=>by
  rw [List.any_cons]
  by_cases e:p.1=k
  ·simp only [gm e,decide_eq_true e,Bool.true_or,Option.isSome_some]
  ·rw [eW e,decide_eq_false e,Bool.false_or];exact iE k r
theorem iu (kvs:List (κ×V)) (k:κ) (v:V):(putK kvs k v).length≤kvs.length+1:=by
 unfold putK
 split
 ·rw [List.length_map];omega
 ·rw [List.length_append,List.length_cons,List.length_nil];omega
theorem tK {kvs:List (κ×V)} {k:κ} (v:V) (h:cb kvs k=none):putK kvs k v=kvs++[(k,v)]:=by
 unfold putK;rw [iE,h];exact if_neg (by decide)
theorem cc.qA {o:Option V} {u:Option Value} (r:cc o u):o.isSome=u.isSome:=by
 cases o with
 | none=>cases u with
  | none=>rfl
  | some _=>exact (show False from r).elim
 | some _=>cases u with
  | none=>exact (show False from r).elim
  | some _=>rfl
theorem cc.getD {o:Option V} {u:Option Value} {d:V} {d':Value} (r:cc o u) (rd:RelV d d'):RelV (o.getD d) (u.getD d'):=by
 cases o with
 | none=>cases u with
  | none=>exact rd
  | some _=>exact (show False from r).elim
 | some _=>cases u with
  | none=>exact (show False from r).elim
  | some _=>exact r
theorem KV.val {kvs:List (κ×V)} {vs:List (κ×Value)} (r:KV kvs vs) (k:κ):cc (cb kvs k) (valueAt vs k):=by
 unfold KV at r
 induction r with
 | nil=>exact True.intro
 | @cons p q ps qs h t ih =>
  obtain ⟨h1,h2⟩:=h
  by_cases e:p.1=k
  ·have e':q.1=k:=h1.symm.trans e;have b:valueAt (q :: qs) k=some q.2:=by simp [valueAt,List.find?_cons,e']
   rw [gm e,b];exact h2
  ·have e':¬ q.1=k:=fun z=>e (h1.trans z);have b:valueAt (q :: qs) k=valueAt qs k:=by simp [valueAt,List.find?_cons,e']
   rw [eW e,b];exact ih
theorem KV.any {kvs:List (κ×V)} {vs:List (κ×Value)} (r:KV kvs vs) (k:κ):(kvs.any fun kv=>decide (kv.1=k))=vs.any fun kv=>decide (kv.1=k):=by
 unfold KV at r
 induction r with
 | nil=>rfl
 | cons h t ih=>rw [List.any_cons,List.any_cons,ih,h.1]
theorem KV.sW {kvs:List (κ×V)} {vs:List (κ×Value)} (r:KV kvs vs) (k:κ) {y:V} {u:Value} (ry:RelV y u) :
  KV (kvs.map fun kv=>if kv.1=k then (kv.1,y) else kv) (vs.map fun kv=>if kv.1=k then (kv.1,u) else kv):=by
 unfold KV at r ⊢
 induction r with
 | nil=>exact .nil
 | @cons p q ps qs h t ih =>
  rw [List.map_cons,List.map_cons];refine .cons ?_ ih;obtain ⟨h1,h2⟩:=h
  by_cases e:p.1=k
  ·rw [if_pos e,if_pos (h1.symm.trans e)];exact ⟨h1,ry⟩
  ·rw [if_neg e,if_neg (fun z=>e (h1.trans z))];exact ⟨h1,h2⟩
theorem KV.put {kvs:List (κ×V)} {vs:List (κ×Value)} (r:KV kvs vs) (k:κ) {y:V} {u:Value} (ry:RelV y u):KV (putK kvs k y) (stored vs k u):=by
 unfold putK stored;rw [r.any k]
 by_cases e:(vs.any fun kv=>decide (kv.1=k))=true
 ·rw [if_pos e,if_pos e];exact r.sW k ry
 ·rw [if_neg e,if_neg e];exact Paired.snoc r ⟨rfl,ry⟩
theorem KV.keys {kvs:List (κ×V)} {vs:List (κ×Value)} (r:KV kvs vs):kvs.map (·.1)=vs.map (·.1):=by
 unfold KV at r
 induction r with
 | nil=>rfl
 | cons h t ih=>rw [List.map_cons,List.map_cons,ih,h.1]
theorem KV.length {kvs:List (κ×V)} {vs:List (κ×Value)} (r:KV kvs vs):kvs.length=vs.length:=Paired.length r
end
theorem l9 {P:Program} {w:World} {k:Key} {u:Value} (r:RelV (kV k) u):(bA P w).is k u=true:=by
 cases k with
 | inl i=>obtain ⟨t,e⟩:=(show ∃ t,u=Value.int i t from r);subst e;exact nQ P w i t
 | inr x=>obtain ⟨t,e⟩:=(show ∃ t,u=Value.str x t from r);subst e;exact nZ P w x t
theorem lx {P:Program} {w:World}:∀ {ks:List Key} {us:List Value},Vals (ks.map kV) us→ItemsAre (bA P w) ks us
 | [],_,r=>by rw [List.map_nil] at r;cases r;exact .nil
 | k :: ks,_,r=>by
  rw [List.map_cons] at r;cases r with
  | cons h t=>exact .cons (l9 h) (lx t)
abbrev KT (H:Hp):List (List Key×V)→List (List Key×Addr×Value)→Prop:=Paired fun p q=>p.1=q.1∧H q.2.1=some (.tup (p.1.map kV))∧RelV p.2 q.2.2
theorem KT.val {H:Hp} {kvs:List (List Key×V)} {xs:List (List Key×Addr×Value)} (r:KT H kvs xs) (k:List Key):cc (cb kvs k) ((atKey xs k).map (·.2)):=by
 induction r with
 | nil=>exact True.intro
 | @cons p q ps qs h t ih =>
  obtain ⟨h1,_,h2⟩:=h
  by_cases e:p.1=k
  ·have e':q.1=k:=h1.symm.trans e;have b:atKey (q :: qs) k=some q.2:=by simp [atKey,List.find?_cons,e']
   rw [gm e,b];exact h2
  ·have e':¬ q.1=k:=fun z=>e (h1.trans z);have b:atKey (q :: qs) k=atKey qs k:=by simp [atKey,List.find?_cons,e']
   rw [eW e,b];exact ih
theorem KT.sW {H:Hp} {kvs:List (List Key×V)} {xs:List (List Key×Addr×Value)} (r:KT H kvs xs) (k:List Key) {y:V} {u:Value} (ry:RelV y u) :
  KT H (kvs.map fun kv=>if kv.1=k then (kv.1,y) else kv) (xs.map (putAt k u)):=by
 induction r with
 | nil=>exact .nil
 | @cons p q ps qs h t ih =>
  rw [List.map_cons,List.map_cons];refine .cons ?_ ih;obtain ⟨h1,h2,h3⟩:=h;unfold putAt
  by_cases e:p.1=k
  ·rw [if_pos e,if_pos (h1.symm.trans e)];exact ⟨h1,h2,ry⟩
  ·rw [if_neg e,if_neg (fun z=>e (h1.trans z))];exact ⟨h1,h2,h3⟩
theorem KT.put {H:Hp} {kvs:List (List Key×V)} {xs:List (List Key×Addr×Value)} (r:KT H kvs xs) (k:List Key) {b:Addr} {y:V} {u:Value} (hb:H b=some (.tup (k.map kV))) (ry:RelV y u) :
  KT H (putK kvs k y) (storedH xs k b u):=by
 have e:(kvs.any fun kv=>decide (kv.1=k))=(atKey xs k).isSome:=by
  rw [iE,(r.val k).qA,Option.isSome_map]
 unfold putK storedH;rw [e]
 by_cases q:(atKey xs k).isSome=true
 ·rw [if_pos q,if_pos q];exact r.sW k ry
 ·rw [if_neg q,if_neg q];exact Paired.snoc r ⟨rfl,hb,ry⟩
theorem KT.keeps {H H':Hp} {kvs:List (List Key×V)} {xs:List (List Key×Addr×Value)} (r:KT H kvs xs) (ht:∀ b ys,H b=some (.tup ys)→H' b=some (.tup ys)):KT H' kvs xs :=
 Paired.dq r fun _ _ z=>⟨z.1,ht _ _ z.2.1,z.2.2⟩
section
variable {P:Program} {w:World} {H:Hp} {h:Heap} {a:Addr}
theorem ue {u:HO} (ok:HOk P w H h) (e:Rd H a u):aY P w H h a u:=e.ok ok
theorem pI {kvs:List (Key×V)} (ok:HOk P w H h) (e:Rd H a (.dK kvs)):kvs.length≤sizeLine∧(a == sysModules)=false∧∃ vs,KV kvs vs∧h.DictOf (bA P w) a vs :=
 show aY P w H h a (.dK kvs) from ue ok e
theorem uI {kvs:List (Key×V)} (ok:HOk P w H h) (e:H a=some (.dK kvs)):kvs.length≤sizeLine∧(a == sysModules)=false∧∃ vs,KV kvs vs∧h.DictOf (bA P w) a vs:=pI ok (.inl e)
theorem mP {ks:List Key} (ok:HOk P w H h) (e:H a=some (.tup (ks.map kV))):(tupleKind (bA P w)).is h ks a:=by
 obtain ⟨_,its,r,o,h1,h2,n,h3⟩:=(show aY P w H h a (.tup (ks.map kV)) from ok a _ e);exact ⟨o,its.toArray,n,h1,h2,h3,by simpa using lx r⟩
theorem o3 {kvs:List (List Key×V)} (ok:HOk P w H h) (e:Rd H a (.dT kvs)):kvs.length≤sizeLine∧(a == sysModules)=false ∧
  ∃ xs,KT H kvs xs∧h.DictOfH (tupleKind (bA P w)) a xs:=by
 obtain ⟨z,y,xs,r,o,es,ep,h1,h2,h3,h4,h5⟩:=(show aY P w H h a (.dT kvs) from ue ok e);refine ⟨z,y,xs,r,o,es,ep,h1,h2,h3,h4,fun x hx=>?_,h5⟩;have all:∀ {l:List (List Key×V)} {m:List (List Key×Addr×Value)},KT H l m→∀ x∈m,(tupleKind (bA P w)).is h x.1 x.2.1:=by
  intro l m q
  induction q with
  | nil=>intro x hx;exact nomatch hx
  | @cons p q ps qs hq t ih =>
   intro x hx;rcases List.mem_cons.mp hx with e|hx
   ·subst e;exact mP ok (by rw [← hq.1];exact hq.2.1)
   ·exact ih x hx
 exact all r x hx
theorem AK {kvs:List (List Key×V)} (ok:HOk P w H h) (e:H a=some (.dT kvs)):kvs.length≤sizeLine∧(a == sysModules)=false ∧
  ∃ xs,KT H kvs xs∧h.DictOfH (tupleKind (bA P w)) a xs:=o3 ok (.inl e)
end
def fW (H:Hp) (a:Addr) (y:V) (r:Option V):Prop :=
 (∃ kvs k,Rd H a (.dK kvs)∧y=kV k∧r=cb kvs k)∨∃ kvs k b,Rd H a (.dT kvs)∧y=.ref b∧H b=some (.tup (k.map kV))∧r=cb kvs k
def gQ (H:Hp) (a:Addr) (y v:V) (H':Hp):Prop :=
 (∃ kvs k,H a=some (.dK kvs)∧y=kV k∧kvs.length<sizeLine∧H'=upd H a (.dK (putK kvs k v))) ∨
 ∃ kvs k b,H a=some (.dT kvs)∧y=.ref b∧H b=some (.tup (k.map kV))∧kvs.length<sizeLine∧H'=upd H a (.dT (putK kvs k v))
theorem fW.k {H:Hp} {a:Addr} {kvs:List (Key×V)} {k:Key} (e:H a=some (.dK kvs)):fW H a (kV k) (cb kvs k):=.inl ⟨kvs,k,.inl e,rfl,rfl⟩
theorem fW.t {H:Hp} {a b:Addr} {kvs:List (List Key×V)} {k:List Key} (e:H a=some (.dT kvs)) (eb:H b=some (.tup (k.map kV))):fW H a (.ref b) (cb kvs k):=.inr ⟨kvs,k,b,.inl e,rfl,eb,rfl⟩
theorem gQ.k {H:Hp} {a:Addr} {kvs:List (Key×V)} {k:Key} {v:V} (e:H a=some (.dK kvs)) (hl:kvs.length<sizeLine):gQ H a (kV k) v (upd H a (.dK (putK kvs k v))):=.inl ⟨kvs,k,e,rfl,hl,rfl⟩
theorem gQ.t {H:Hp} {a b:Addr} {kvs:List (List Key×V)} {k:List Key} {v:V} (e:H a=some (.dT kvs)) (eb:H b=some (.tup (k.map kV))) (hl:kvs.length<sizeLine) :
  gQ H a (.ref b) v (upd H a (.dT (putK kvs k v))):=.inr ⟨kvs,k,b,e,rfl,eb,hl,rfl⟩
section
variable {X:Cx} {pins:List (Addr×Obj)} {σ:St} {H:Hp} {s:Shared} {a:Addr} {y v:V} {u r:Value} {o:Option V} {A:Around} {E:Value→Shared→Prop}
theorem Inv.big (I:Inv X pins σ H s):sysModules<s.heap.objs.size:=by
 have h:mainGlobals<s.heap.objs.size:=(I.mod.glob.keeps I.bk).lt;exact Nat.lt_trans (by decide) h
theorem rm {Q:Value→Shared→Prop} (hu:A.units+1<cLine) (I:Inv X pins σ H s) (g:fW H a y (some v)) (ry:RelV y u) (h:∀ w' s',Inv X pins σ H s'→RelV v w'→Q w' s') :
  wpAny (model X.prog X.w) A (getItem (.ref a) u) Q E s:=by
 rcases g with ⟨kvs,k,e,ey,l⟩|⟨kvs,k,b,e,ey,eb,l⟩
 ·subst ey;obtain ⟨z,hd,vs,rel,dd⟩:=pI I.hok e;obtain ⟨w',hw,rw'⟩:=cc.some_of (v:=v) (o:=valueAt vs k) (by rw [l];exact rel.val k)
  exact wpAny_getItem_of (l9 ry) dd.mapOf hw (h w' _ (I.tok _) rw')
 ·subst ey;cases (show u=Value.ref b from ry);obtain ⟨z,hd,xs,rel,dd⟩:=o3 I.hok e;obtain ⟨w',hw,rw'⟩:=cc.some_of (v:=v) (o:=(atKey xs k).map (·.2)) (by rw [l];exact rel.val k)
  obtain ⟨p,hp,hp2⟩:=Option.map_eq_some_iff.mp hw;refine wpAny_getItem_heap (tupleKind_room_in1 hu) (mP I.hok eb) dd hp ?_;rw [hp2];exact h w' _ (I.tok _) rw'
theorem oH {h':Heap} {t':Nat} {ob:HO} (I:Inv X pins σ H s) (mu:Mut (H a)) (hs:Heap.SameBut a s.heap h') (he:∃ q,h'.get? a=some q) (new:aY X.prog X.w (upd H a ob) h' a ob) :
  Inv X pins σ (upd H a ob) { s with heap:=h',toks:=t' } :=
 I.write (x:=a) (e:=a) mu (.inl rfl) (fun b q hb z=>(hs.2 b hb).trans z) he new
theorem qH {P:Program} {w:World} {H':Hp} {h':Heap} {kvs:List (Key×V)} {vs:List (Key×Value)} (z:kvs.length≤sizeLine) (hd:(a == sysModules)=false) (rel:KV kvs vs) (dd:h'.DictOf (bA P w) a vs) :
  aY P w H' h' a (.dK kvs):=⟨z,hd,vs,rel,dd⟩
theorem rV {H':Hp} {Q:Unit→Shared→Prop} (hu:A.units+1<cLine) (I:Inv X pins σ H s) (g:gQ H a y v H') (ry:RelV y u) (rv:RelV v r) (h:∀ s',Inv X pins σ H' s'→Q () s') :
  wpAny (model X.prog X.w) A (setItem (.ref a) u r) Q E s:=by
 rcases g with ⟨kvs,k,e,ey,l,eH⟩|⟨kvs,k,b,e,ey,eb,l,eH⟩
 ·subst ey eH;obtain ⟨z,hd,vs,rel,dd⟩:=uI I.hok e;have hz:vs.length≤sizeLine:=by rw [← rel.length];exact z
  have hl:(putK kvs k v).length≤sizeLine:=by have:=iu kvs k v;omega
  refine wpAny_setItem_pairs (hsz:=hz) (l9 ry) dd fun h' dd' hs=>h _ ?_;have he:∃ q,h'.get? a=some q:=let ⟨q,_,_,hq,_⟩:=dd';⟨q,hq⟩;exact oH I (by rw [e];exact True.intro) hs he (qH hl hd (rel.put k rv) dd')
 ·subst ey eH;cases (show u=Value.ref b from ry);obtain ⟨z,hd,xs,rel,dd⟩:=AK I.hok e;have hz:xs.length≤sizeLine:=by rw [← Paired.length rel];exact z
  have hl:(putK kvs k v).length≤sizeLine:=by have:=iu kvs k v;omega
  refine wpAny_setItem_heap (hsz:=hz) (tupleKind_room_in1 hu) (mP I.hok eb) dd fun h' dd' hs=>h _ ?_;obtain ⟨q,es,ep,hq,h2,h3,h4,_,h5⟩:=dd';refine oH I (by rw [e];exact True.intro) hs ⟨q,hq⟩ ⟨hl,hd,_,(rel.put k eb rv).keeps fun c ys ec=>?_,q,es,ep,hq,h2,h3,h4,h5⟩
  rw [ag (zY ec e (fun z=>nomatch z))];exact ec
end
section
variable {X:Cx} {pins:List (Addr×Obj)} {σ:St} {H:Hp} {s:Shared} {a:Addr} {kvs:List (Key×V)} {k:Key} {u:Value} {A:Around} {E:Value→Shared→Prop}
end
def r9 (i:Expr):Prop:=∀ ov iv,subscripted i false ov iv=operate [ov,iv] (getItem ov iv)
theorem oF {prog:Program} {w:World} {A:Around} {E:Value→Shared→Prop} {s:Shared} {env:Env} {value slice:Expr} {pos:Pos} {T id:String} {Q:Value→Shared→Prop}
  (hl:typeLookup (.type T) "__getitem__" = pure (some (.builtin id))) (hs:r9 slice)
  (h:wpAny (model prog w) A (eval value env) (fun o s₁=>wpAny (model prog w) A (eval slice env) (fun i s₂=>s₂.TypeIs o T∧wpAny (model prog w) A (getItem o i) Q E s₂) E s₁) E s) :
  wpAny (model prog w) A (eval (.Subscript value slice pos) env) Q E s:=by
 refine Subscript_ (wpAny_mono h (fun o s₁ h₁=>wpAny_mono h₁ (fun i s₂ h₂=>?_) fun _ _ x=>x) fun _ _ x=>x);obtain ⟨hT,h₂⟩:=h₂;unfold subscriptTail;refine wpAny_bind ?_;rw [getitemInPython_of_ne hT.not_modules];refine wpAny_bind (wpAny_specialOf hT hl ?_);have fin:wpAny (model prog w) A (subscripted slice false o i) (fun r s₃=>wpAny (model prog w) A (letTemporaryGo value o r >>= fun _=>pure r) Q E s₃) E s₂:=by
  rw [hs o i];exact wpAny_operating (wpAny_mono h₂ (fun r s₃ h₃=>wpAny_bind (wpAny_letTemporaryGo (wpAny_pure h₃))) fun _ _ x=>x)
 first
  | exact wpAny_pure (wpAny_bind fin)
  | exact wpAny_bind (wpAny_pure (wpAny_bind fin))
  | exact wpAny_bind fin
theorem nS {X:Cx} {pins:List (Addr×Obj)} {σ:St} {H:Hp} {s:Shared} {a:Addr} {y:V} {o:Option V} (I:Inv X pins σ H s) (g:fW H a y o):s.TypeIs (.ref a) "dict":=by
 rcases g with ⟨kvs,k,e,_,_⟩|⟨kvs,k,b,e,_,_,_⟩
 ·obtain ⟨_,_,vs,_,dd⟩:=pI I.hok e;exact dd.typeIs
 ·obtain ⟨_,_,xs,_,dd⟩:=o3 I.hok e;exact dd.typeIs
def uA (td ty:TE):TE:=fun σ H Q=>td σ H fun x H1=>ty σ H1 fun y H2=>∃ a v,x=.ref a∧fW H2 a y (some v)∧Q v H2
def ur (td ty tv:TE):TS:=fun D σ H=>tv σ H fun v H1=>td σ H1 fun x H2=>ty σ H2 fun y H3=>∃ a H4,x=.ref a∧gQ H3 a y v H4∧D.nx σ H4
section
variable {X:Cx} {o i e value:Expr} {pos pos' tpos:Pos} {td ty tv:TE}
theorem uW (hu:X.A.units+1<cLine) (ho:PE X o td) (hi:PE X i ty) (hs:r9 i):PE X (.Subscript o i pos) (uA td ty):=by
 intro pins s σ H Q I h;refine oF PySem.F.slot_dict_getitem.lookup hs (thn (ho pins s σ H _ I h) fun u s1 ⟨x,H1,I1,rx,q1⟩=>thn (hi pins s1 σ H1 _ I1 q1) fun iv s2 ⟨y,H2,I2,ry,a,v,ex,g,q2⟩=>?_);subst ex;obtain rfl:u=Value.ref a:=rx;exact ⟨nS I2 g,rm hu I2 g ry fun w' s3 I3 rw'=>⟨v,H2,I3,rw',q2⟩⟩
theorem vj (hu:X.A.units+1<cLine) (ho:PE X o td) (hi:PE X i ty) (hv:PE X value tv) (hs:swapsWith value (some (.Subscript o i pos')) pos.line X.env=pure false) :
  PS X (.Assign [.Subscript o i pos'] value pos) (ur td ty tv):=by
 intro pins s σ H D I h;refine wpAny_Assign_Subscript (thn (hv pins s σ H _ I h) fun r s1 ⟨v,H1,I1,rv,q1⟩=>thn (ho pins s1 σ H1 _ I1 q1) fun u s2 ⟨x,H2,I2,rx,q2⟩=>thn (hi pins s2 σ H2 _ I2 q2) fun iv s3 ⟨y,H3,I3,ry,a,H4,ex,g,q3⟩=>?_) hs;subst ex;obtain rfl:u=Value.ref a:=rx;exact rV hu I3 g ry rv fun s4 I4=>⟨σ,H4,I4,q3⟩
end
theorem uc {P:Program} {w:World} {H:Hp} (h:Heap) (hb:sysModules<h.objs.size):aY P w H (h.push { cls:=.type "dict",data:=.dict #[] }) h.objs.size (.dK []) :=
 ⟨Nat.zero_le _,beq_eq_false_iff_ne.mpr (Ne.symm (Nat.ne_of_lt hb)),[],.nil,Heap.DictOf.new h⟩
def qU:TE:=fun _ H Q=>∀ p,H p=none→Q (.ref p) (upd H p (.dK []))
section
variable {X:Cx} {pos:Pos}
theorem sU:PE X (.Dict [] [] pos) qU:=fun pins s σ H Q I h =>
 wpAny_Dict_empty ⟨.ref s.heap.objs.size,_,I.laid (a:=s.heap.objs.size) (o:=.dK []) (t':=s.toks) (fun _ _ q=>Heap.get?_push_of_some _ q) (Nat.le_refl _) (uc s.heap I.big),rfl,h _ (I.hok.fresh (Nat.le_refl _))⟩
end
section
variable {X:Cx} {pins:List (Addr×Obj)} {σ:St} {H:Hp} {s:Shared} {a:Addr} {y d:V} {u r:Value} {o:Option V} {A:Around} {E:Value→Shared→Prop}
end
section
variable {X:Cx} {o e f:Expr} {apos cpos:Pos} {td ty tx:TE}
end
section
variable {X:Cx} {pins:List (Addr×Obj)} {σ:St} {H:Hp} {s:Shared} {a:Addr} {kvs:List (Key×V)} {A:Around} {E:Value→Shared→Prop}
end
section
variable {X:Cx} {pins:List (Addr×Obj)} {σ:St} {H:Hp} {s:Shared} {a:Addr} {y:V} {u:Value} {A:Around} {E:Value→Shared→Prop}
end
end L2
namespace Att
open PySem PySem.W PySem.Calls PyProof.Rows
section
variable {prog:Program} {w:World} {A:Around} {E:Value→Shared→Prop} {s:Shared} {K:Frag}
end
end Att
namespace L2
open PySem PySem.Spec PyProof.Rows
end L2
namespace L2
open PySem PySem.Spec PyProof.Rows
end L2
namespace L2
open PySem PySem.Spec PyProof.Rows
section
variable {P:Program} {w:World} {K:PySem.W.Frag} {mg:Str→Option Value} {base:Heap}
end
section
variable {X:Cx}
end
section
variable {κ:Type} [DecidableEq κ]
theorem n6:∀ {l:List κ} {k:κ},l.Nodup→¬ k∈l→(l++[k]).Nodup
 | [],k,_,_=>by simp
 | a :: r,k,h,hk=>by
  obtain ⟨h1,h2⟩:=List.nodup_cons.mp h;show (a :: (r++[k])).Nodup;refine List.nodup_cons.mpr ⟨fun m=>?_,n6 h2 fun m=>hk (List.mem_cons.mpr (Or.inr m))⟩;rcases List.mem_append.mp m with q|q
  ·exact h1 q
  ·exact hk (List.mem_cons.mpr (Or.inl (List.mem_singleton.mp q).symm))
end
end L2
namespace L2
open PySem PySem.Spec PyProof.Rows
section
variable {K:PySem.W.Frag} {H:Hp} {σ:St} {Q:VK} {g:TG} {tt:TT} {ta:TE} {own:List Str} {fr:List Nat}
theorem iF {J:It} {n:Nat} (W:Addr→Nat→St→Hp→List V→Prop) (hz:n≤100000)
  (hgo:∀ d i σ' H' ys,i<n→W d i σ' H' ys→J.go i H') (hst:∀ d σ' H' ys,W d n σ' H' ys→J.stop n H')
  (hal:∀ d i σ' H' ys,i≤n→W d i σ' H' ys→ys.length≤i) (h0:∀ d,H d=none→W d 0 (bI own fr σ) (upd H d (.lst [])) [])
  (turn:∀ d i σ' H' ys x H2 (R:St→V→Hp→Prop) (R0:St→Hp→Prop),H d=none→i<n→W d i σ' H' ys→H' d=some (.lst ys)→J.yld i H' x H2 →
   (∀ σ2 y H5,H5 d=some (.lst ys)→W d (i+1) σ2 (upd H5 d (.lst (ys++[y]))) (ys++[y])→R σ2 y H5)→(∀ σ2 H5,H5 d=some (.lst ys)→W d (i+1) σ2 H5 ys→R0 σ2 H5) →
   g x σ' H2 fun σ2 H3=>tt σ2 H3 fun ok H4=>if ok=true then ta σ2 H4 (R σ2) else R0 σ2 H4)
  (fin:∀ d σ' H' ys,H d=none→H' d=some (.lst ys)→W d n σ' H' ys→Q (.ref d) H'):eB own fr g tt ta σ Q J H:=by
 intro d hd;refine ⟨fun i m σ' H'=>m=n - i∧i≤n∧∃ ys,H' d=some (.lst ys)∧W d i σ' H' ys,⟨n,rfl,Nat.zero_le _,[],ai,h0 d hd⟩,?_⟩;rintro i m σ' H' ⟨rfl,hi,ys,hys,w⟩
 by_cases hlt:i<n
 ·refine .inr ⟨hgo d i σ' H' ys hlt w,fun x H2 hx=>turn d i σ' H' ys x H2 _ _ hd hlt w hys hx (fun σ2 y H5 h1 h2=>?_) (fun σ2 H5 h1 h2=>?_)⟩
  ·have hl:=hal d i σ' H' ys hi w;exact ⟨ys,h1,Nat.lt_of_le_of_lt (show ys.length≤100000 by omega) (by rw [sizeLine_eq];decide),n - (i+1),by omega,rfl,hlt,_,ai,h2⟩
  ·exact ⟨n - (i+1),by omega,rfl,hlt,ys,h1,h2⟩
 ·have e:i=n:=by omega
  subst e;exact .inl ⟨hst d σ' H' ys w,fin d σ' H' ys hd hys w⟩
theorem jM {a:Int} {n:Nat} (e:a=(n:Int)) (hz:n≤100000) (W:Addr→Nat→St→Hp→List V→Prop)
  (hal:∀ d i σ' H' ys,i≤n→W d i σ' H' ys→ys.length≤i) (h0:∀ d,H d=none→W d 0 (bI own fr σ) (upd H d (.lst [])) [])
  (turn:∀ d i σ' H' ys (R:St→V→Hp→Prop) (R0:St→Hp→Prop),H d=none→i<n→W d i σ' H' ys→H' d=some (.lst ys) →
   (∀ σ2 y H5,H5 d=some (.lst ys)→W d (i+1) σ2 (upd H5 d (.lst (ys++[y]))) (ys++[y])→R σ2 y H5)→(∀ σ2 H5,H5 d=some (.lst ys)→W d (i+1) σ2 H5 ys→R0 σ2 H5) →
   g (.int (i:Int)) σ' H' fun σ2 H3=>tt σ2 H3 fun ok H4=>if ok=true then ta σ2 H4 (R σ2) else R0 σ2 H4)
  (fin:∀ d σ' H' ys,H d=none→H' d=some (.lst ys)→W d n σ' H' ys→Q (.ref d) H'):tJ [.int a] H (eB own fr g tt ta σ Q):=by
 subst e;refine ⟨n,rfl,by omega,by omega,?_⟩
 have z:((n:Int)).toNat=n:=by omega
 show eB own fr g tt ta σ Q (Itr 0 (n:Int).toNat) H;rw [z];refine iF (n:=n) W hz (fun d i σ' H' ys hi _=>hi) (fun d σ' H' ys _=>Nat.le_refl n) hal h0 (fun d i σ' H' ys x H2 R R0 hd hi w hys hy=>?_) fin;obtain ⟨e1,e2⟩:=hy;subst e1 e2;rw [Int.zero_add];exact turn d i σ' _ ys R R0 hd hi w hys
end
theorem Tbl.nil {H:Hp} {d:Addr}:Tbl (upd H d (.lst [])) d [] []:=⟨ai,List.nodup_nil,by simp,rfl,fun i p r e=>by simp at e⟩
section
variable {H:Hp} {σ:St} {Q:VK} {td ty tv:TE}
def nk (k:Nat):Key:=Sum.inl (k:Int)
def uL (x y:V) (H:Hp) (Q:VK):Prop:=∃ a v,x=.ref a∧fW H a y (some v)∧Q v H
def uF (x y v:V) (H:Hp) (D:Hp→Prop):Prop:=∃ a H4,x=.ref a∧gQ H a y v H4∧D H4
theorem vz (h:td σ H fun x H1=>ty σ H1 fun y H2=>uL x y H2 Q):uA td ty σ H Q:=h
theorem uR {D:Ends} (h:tv σ H fun v H1=>td σ H1 fun x H2=>ty σ H2 fun y H3=>uF x y v H3 (D.nx σ)):ur td ty tv D σ H:=h
theorem yn {a:Addr} {k:Nat} {kvs:List (Key×V)} {v:V} (h:H a=some (.dK kvs)) (hv:cb kvs (nk k)=some v) (q:Q v H):uL (.ref a) (.int (k:Int)) H Q :=
 ⟨a,v,rfl,by rw [← hv];exact fW.k (k:=nk k) h,q⟩
theorem v5 {D:Hp→Prop} {a:Addr} {k:Nat} {kvs:List (Key×V)} {v:V} (h:H a=some (.dK kvs)) (hl:kvs.length≤100000) (q:D (upd H a (.dK (putK kvs (nk k) v)))):uF (.ref a) (.int (k:Int)) v H D :=
 ⟨a,_,rfl,gQ.k (k:=nk k) h (Nat.lt_of_le_of_lt hl (by rw [sizeLine_eq];decide)),q⟩
theorem vK (h:∀ p,H p=none→Q (.ref p) (upd H p (.dK []))):qU σ H Q:=h
theorem qV {a b:Nat} (h:nk a=nk b):a=b:=Int.ofNat.inj (Sum.inl.inj h)
def b9 (F:List Nat) (ps:List Addr):List (Key×V):=(F.zip ps).map fun x=>(nk x.1,V.ref x.2)
theorem tW {F:List Nat} {ps:List Addr}:(b9 F ps).length≤F.length:=by
 unfold b9;rw [List.length_map,List.length_zip];omega
theorem kJ:∀ {F:List Nat} {ps:List Addr} {f:Nat},f∉F→cb (b9 F ps) (nk f)=none
 | [],_,_,_=>rfl
 | _ :: _,[],_,_=>rfl
 | a :: F,p :: ps,f,h=>by
  have h1:¬ nk a=nk f:=fun z=>h (by rw [qV z];exact List.mem_cons_self)
  show cb ((nk a,V.ref p) :: b9 F ps) (nk f)=none;rw [eW h1];exact kJ fun z=>h (List.mem_cons_of_mem _ z)
theorem iP:∀ {F:List Nat} {ps:List Addr} {j f:Nat} {p:Addr},F.Nodup→F[j]?=some f→ps[j]?=some p→cb (b9 F ps) (nk f)=some (.ref p)
 | [],_,_,_,_,_,h,_=>by simp at h
 | _ :: _,[],_,_,_,_,_,h=>by simp at h
 | a :: F,q :: ps,0,f,p,_,h1,h2=>by
  cases h1;cases h2;exact gm rfl
 | a :: F,q :: ps,j+1,f,p,nd,h1,h2=>by
  have h1':F[j]?=some f:=h1;have h2':ps[j]?=some p:=h2;obtain ⟨n1,n2⟩:=List.nodup_cons.mp nd;have h3:¬ nk a=nk f:=fun z=>n1 (by rw [qV z];exact List.mem_of_getElem? h1')
  show cb ((nk a,V.ref q) :: b9 F ps) (nk f)=_;rw [eW h3];exact iP n2 h1' h2'
theorem rj {F:List Nat} {ps:List Addr} {f:Nat} {p:Addr} (hl:ps.length=F.length) (h:f∉F):putK (b9 F ps) (nk f) (.ref p)=b9 (F++[f]) (ps++[p]):=by
 rw [tK _ (kJ h)];unfold b9;rw [List.zip_append hl.symm,List.map_append];rfl
end
end L2
namespace L2
open PySem PySem.Spec PyProof.Rows
theorem oY:typeLookup (.type "list_reverseiterator") "__len__" = pure none:=by rw [typeLookup_type,builtinLookup_eq_fast];kernel_rfl
theorem sE:typeLookup (.type "list_reverseiterator") "__length_hint__" = pure (some (.builtin "list_reverseiterator.__length_hint__")):=by rw [typeLookup_type,builtinLookup_eq_fast];kernel_rfl
section
variable {prog:Program} {w:World} {A:Around} {s:Shared} {R:Result→Shared→Prop}
variable {I:Addr} {fp wr:List Addr} {G:Array GenState→Array GenState→Prop} {n:Nat} {P:Nat→Value→Prop} {St:Nat→Shared→Prop}
theorem pM (W:WalksS prog w A.in1 I fp wr G n P St) (hT:∀ i s,St i s→s.TypeIs (.ref I) "list_reverseiterator") (S:Addr) (res:Value) (c₀:Nat) (hst:St 0 s) (hSf:S∉fp) (hI:I∈fp)
  (hS:s.heap.get? S=some { cls:=.type "list",data:=.seq #[] c₀ })
  (hR:∀ s' acc' c',Moved (S :: wr) G s s'→s'.heap.get? S=some { cls:=.type "list",dict:=none,data:=.seq acc' c',slots:=#[] }→ItemsOf P acc' n→R (.ok (.ret res)) s') (hn:n≤sizeLine) :
  wpAny (model prog w) A.in1 (Builtin.List.listExtendWith (.ref S) (.ref I) res)
   (fun fin s'=>match fin with | .done f=>R (.ok f) s' | .again c'=>c'.quiet=true∧codeAny (model prog w) A c' R s') (fun e s'=>R (.error e) s') s:=by
 have hSI:S≠I:=fun e=>hSf (e ▸ hI);have h1:Builtin.List.listSameRef (.ref S) (.ref I)=false:=by simp [Builtin.List.listSameRef,hSI]
 unfold Builtin.List.listExtendWith;refine wpAny_bind (wpAny_typeOf (hT 0 _ hst) ?_);rw [if_neg (by rw [h1];decide)]
 refine wpAny_bind (W.self 0 _ _ _ hst ?_);refine wpAny_bind (wpAny_holding ?_);unfold Builtin.List.listLengthHint;refine wpAny_bind (wpAny_specialOf (hT 0 _ hst) oY ?_);show wpAny _ A.in1 (specialOf (Value.ref I) (Str.ofString "__length_hint__") >>= _) _ _ _;refine wpAny_bind (wpAny_specialOf (hT 0 _ hst) sE ?_);generalize hid:("list_reverseiterator.__length_hint__" : String)=id0
 wp_delta
 rw [show splitId id0=some ("list_reverseiterator","__length_hint__") from by subst hid;decide +kernel]
 subst hid;refine wpAny_bind (wpAny_isInstance (b:=true) (hT 0 _ hst) (by rw [isSubtype_type];kernel_rfl) ?_)
 refine wpAny_pure ?_;rw [if_neg (by decide)]
 refine wpAny_pure ⟨plainId_quiet F.plain_extend_loop _,codeAny_extend_loopS W hn _ hSf _ n 0 _ _ _ rfl (Nat.zero_le _) hst hS (ItemsOf.nil P) fun s' acc' c' hm hS' hacc=>?_⟩;exact hR s' acc' c' hm hS' hacc
end
section
variable {prog:Program} {w:World} {A:Around} {s:Shared} {R:Result→Shared→Prop} {E:Value→Shared→Prop}
variable {I:Addr} {fp wr:List Addr} {G:Array GenState→Array GenState→Prop} {n:Nat} {P:Nat→Value→Prop} {St:Nat→Shared→Prop}
theorem lD (W:WalksS prog w A.in1 I fp wr G n P St) (hT:∀ i s,St i s→s.TypeIs (.ref I) "list_reverseiterator") (S:Addr) (hst:St 0 s) (hSf:S∉fp) (hI:I∈fp)
  (hS:s.heap.get? S=some { cls:=.type "list",data:=.seq #[] })
  (hR:∀ s' acc' c',Moved (S :: wr) G s s'→s'.heap.get? S=some { cls:=.type "list",dict:=none,data:=.seq acc' c',slots:=#[] }→ItemsOf P acc' n→R (.ok (.ret .none)) s') (hn:n≤sizeLine) :
  wpAny (model prog w) A.in1 (Builtin.«list.__init__» ⟨[.ref S,.ref I],[]⟩)
   (fun fin s'=>match fin with | .done f=>R (.ok f) s' | .again c'=>c'.quiet=true∧codeAny (model prog w) A c' R s') (fun e s'=>R (.error e) s') s:=by
 show wpAny _ A.in1 (do let old ← Builtin.List.listItems (.ref S);Builtin.List.listUpdate (.ref S) (fun _=>#[]);letGo old.toList.reverse;Builtin.List.listExtendWith (.ref S) (.ref I) .none) _ _ s;refine wpAny_bind ?_;unfold Builtin.List.listItems;refine wpAny_bind (wpAny_seqItems hS rfl (wpAny_pure ?_));show wpAny _ A.in1 (updateSeq S (fun _=>#[]) >>= fun _=>letGo (#[]:Array Value).toList.reverse >>= fun _=>Builtin.List.listExtendWith (.ref S) (.ref I) .none) _ _ s;refine wpAny_bind (wpAny_updateSeq hS rfl ?_);have hS₂:=Heap.get?_update_self (Obj.mapSeq (fun _=>(#[]:Array Value))) hS rfl;have oth:∀ b o,b≠S→s.heap.get? b=some o→(s.heap.update S (Obj.mapSeq (fun _=>(#[]:Array Value)))).get? b=some o :=
  fun b o hb e=>(Heap.get?_update_other _ _ (Ne.symm hb)).trans e
 refine wpAny_bind (wpAny_letGo ?_);refine pM W hT S .none _ (W.frame 0 s _ s.toks hst (Nat.le_refl _) fun b hb o e=>oth b o (fun h=>hSf (h ▸ hb)) e) hSf hI hS₂ (fun s' acc' c' hm hS' hacc=>?_) hn;exact hR s' acc' c' (Moved.trans W.gtrans ((Moved.refl W.grefl).then_heap (Nat.le_refl _) fun b o hb e=>oth b o (fun h=>hb (h ▸ List.mem_cons_self)) e) hm) hS' hacc
theorem lB {Q:Value→Shared→Prop} (W:WalksS prog w A.in1.in1 I fp wr G n P St) (hT:∀ i s,St i s→s.TypeIs (.ref I) "list_reverseiterator") (hst:St 0 s) (hfp:∀ b∈fp,b<s.heap.objs.size) (hI:I∈fp)
  (hQ:∀ s' acc' c',Moved (s.heap.objs.size :: wr) G { s with heap:=s.heap.push { cls:=.type "list",data:=.seq #[] } } s' →
   s'.heap.get? s.heap.objs.size=some { cls:=.type "list",dict:=none,data:=.seq acc' c',slots:=#[] }→ItemsOf P acc' n→Q (.ref s.heap.objs.size) s') (hn:n≤sizeLine) :
  wpAny (model prog w) A (call (.type "list") [.ref I]) Q E s:=by
 have hSf:s.heap.objs.size∉fp:=fun hm=>Nat.lt_irrefl _ (hfp _ hm);refine callType_codes (Q₁:=fun obj s₁=>obj=.ref s.heap.objs.size∧s₁={ s with heap:=s.heap.push { cls:=.type "list",data:=.seq #[] } }) F.called_list (F.typeCall_list_1 _) F.entry_list_init
  (code_list_new _ ⟨rfl,rfl⟩) fun obj s₁ h₁=>?_
 obtain ⟨rfl,rfl⟩:=h₁;have hS:(s.heap.push { cls:=.type "list",data:=.seq #[] }).get? s.heap.objs.size=some { cls:=.type "list",data:=.seq #[] }:=Heap.get?_push_size _ rfl;refine ⟨⟨_,hS,rfl⟩,F.args_list_init_2 _ _,lD W hT _ (W.frame 0 s _ s.toks hst (Nat.le_refl _) fun b _ o e=>Heap.get?_push_of_some _ e) hSf hI hS (fun s' acc' c' hm hS' hacc=>?_) hn⟩;exact ⟨rfl,hQ s' acc' c' hm hS' hacc⟩
end
theorem mv:∀ {xs:List V} {us:List Value},xs.length=us.length→(∀ (i:Nat) (x:V) (u:Value),xs[i]?=some x→us[i]?=some u→RelV x u)→Vals xs us
 | [],[],_,_=>.nil
 | x :: xs,u :: us,h,k=>.cons (k 0 x u rfl rfl) (mv (by simpa using h) fun i a b e1 e2=>k (i+1) a b e1 e2)
 | [],_ :: _,h,_=>by simp at h
 | _ :: _,[],h,_=>by simp at h
theorem Vals.getL {xs:List V} {us:List Value} (r:Vals xs us) {i:Nat} {x:V} {u:Value} (hx:xs[i]?=some x) (hu:us[i]?=some u):RelV x u:=by
 obtain ⟨u',hu',ru⟩:=r.get hx;rw [hu] at hu';cases hu';exact ru
def nF (K:PySem.W.Frag) (ta:TA):TE:=fun σ H Q=>ta σ H fun vs H1=>∃ a xs,vs=[.ref a]∧SqL K H1 a xs∧∀ d,H1 d=none→Q (.ref d) (upd H1 d (.lst xs.reverse))
theorem qf {X:Cx} (K:PySem.W.Frag) (hK:X.K=K) (hc:X.calm=true) {e:Expr} {ta:TA} {p p2 pos pos2:Pos} (hg1:Gl X "list") (hm1:X.mg "list" = none) (hg2:Gl X "reversed") (hm2:X.mg "reversed" = none) (ha:PA X [e] ta) (hn:isStar e=false:=by rfl) :
  PE X (.Call (.Name "list" p) [.Call (.Name "reversed" p2) [e] [] pos2] [] pos) (nF K ta):=by
 subst hK;intro pins s σ H Q I h;refine Call_ (dg I hg1 hm1 boot_list (PyProof.Rows.callWith_type1 ?_ (aR rfl) (bP rfl)));rw [aR rfl];show wpAny _ _ (spliced ((false,eval (.Call (.Name "reversed" p2) [e] [] pos2) X.env) :: backTo pos (starEach [] X.env))) _ _ s;refine Calls.spliced_cons ?_;refine Call_ (dg I hg2 hm2 boot_reversed (PyProof.Rows.callWith_type1 (thn (ha pos2 pins s σ H _ I h) fun us s1 ⟨vs,H1,I1,r1,q1⟩=>?_) (aR hn) (bP rfl)));obtain ⟨a,xs,ev,hS,q⟩:=q1;subst ev;obtain ⟨u,rfl,ru⟩:=vals1 r1;cases (show u=Value.ref a from ru);obtain ⟨its,rv,pl,hz⟩:=I1.list hS;have hl:=rv.length;refine call_reversed_list pl.isList ?_;refine Calls.spliced_nil ?_;have lta:a<s1.heap.objs.size:=by obtain ⟨_,z,_⟩:=pl.isList;exact Heap.lt_size z
 have hh:X.A.in1.in1.handled=none:=by simpa using I.ok.hd hc
 refine lB (I:=s1.heap.objs.size) ((Walks.listRev hh s1.heap.objs.size a (Nat.ne_of_lt lta) its.toArray).toS) (fun i s' st=>st.2.1.typeIs) ⟨Nat.zero_le _,⟨_,Heap.get?_push_size _ rfl,rfl,by simp [revObj]⟩,pl.isList.push _⟩ (fun b hb=>?_) (by simp) (fun s' acc c hm hS' hacc=>?_) (by rw [List.size_toArray,← hl];exact hz)
 ·have hb':b=s1.heap.objs.size∨b=a:=by simpa using hb
  rw [Heap.size_push];rcases hb' with rfl|rfl
  ·exact Nat.lt_succ_self _
  ·exact Nat.lt_succ_of_lt lta
 ·obtain ⟨h',g',d',tk',os'⟩:=s';have eg:g'=s1.gens:=hm.gens;have ed:d'=s1.drawn:=hm.drawn;have eo:os'=s1.os:=hm.os;subst eg ed eo;rw [Heap.size_push] at hS' hm ⊢;refine ⟨.ref (s1.heap.objs.size+1),upd H1 (s1.heap.objs.size+1) (.lst xs.reverse),I1.laid (a:=s1.heap.objs.size+1) (o:=.lst xs.reverse) (fun b o e=>?_) (Nat.le_succ _) ⟨?_,acc.toList,c,?_,?_⟩,rfl,q _ (I1.hok.fresh (Nat.le_succ _))⟩
  ·have hlt:=Heap.lt_size e;refine hm.heap b o (fun z=>?_) (Heap.get?_push_of_some _ (Heap.get?_push_of_some _ e));have z':b=s1.heap.objs.size+1∨b=s1.heap.objs.size:=by simpa using z
   rcases z' with z' | z'
   ·rw [z'] at hlt;exact absurd hlt (Nat.not_lt.mpr (Nat.le_succ _))
   ·rw [z'] at hlt;exact absurd hlt (Nat.lt_irrefl _)
  ·rw [List.length_reverse];exact hz
  ·refine mv ?_ fun i x u e1 e2=>?_
   ·rw [List.length_reverse,hl]
    simpa using hacc.1.symm
   ·have e2':acc[i]?=some u:=by rw [← Array.getElem?_toList];exact e2
    have z:=hacc.2 i u e2';have hi:i<xs.length:=by
     have:=(List.getElem?_eq_some_iff.mp e1).1;rw [List.length_reverse] at this;exact this
    rw [List.getElem?_reverse hi] at e1;have z2:its[xs.length - 1 - i]?=some u:=by
     rw [hl]
     simpa using z
    exact rv.getL e1 z2
  ·simpa using hS'
def DE (P:Program) (w:World) (a:Addr) (kvs:List (Key×V)) (ep:Nat):HO:=.ext fun h=>kvs.length≤sizeLine∧(a == sysModules)=false∧∃ vs,KV kvs vs∧h.DictAt (bA P w) a vs ep
section
variable {X:Cx} {pins:List (Addr×Obj)} {σ:St} {H:Hp} {s:Shared} {a:Addr} {kvs:List (Key×V)} {ep:Nat}
theorem i0 (I:Inv X pins σ H s) (e:H a=some (DE X.prog X.w a kvs ep)):kvs.length≤sizeLine∧(a == sysModules)=false∧∃ vs,KV kvs vs∧s.heap.DictAt (bA X.prog X.w) a vs ep :=
 (show aY X.prog X.w H s.heap a (DE X.prog X.w a kvs ep) from I.hok a _ e).1
theorem Inv.hold (I:Inv X pins σ H s) (e:H a=some (.dK kvs)):∃ ep,Inv X pins σ (upd H a (DE X.prog X.w a kvs ep)) s:=by
 obtain ⟨z,hd,vs,rel,dd⟩:=uI I.hok e;obtain ⟨ep,da⟩:=dd.dictAt;refine ⟨ep,?_⟩;obtain ⟨o,es,ho,r⟩:=id da;exact I.write (x:=a) (e:=a) (h':=s.heap) (t':=s.toks) (by rw [e];exact True.intro) (.inl rfl) (fun _ _ _ q=>q) ⟨o,ho⟩ ⟨⟨z,hd,vs,rel,da⟩,⟨o,ho⟩,fun h1 h2 ⟨q1,q2,vs',q3,q4⟩ k=>⟨q1,q2,vs',q3,q4.at' fun o' e'=>k o' e'⟩⟩
theorem Inv.release (I:Inv X pins σ H s) (e:H a=some (DE X.prog X.w a kvs ep)):Inv X pins σ (upd H a (.dK kvs)) s:=by
 obtain ⟨z,hd,vs,rel,da⟩:=i0 I e;obtain ⟨o,es,ho,r⟩:=id da;exact I.write (x:=a) (e:=a) (h':=s.heap) (t':=s.toks) (by rw [e];exact True.intro) (.inl rfl) (fun _ _ _ q=>q) ⟨o,ho⟩ (qH z hd rel da.dictOf)
end
def zQ (P:Program) (w:World) (i:Nat) (t:TS):TS:=fun D σ H=>∃ a kvs,σ[i]?=some (some (.ref a))∧H a=some (.dK kvs)∧∀ ep,t D σ (upd H a (DE P w a kvs ep))
def yO (P:Program) (w:World) (i:Nat) (t:TS):TS:=fun D σ H=>∃ a kvs ep,σ[i]?=some (some (.ref a))∧H a=some (DE P w a kvs ep)∧t D σ (upd H a (.dK kvs))
theorem vC {X:Cx} (P:Program) (w:World) (i:Nat) (hP:X.prog=P) (hw:X.w=w) {st:Stmt} {t:TS} (h:PS X st t):PS X st (zQ P w i t):=by
 subst hP hw;intro pins s σ H D I q;obtain ⟨a,kvs,_,e,q⟩:=q;obtain ⟨ep,I'⟩:=I.hold e;exact h pins s σ _ D I' (q ep)
theorem uO {X:Cx} (P:Program) (w:World) (i:Nat) (hP:X.prog=P) (hw:X.w=w) {st:Stmt} {t:TS} (h:PS X st t):PS X st (yO P w i t):=by
 subst hP hw;intro pins s σ H D I q;obtain ⟨a,kvs,ep,_,e,q⟩:=q;exact h pins s σ _ D (I.release e) q
def Itd (P:Program) (w:World) (a:Addr) (kvs:List (Key×V)) (ep:Nat):It :=
 ⟨fun i H=>H a=some (DE P w a kvs ep)∧i<kvs.length,fun i H x H'=>H'=H∧∃ kv,kvs[i]?=some kv∧x=kV kv.1,fun i H=>H a=some (DE P w a kvs ep)∧kvs.length≤i⟩
theorem vi {P:Program} {w:World} {k:Key} {u:Value} (h:(bA P w).is k u=true):RelV (kV k) u:=by
 rcases bx h with ⟨i,t,rfl,rfl⟩|⟨x,t,rfl,rfl⟩
 ·exact ⟨t,rfl⟩
 ·exact ⟨t,rfl⟩
theorem KV.get {kvs:List (Key×V)} {vs:List (Key×Value)} (r:KV kvs vs) {i:Nat} {p:Key×V} (h:kvs[i]?=some p):∃ q,vs[i]?=some q∧p.1=q.1∧RelV p.2 q.2:=by
 unfold KV at r
 induction r generalizing i with
 | nil=>simp at h
 | @cons a b as bs hab t ih =>
  cases i with
  | zero=>cases h;exact ⟨b,rfl,hab⟩
  | succ i=>exact ih h
theorem rG {P:Program} {w:World} {K:PySem.W.Frag} {tg:Expr} (a it:Addr) (kvs:List (Key×V)) (ep:Nat):Turn P w K tg (Itd P w a kvs ep) [it] it (fun i h=>h.IsKeyIter it a i kvs.length ep) where
 mem:=by simp
 obj:=fun i h st b hb=>by
  have e:b=it:=by simpa using hb
  subst e;obtain ⟨o,e,c,d⟩:=st;exact ⟨o,e,fun v z=>by rw [d] at z;cases z⟩
 keep:=fun i h h' st k=>st.at fun o e=>k it (by simp) o e
 item:=by
  intro X hP hw hK hc i pins s σ H E I hf st hg;subst hP hw hK;obtain ⟨hH,hi⟩:=hg;obtain ⟨z,hd,vs,rel,da⟩:=i0 I hH;obtain ⟨f0,f1,f2,f3,f4,f5⟩:=hf it (by simp)
  obtain ⟨q,hq,e1,r1⟩:=rel.get (List.getElem?_eq_getElem hi);rw [rel.length] at st;refine wpAny_pyNext_dict_item st da (k:=q.1) (v:=q.2) hq fun key h' hk st' sb=>?_;have I1:Inv X pins σ H { s with heap:=h' }:=I.turned (t':=s.toks) (fun b o hb e=>(sb.2 b hb).trans e) f0 f1 f3 f4 f5;obtain ⟨o,e,c,d⟩:=id st';refine ⟨key,rfl,oW (s:={ s with heap:=h' }) e c d (by decide) ⟨kV kvs[i].1,H,I1,?_,⟨rfl,kvs[i],List.getElem?_eq_getElem hi,rfl⟩,?_,fun b hb=>(hf b hb).1⟩⟩
  ·rw [e1];exact vi hk
  ·rw [rel.length];exact st'
 done:=by
  intro X hP hw hK hc i pins s σ H E I hf st hg;subst hP hw hK;obtain ⟨hH,hi⟩:=hg;obtain ⟨z,hd,vs,rel,da⟩:=i0 I hH;obtain ⟨f0,f1,f2,f3,f4,f5⟩:=hf it (by simp)
  have hl:=rel.length;rw [hl] at st;exact wpAny_pyNext_dict_end (I.ok.hd hc) st da (List.getElem?_eq_none (by omega)) fun h' eb=>⟨rfl,I.turned (t':=s.toks) (fun b o hb e=>eb b o hb e) f0 f1 f3 f4 f5⟩
 self:=fun _ _ _ _ _ st h=>wpAny_pyIter_keyiter st h
def sQ (P:Program) (w:World) (x:V) (H:Hp) (R:It→Hp→Prop):Prop:=∃ a kvs ep,x=.ref a∧H a=some (DE P w a kvs ep)∧R (Itd P w a kvs ep) H
def uK (P:Program) (w:World) (tl:TE):TI:=fun σ H R=>tl σ H fun x H1=>sQ P w x H1 R
theorem vG {X:Cx} (P:Program) (w:World) (hP:X.prog=P) (hw:X.w=w) {tg l:Expr} {tl:TE} (hl:PE X l tl):PI X tg l (uK P w tl):=by
 subst hP hw;intro pins s σ H R I h;refine thn (hl pins s σ H _ I h) fun v s1 ⟨x,H1,I1,r1,q1⟩=>?_;obtain ⟨a,kvs,ep,e,hH,q⟩:=q1;subst e;cases r1;obtain ⟨z,hd,vs,rel,da⟩:=i0 I1 hH;have hl:=rel.length;refine wpAny_pyIter_dict hd da ?_;refine ⟨s1.heap.objs.size,[s1.heap.objs.size],_,_,H1,rfl,I1.kept (t':=s1.toks) fun b o e=>Heap.get?_push_of_some _ e,rG a _ kvs ep,⟨_,Heap.get?_push_size _ rfl,rfl,by rw [hl];rfl⟩,fun b hb=>?_,q⟩
 have e:b=s1.heap.objs.size:=by simpa using hb
 subst e;exact I1.iH (Nat.le_refl _) (I1.hok.fresh (Nat.le_refl _))
def mI (P:Program) (w:World) (x y:V) (H:Hp) (Q:VK):Prop:=∃ a kvs ep k v,x=.ref a∧H a=some (DE P w a kvs ep)∧y=kV k∧cb kvs k=some v∧Q v H
def qQ (P:Program) (w:World) (td ty:TE):TE:=fun σ H Q=>td σ H fun x H1=>ty σ H1 fun y H2=>mI P w x y H2 Q
theorem sY {X:Cx} (P:Program) (w:World) (hP:X.prog=P) (hw:X.w=w) {o i:Expr} {pos:Pos} {td ty:TE} (ho:PE X o td) (hi:PE X i ty) (hs:r9 i):PE X (.Subscript o i pos) (qQ P w td ty):=by
 subst hP hw;intro pins s σ H Q I h;refine oF PySem.F.slot_dict_getitem.lookup hs (thn (ho pins s σ H _ I h) fun u s1 ⟨x,H1,I1,rx,q1⟩=>thn (hi pins s1 σ H1 _ I1 q1) fun iv s2 ⟨y,H2,I2,ry,a,kvs,ep,k,v,ex,hH,ey,hv,q2⟩=>?_);subst ex ey;obtain rfl:u=Value.ref a:=rx;obtain ⟨z,hd,vs,rel,da⟩:=i0 I2 hH;obtain ⟨w',hw,rw'⟩:=cc.some_of (v:=v) (o:=valueAt vs k) (by rw [← hv];exact rel.val k)
 exact ⟨da.dictOf.typeIs,wpAny_getItem_of (l9 ry) da.dictOf.mapOf hw ⟨v,H2,I2.tok _,rw',q2⟩⟩
section
variable {P:Program} {w:World} {σ:St} {H:Hp} {Q:VK} {td ty:TE} {tl:TE} {ta:TA} {K:PySem.W.Frag}
theorem vJ {R:It→Hp→Prop} (h:tl σ H fun x H1=>sQ P w x H1 R):uK P w tl σ H R:=h
theorem r6 (h:td σ H fun x H1=>ty σ H1 fun y H2=>mI P w x y H2 Q):qQ P w td ty σ H Q:=h
theorem u7 {a:Addr} {kvs:List (Key×V)} {ep k:Nat} {v:V} (h:H a=some (DE P w a kvs ep)) (hv:cb kvs (nk k)=some v) (q:Q v H):mI P w (.ref a) (.int (k:Int)) H Q:=⟨a,kvs,ep,nk k,v,rfl,h,rfl,hv,q⟩
theorem rP (h:ta σ H fun vs H1=>∃ a xs,vs=[.ref a]∧SqL K H1 a xs∧∀ d,H1 d=none→Q (.ref d) (upd H1 d (.lst xs.reverse))):nF K ta σ H Q:=h
theorem vB {g:TG} {t:TS} {D:Ends} {a:Addr} {kvs:List (Key×V)} {ep:Nat} (h:H a=some (DE P w a kvs ep)) (Pv:Nat→St→Hp→Prop) (h0:Pv 0 σ H) (hl:∀ i σ' H',Pv i σ' H'→H' a=some (DE P w a kvs ep))
  (hs:∀ i p σ' H',kvs[i]?=some p→Pv i σ' H'→g (kV p.1) σ' H' fun σ2 H2=>t { D with nx:=Pv (i+1),ct:=Pv (i+1),bk:=D.nx } σ2 H2) (hd:∀ σ' H',Pv kvs.length σ' H'→D.nx σ' H'):sQ P w (.ref a) H (gg g t D σ):=by
 refine ⟨a,kvs,ep,rfl,h,fun i m σ' H'=>m=kvs.length - i∧i≤kvs.length∧Pv i σ' H',⟨kvs.length,by simp,Nat.zero_le _,h0⟩,?_⟩
 rintro i m σ' H' ⟨rfl,hi,p0⟩;have q:=hl i σ' H' p0
 by_cases hlt:i<kvs.length
 ·refine .inr ⟨⟨q,hlt⟩,Pv (i+1),fun σ2 H2 p'=>⟨kvs.length - (i+1),by omega,rfl,hlt,p'⟩,fun z H2 yl=>?_⟩
  obtain ⟨rfl,kv,hkv,rfl⟩:=yl;exact hs i kv σ' H2 hkv p0
 ·have e:i=kvs.length:=by omega
  subst e;exact .inl ⟨⟨q,Nat.le_refl _⟩,hd σ' H' p0⟩
end
end L2
namespace L2
open PySem PySem.Spec PyProof.Rows
section
variable {X:Cx} {CX:CXT} {k:Nat} {f C:Addr} {fd:FuncData} {ps:List Str} {sp:Sp} {m:Str} {pos apos:Pos} {e o:Expr} {es:List Expr} {ta:TE} {t:TA}
theorem aB {pl:Sem Bool} (he:PE X o ta) (c:Cls X.K C) (hm:Meth X.K C m f) (F:aK X.prog X.w X.K X.mg X.base CX0 k f fd ps sp) (hr:bg k X.A) (hb:Binds X.K fd ps []) (ha:PA X (e :: es) t)
  (hn:isStar e=false:=by rfl) (hall:es.all (fun e=>!isStar e)=true:=by rfl)
  (ht:eval (.Call (.Attribute o m apos) (e :: es) [] pos) X.env=(do
   let ov ← eval o X.env
   standAt apos.atName
   let (f,first) ← holding [ov] (getMethod ov m pl)
   callWith pos f first (backTo pos (starEach (e :: es) X.env)) (backToKw pos (keywordEach [] X.env))):=by rfl) :
  PE X (.Call (.Attribute o m apos) (e :: es) [] pos) (qq C m sp [] E0 ta t):=uU he c hm F hr hb .nil jN ha (aR hn) (bP hall) ht
end
section
variable {σ:St} {H:Hp} {Q:VK} {K:PySem.W.Frag}
theorem aG {C:Addr} {m:Str} {sp:Sp} {E:XK} {ta:TE} {t:TA} (h:ta σ H fun x H1=>∃ a dx fs,x=.ref a∧H1 a=some (.ins C dx fs)∧fs.lookup m=none∧t σ H1 fun vs H2=>sp (x :: (vs++[])) H2 Q E):qq C m sp [] E ta t σ H Q:=h
theorem cI {a b:Int} (h:0<b) (q:Q (.int (a % b)) H):rI (fun _ j=>0<j) (fun i j=>.int (i % j)) (.int a) (.int b) H Q:=⟨a,b,rfl,rfl,h,q⟩
theorem i7 {a b:Int} (h:0<b) (h2:b<1073741824) (q:Q (.int (a / b)) H):rI tw (fun i j=>.int (i / j)) (.int a) (.int b) H Q:=⟨a,b,rfl,rfl,⟨by omega,by omega⟩,q⟩
end
def ql (vs:List V) (H:Hp) (R:It→Hp→Prop):Prop:=∃ i j:Int,vs=[.int i,.int j]∧(-(2 ^ 62)≤i∧i<2 ^ 62∧-(2 ^ 62)≤j∧j<2 ^ 62)∧R (Itr i (j - i).toNat) H
theorem gd {X:Cx} {tg a b:Expr} {ta:TA} {p pos:Pos} (hg:Gl X "range") (hm:X.mg "range" = none) (ha:PA X [a,b] ta) (hn:isStar a=false:=by rfl) (hn2:isStar b=false:=by rfl):PI X tg (.Call (.Name "range" p) [a,b] [] pos) (qh ta) :=
 rn hg hm ha (by rw [aR hn,aR hn2];rfl) (by rw [aR hn2];rfl)
section
variable {σ:St} {H:Hp} {Q:VK} {D:Ends} {g:TG} {t:TS} {tA:TA} {tt:TT} {ta:TE} {own:List Str} {fr:List Nat}
theorem jQ {R:It→Hp→Prop} (h:tA σ H fun vs H1=>ql vs H1 R):qh tA σ H R:=h
theorem kY {a b:Int} {lo n:Nat} (e:a=(lo:Int)) (e2:b=((lo+n:Nat):Int)) (hn:lo+n≤1000000) (Pv:Nat→St→Hp→Prop) (h0:Pv 0 σ H)
  (hs:∀ i σ' H',i<n→Pv i σ' H'→g (.int ((lo+i:Nat):Int)) σ' H' fun σ2 H2=>t { D with nx:=Pv (i+1),ct:=Pv (i+1),bk:=D.nx } σ2 H2) (hd:∀ σ' H',Pv n σ' H'→D.nx σ' H'):ql [.int a,.int b] H (gg g t D σ):=by
 subst e e2;refine ⟨lo,_,rfl,⟨by omega,by omega,by omega,by omega⟩,?_⟩
 have z:(((lo+n:Nat):Int) - (lo:Int)).toNat=n:=by omega
 rw [z];refine ⟨fun i m σ' H'=>m=n - i∧i≤n∧Pv i σ' H',⟨n,rfl,Nat.zero_le _,h0⟩,?_⟩;rintro i m σ' H' ⟨rfl,hi,p⟩
 by_cases hlt:i<n
 ·refine .inr ⟨hlt,Pv (i+1),fun σ2 H2 p'=>⟨n - (i+1),by omega,rfl,hlt,p'⟩,fun x H2 y=>?_⟩
  obtain ⟨rfl,rfl⟩:=y;have q:=hs i σ' H2 hlt p;rw [show (((lo+i:Nat):Int))=(lo:Int)+(i:Int) by push_cast;rfl] at q
  exact q
 ·have e:i=n:=by omega
  subst e;exact .inl ⟨Nat.le_refl i,hd σ' H' p⟩
theorem nX {a b:Int} {lo n:Nat} (e:a=(lo:Int)) (e2:b=((lo+n:Nat):Int)) (hz:lo+n≤100000) (W:Addr→Nat→St→Hp→List V→Prop)
  (hal:∀ d i σ' H' ys,i≤n→W d i σ' H' ys→ys.length≤i) (h0:∀ d,H d=none→W d 0 (bI own fr σ) (upd H d (.lst [])) [])
  (turn:∀ d i σ' H' ys (R:St→V→Hp→Prop) (R0:St→Hp→Prop),H d=none→i<n→W d i σ' H' ys→H' d=some (.lst ys) →
   (∀ σ2 y H5,H5 d=some (.lst ys)→W d (i+1) σ2 (upd H5 d (.lst (ys++[y]))) (ys++[y])→R σ2 y H5)→(∀ σ2 H5,H5 d=some (.lst ys)→W d (i+1) σ2 H5 ys→R0 σ2 H5) →
   g (.int ((lo+i:Nat):Int)) σ' H' fun σ2 H3=>tt σ2 H3 fun ok H4=>if ok=true then ta σ2 H4 (R σ2) else R0 σ2 H4)
  (fin:∀ d σ' H' ys,H d=none→H' d=some (.lst ys)→W d n σ' H' ys→Q (.ref d) H'):ql [.int a,.int b] H (eB own fr g tt ta σ Q):=by
 subst e e2;refine ⟨lo,_,rfl,⟨by omega,by omega,by omega,by omega⟩,?_⟩
 have z:(((lo+n:Nat):Int) - (lo:Int)).toNat=n:=by omega
 rw [z];refine iF (n:=n) W (by omega) (fun d i σ' H' ys hi _=>hi) (fun d σ' H' ys _=>Nat.le_refl n) hal h0 (fun d i σ' H' ys x H2 R R0 hd hi w hys hy=>?_) fin
 obtain ⟨e1,e2⟩:=hy;subst e1 e2;have q:=turn d i σ' _ ys R R0 hd hi w hys;rw [show (((lo+i:Nat):Int))=(lo:Int)+(i:Int) by push_cast;rfl] at q
 exact q
end
end L2
namespace L2
open PySem PySem.Spec PyProof.Rows
section
variable {X:Cx} {scope:Scope} {own:List Str} {fr:List Nat} {pins:List (Addr×Obj)} {σ:St} {H₂:Hp} {s₂:Shared} {fp:List Addr} {C D:Addr} {h₁:Heap} {m:Str→Option Value} {tk:Nat}
end
section
variable {X:Cx} {elt tg iter:Expr} {ifs:List Expr} {scope:Scope} {pos:Pos} {own:List Str} {fr:List Nat} {wi:TI} {g:TG} {tt:TT} {te:TE}
end
end L2
namespace L2
open PySem PySem.Spec PyProof.Rows
section
variable {K:PySem.W.Frag} {H:Hp} {σ:St} {Q:VK} {tt:TT} {ta:TE} {own:List Str} {fr:List Nat}
theorem tO {p p2:Addr} {xs ys:List V} {ia ib:Nat} (he:xs.length=ys.length) (hz:xs.length≤100000) (W:Addr→Nat→St→Hp→List V→Prop) (hw:∀ d i σ' H' zs,W d i σ' H' zs→SqL K H' p xs) (hw2:∀ d i σ' H' zs,W d i σ' H' zs→SqL K H' p2 ys) (hS:SqL K H p xs) (hS2:SqL K H p2 ys)
  (hal:∀ d i σ' H' zs,i≤xs.length→W d i σ' H' zs→zs.length≤i) (h0:∀ d,H d=none→W d 0 (bI own fr σ) (upd H d (.lst [])) [])
  (turn:∀ d i x y σ' H' H2 zs (R:St→V→Hp→Prop) (R0:St→Hp→Prop),H d=none→xs[i]?=some x→ys[i]?=some y→W d i σ' H' zs→H' d=some (.lst zs)→ar H' H2 →
   (∀ σ2 y H5,H5 d=some (.lst zs)→W d (i+1) σ2 (upd H5 d (.lst (zs++[y]))) (zs++[y])→R σ2 y H5)→(∀ σ2 H5,H5 d=some (.lst zs)→W d (i+1) σ2 H5 zs→R0 σ2 H5) →
   tt ((σ'.set ia (some x)).set ib (some y)) H2 fun ok H4=>if ok=true then ta ((σ'.set ia (some x)).set ib (some y)) H4 (R ((σ'.set ia (some x)).set ib (some y))) else R0 ((σ'.set ia (some x)).set ib (some y)) H4)
  (fin:∀ d σ' H' zs,H d=none→H' d=some (.lst zs)→W d xs.length σ' H' zs→Q (.ref d) H'):oU K [.ref p,.ref p2] H (eB own fr (kA K 2 (c9 (cg ia) (c9 (cg ib) j8))) tt ta σ Q):=by
 refine ⟨p,p2,xs,ys,rfl,hS,hS2,iF (J:=Itz K p p2) (n:=xs.length) W hz (fun d i σ' H' zs hi w=>⟨xs,xs[i],ys,ys[i]'(by omega),hw d i σ' H' zs w,by simp [hi],hw2 d i σ' H' zs w,by simp [show i<ys.length by omega]⟩)
  (fun d σ' H' zs w=>⟨xs,ys,hw d _ σ' H' zs w,hw2 d _ σ' H' zs w,.inl (Nat.le_refl _)⟩) hal h0 (fun d i σ' H' zs x H2 R R0 hd hi w hzs hy hR hR0=>?_) fin⟩
 obtain ⟨q,x',y',rfl,hq,rfl,e2,e3⟩:=hy;have hx:=e2 xs (hw d i σ' H' zs w);have hy:=e3 ys (hw2 d i σ' H' zs w);refine ⟨q,[x',y'],rfl,SqT.of ai,rfl,⟨_,_,rfl,⟨_,_,rfl,⟨rfl,?_⟩⟩⟩⟩;exact turn d i x' y' σ' H' _ zs R R0 hd hx hy w hzs (aD hq _) hR hR0
end
end L2
namespace L2
open PySem PySem.Spec PyProof.Rows
section
variable {X:Cx}
def uw (i j:Int):Prop:=i.natAbs<2 ^ 250∧j.natAbs<2 ^ 250
theorem bits_le {k:Int} {n:Nat} (h:k.natAbs<2 ^ n):Builtin.Int.intBits k≤n:=by
 unfold Builtin.Int.intBits
 split
 ·omega
 ·next c =>
  have hk:k.natAbs≠0:=fun z=>c (by have:=Int.natAbs_eq_zero.mp z;simp [this])
  have:=(Nat.log2_lt hk).mpr h;omega
theorem uw.ok {i j:Int} (h:uw i j):IntMulOk i j:=by
 have h1:=bits_le h.1;have h2:=bits_le h.2;unfold IntMulOk;intro c;simp only [Bool.and_eq_true] at c;have c2:=c.2;unfold Builtin.Int.intTooBig at c2;have c3:=of_decide_eq_true c2;have:(2000:Int)≤(bitsLine:Int):=by decide
 omega
end
end L2
namespace L2
section
variable {α:Type} {us:List α}
theorem len0 (h:us.length=0):us=[]:=List.length_eq_zero_iff.mp h
theorem mD {n:Nat} (h:us.length=n+1):∃ a r,us=a :: r∧r.length=n:=by
 cases us with
 | nil=>simp at h
 | cons a r=>exact ⟨a,r,rfl,by simpa using h⟩
theorem yw (h:us.length=1):∃ a,us=[a]:=by
 obtain ⟨a,r,rfl,h2⟩:=mD h;obtain rfl:=len0 h2;exact ⟨a,rfl⟩
theorem yr (h:us.length=2):∃ a b,us=[a,b]:=by
 obtain ⟨a,r,rfl,h2⟩:=mD h;obtain ⟨b,rfl⟩:=yw h2;exact ⟨a,b,rfl⟩
theorem x6 (h:us.length=3):∃ a b c,us=[a,b,c]:=by
 obtain ⟨a,r,rfl,h2⟩:=mD h;obtain ⟨b,c,rfl⟩:=yr h2;exact ⟨a,b,c,rfl⟩
theorem yj (h:us.length=4):∃ a b c d,us=[a,b,c,d]:=by
 obtain ⟨a,r,rfl,h2⟩:=mD h;obtain ⟨b,c,d,rfl⟩:=x6 h2;exact ⟨a,b,c,d,rfl⟩
theorem AX (h:us.length=5):∃ a b c d e,us=[a,b,c,d,e]:=by
 obtain ⟨a,r,rfl,h2⟩:=mD h;obtain ⟨b,c,d,e,rfl⟩:=yj h2;exact ⟨a,b,c,d,e,rfl⟩
end
end L2
namespace L2
open PySem PySem.Spec PyProof.Rows
theorem aY.there {P:Program} {w:World} {H:Hp} {h:Heap} {a:Addr} {o:HO} (x:aY P w H h a o):∃ ob,h.get? a=some ob:=by
 cases o with
 | lst xs=>obtain ⟨_,_,_,_,e⟩:=x;exact ⟨_,e⟩
 | tup xs=>obtain ⟨_,_,_,ob,e,_⟩:=x;exact ⟨_,e⟩
 | dK kvs=>obtain ⟨_,_,_,_,o,_,_,e,_⟩:=x;exact ⟨_,e⟩
 | dT kvs=>obtain ⟨_,_,_,_,o,_,_,e,_⟩:=x;exact ⟨_,e⟩
 | set S n=>obtain ⟨o,_,_,_,e,_⟩:=x;exact ⟨_,e⟩
 | ins C dx fs=>obtain ⟨_,_,_,e,_⟩:=x;exact ⟨_,e⟩
 | own y=>exact x
 | xd fs=>obtain ⟨_,⟨_,_,_,e,_⟩,_⟩:=x;exact ⟨_,e⟩
 | rng lo hi=>obtain ⟨_,_,_,e⟩:=x;exact ⟨_,e⟩
 | frz ob u=>obtain ⟨e,_⟩:=x;exact ⟨_,e⟩
 | tbl ps=>exact ⟨_,(show h.get? a=some _ from x)⟩
 | met f y=>exact ⟨_,(show h.get? a=some _ from x)⟩
 | ext φ=>obtain ⟨_,e,_⟩:=x;exact e
def Bl (h:Heap) (x T C:Addr) (d:Option Addr) (fl:Value):Prop:=∃ oe vs oT ts,h.get? x=some oe∧oe.cls=.ref C∧oe.dict=d∧oe.data=.fields vs∧vs[1]?=some (.ref T)∧T≠x∧h.get? T=some oT∧oT.data=.fields ts∧ts[3]?=some fl
structure gZ (l:List Env) (x:Addr) (ts:List Addr) (C:Addr) (d:Option Addr) (fl:Value) (T:Addr) (h h':Heap):Prop where
 keep:∀ b o,b∉frs l→b≠x→b∉ts→h.get? b=some o→h'.get? b=some o
 slot:∀ b o,b∈frs l→h.get? b=some o→∃ sl,h'.get? b=some { o with slots:=sl }
 exc:Bl h' x T C d fl
 new:T∈ts∨h.get? T=none
theorem gZ.on {l:List Env} {x T C:Addr} {ts:List Addr} {d:Option Addr} {f1 f2:Value} {h h1 h2:Heap} (a:gZ l x ts C d f1 T h h1) (b:gZ l x [T] C d f2 T h1 h2):gZ l x ts C d f2 T h h2 where
 keep:=fun c o k1 k2 k3 q=>b.keep c o k1 k2 (fun z=>by
  rw [List.mem_singleton.mp z] at k3 q;exact a.new.elim k3 fun y=>by rw [y] at q;cases q) (a.keep c o k1 k2 k3 q)
 slot:=fun c o k q=>by
  obtain ⟨s1,q1⟩:=a.slot c o k q;obtain ⟨s2,q2⟩:=b.slot c _ k q1;exact ⟨s2,q2⟩
 exc:=b.exc
 new:=a.new
section
variable {M:Model} {A:Around} {E:Value→Shared→Prop} {s:Shared} {base:Heap} {env:Env} {outer:List Env} {L x T C:Addr} {d:Option Addr} {fl:Value} {Q:Unit→Shared→Prop}
theorem gZ.dk {l:List Env} {ts:List Addr} {h h':Heap} (F:gZ l x ts C d fl T h h') (hl:h.FunFrames base l):h'.FunFrames base l:=by
 have all:∀ m:List Env,(∀ b∈frs m,b∈frs l)→h.FunFrames base m→h'.FunFrames base m:=by
  intro m
  induction m with
  | nil=>intro _ _;trivial
  | cons e r ih =>
   intro hs ⟨hk,⟨L,o,hf,hn,ho,hd⟩,hr⟩;have e1:frs (e :: r)=L :: frs r:=by unfold frs;rw [List.filterMap_cons,hf]
   rw [e1] at hs;obtain ⟨sl,q⟩:=F.slot L o (hs L (.head _)) ho;exact ⟨hk,⟨L,_,hf,hn,q,hd⟩,ih (fun b hb=>hs b (.tail _ hb)) hr⟩
 exact all l (fun _ z=>z) hl
end
structure Up (X:Cx) (pins:List (Addr×Obj)) (σ:St) (H:Hp) (s:Shared) (x:Addr) (ts:List Addr):Prop where
 inv:Inv X pins σ H s
 fx:H x=none
 fT:∀ b∈ts,H b=none
 nx:X.s₀.heap.get? x=none
 nT:∀ b∈ts,X.s₀.heap.get? b=none
 px:∀ p∈X.pn++pins,p.1≠x∧p.1∉ts
section
variable {X:Cx} {pins:List (Addr×Obj)} {σ:St} {H H':Hp} {s s':Shared} {x T C:Addr} {d:Option Addr} {fl:Value} {ts:List Addr} {h':Heap} {E:XK} {e:Value}
end
section
variable {P:Program} {w:World} {K:PySem.W.Frag} {mg:Str→Option Value} {base:Heap} {N:List Str} {qual:Str} {scope:Scope} {f:Addr} {cd:Value} {A:Around} {outer:List Env} {s:Shared} {H:Hp} {E:XK}
end
section
variable {X:Cx} {E:XK} {C:Addr} {x:Str} {np cpos pos:Pos} {e:Expr} {es:List Expr} {ta:TA}
end
section
variable {X:Cx} {pos:Pos}
end
section
variable {X:Cx} {pins:List (Addr×Obj)} {σ:St} {H:Hp} {s:Shared} {x T C:Addr} {ts:List Addr}
end
section
variable {X:Cx} {pins:List (Addr×Obj)} {σ:St} {H:Hp} {s:Shared} {e:Value}
section
variable {x T C B:Addr} {d:Option Addr} {cn:Str} {np:Pos} {b:Bool}
end
end
end L2
namespace L2
open PySem PySem.Spec PyProof.Rows
section
variable {X:Cx} {x:Str} {st:Stmt} {ps:List Str} {k:Nat} {sp:Sp} {p pos:Pos} {e:Expr} {es:List Expr} {t:TA} {E:XK}
end
section
variable {K:PySem.W.Frag} {B C:Addr} {i:Nat} {tb t u:TXs} {ts:TS} {D:Ends} {σ:St} {H:Hp} {c:TT} {te:TXe} {sp:Sp} {ta:TA} {Q:VK} {Ex:St→Hp→Addr→Option Addr→Prop} {Eh:Hp→Addr→Option Addr→Prop} {E:XK} {th:TH}
end
section
open PySem.Calls PySem.Builtin PySem.Builtin.ObjectAttr PySem.Builtin.Getset_descriptor
variable {prog:Program} {w:World} {A:Around} {E:Value→Shared→Prop} {K:PySem.W.Frag} {x C:Addr} {di:Option Addr} {h:Heap} {g:Array GenState} {d:Drawn} {t:Nat} {os:OsState}
end
section
variable {K:PySem.W.Frag} {H:Hp} {Q:VK} {x C D:Addr} {d:Option Addr} {b:Bool}
end
end L2
namespace L2
open PySem PySem.Spec PyProof.Rows
section
variable {M:Model} {A:Around} {E:Value→Shared→Prop} {s:Shared} {base:Heap} {env:Env} {l:List Env} {L x T C:Addr} {d:Option Addr}
end
section
variable {X:Cx} {pins:List (Addr×Obj)} {σ:St} {H:Hp} {s s':Shared} {x T C:Addr} {d:Option Addr} {ts:List Addr} {h':Heap} {E:XK} {e:Value} {fl:Value}
theorem Up.bare (U:Up X pins σ H s x ts):Up X [] σ H s x ts:=by
 have I:=U.inv;exact ⟨⟨I.ok,I.os,I.bare,I.base,I.loc,I.cell,I.free,I.dw,fun p hp=>I.pin p (by rw [List.append_nil] at hp;exact List.mem_append_left _ hp),I.hok,I.len⟩,U.fx,U.fT,U.nx,U.nT,fun p hp=>U.px p (by rw [List.append_nil] at hp;exact List.mem_append_left _ hp)⟩
theorem Up.cv {F:Value→Shared→Prop} (U:Up (X.dE F) pins σ H s x ts):Up X pins σ H s x ts:=⟨U.inv.cv,U.fx,U.fT,U.nx,U.nT,U.px⟩
end
section
variable {P:Program} {w:World} {K:PySem.W.Frag} {mg:Str→Option Value} {base:Heap} {N:List Str} {qual:Str} {scope:Scope} {f:Addr} {cd:Value} {A:Around} {outer:List Env} {s:Shared} {H:Hp} {E:XK}
end
section
variable {X:Cx} {pos:Pos}
end
section
variable {σ:St} {H:Hp} {Q:VK} {D:Ends} {Ex:St→Hp→Addr→Option Addr→Prop} {Eh:Hp→Addr→Option Addr→Prop}
end
end L2
namespace L2
def Back (U N:St→Hp→Prop):Prop:=∀ σ' H',U σ' H'→N σ' H'
theorem jd {t u:TS} {D:Ends} {σ:St} {H:Hp} (h:∀ N:St→Hp→Prop,Back (u D) N→t { D with nx:=N } σ H):wA t u D σ H:=h _ fun _ _ z=>z
theorem jk {U N:St→Hp→Prop} {σ:St} {H:Hp} (h:Back U N) (q:U σ H):N σ H:=h σ H q
end L2
namespace L2
open PySem PySem.Spec PyProof.Rows
section
variable {X:Cx} {k:Nat} {f C:Addr} {fd:FuncData} {ps:List Str} {sp:Sp} {x m:Str} {p pos apos:Pos} {e:Expr} {es:List Expr} {t:TA}
end
section
variable {X:Cx} {k:Nat} {f C:Addr} {fd:FuncData} {ps ks:List Str} {sp:Sp} {x:Str} {p pos kpos:Pos} {e a:Expr} {es:List Expr} {kws:List Keyword} {t tk:TA} {te:TE} {g:List Value→List Value→List Value} {gV:List V→List V→List V}
end
section
variable {X:Cx} {pins:List (Addr×Obj)} {σ:St} {H:Hp} {s:Shared} {A:Around} {α β:Type} [Rep α] [DecidableEq α] [aS α] [Rep β] [DecidableEq β] [aS β]
end
end L2
namespace PySem
open Sem (wp)
section
variable {prog:Program} {w:World} {A:Around} {E:Value→Shared→Prop} {s:Shared}
end
end PySem
namespace PySem
open Sem (wp)
section
variable {prog:Program} {w:World} {A:Around} {E:Value→Shared→Prop} {s:Shared}
abbrev uN (h:Heap) (z TI TO T:Addr) (b:Bool):Prop:=h.get? z=some { cls:=.type "zip",dict:=none,data:=.fields #[rawInt T,.bool b,.bool false,.ref TI,.ref TO],slots:=#[] }
end
end PySem
namespace PySem
open Sem (wp)
structure pk (h:Heap) (z TI TO i1 i2 l1 l2:Addr) (i:Nat) (xs ys:Array Value):Prop where
 own:(IsZip h z TI TO .none∧∃ a b,IsPair h TO a b)∨∃ (T:Addr) (b:Bool) (oT:Obj),uN h z TI TO T b∧h.get? T=some oT∧T≠z∧T≠i1∧T≠i2
 ins:IsPair h TI (.ref i1) (.ref i2)
 it1:h.IsListIter i1 l1 i
 it2:h.IsListIter i2 l2 i
 ls1:h.IsList l1 xs
 ls2:h.IsList l2 ys
theorem pk.keep {h h':Heap} {z TI TO i1 i2 l1 l2 d:Addr} {i:Nat} {xs ys:Array Value} (Z:pk h z TI TO i1 i2 l1 l2 i xs ys) (nz:z≠d) (nI:TI≠d) (nO:TO≠d) (n1:i1≠d) (n2:i2≠d) (n3:l1≠d) (n4:l2≠d)
  (k:∀ c o,c≠d→h.get? c=some o→h'.get? c=some o) (hd:∃ o,h'.get? d=some o):pk h' z TI TO i1 i2 l1 l2 i xs ys where
 own:=by
  rcases Z.own with ⟨gz,a,b,gO⟩|⟨T,b,oT,gz,gT,t1,t2,t3⟩
  ·exact .inl ⟨k _ _ nz gz,a,b,k _ _ nO gO⟩
  ·by_cases e:T=d
   ·obtain ⟨o,ho⟩:=hd;exact .inr ⟨T,b,o,k _ _ nz gz,by rw [e];exact ho,t1,t2,t3⟩
   ·exact .inr ⟨T,b,oT,k _ _ nz gz,k _ _ e gT,t1,t2,t3⟩
 ins:=k _ _ nI Z.ins
 it1:=Z.it1.at fun o q=>k _ o n1 q
 it2:=Z.it2.at fun o q=>k _ o n2 q
 ls1:=Z.ls1.at fun o q=>k _ o n3 q
 ls2:=Z.ls2.at fun o q=>k _ o n4 q
section
variable {prog:Program} {w:World} {A:Around} {E:Value→Shared→Prop} {s:Shared} {z TI TO i1 i2 l1 l2:Addr} {xs ys:Array Value}
end
section
variable {prog:Program} {w:World} {A:Around} {E:Value→Shared→Prop} {Kk:Type} [DecidableEq Kk] {knd:KeyKind prog w Kk} {d z TI TO i1 i2 l1 l2:Addr} {xs ys:Array Value} {kvs:List (Kk×Value)}
end
end PySem
namespace L2
open PySem PySem.Spec PyProof.Rows
end L2
namespace L2
open PySem PySem.Spec PyProof.Rows
section
variable {X:Cx} {k:Nat} {f:Addr} {Cs:Addr→Prop} {fd:FuncData} {ps:List Str} {sp:Sp} {m:Str} {pos apos:Pos} {e o:Expr} {es:List Expr} {ta:TE} {t:TA}
end
end L2
namespace L2
open PySem PySem.Spec PyProof.Rows
section
variable {X:Cx}
end
theorem zx {H:Hp} {Q:VK} {a b:Bool} (h:Q (.bl (!decide (a=b))) H):rNe (.bl a) (.bl b) H Q:=⟨rfl,by
 have e:decide (V.bl a=V.bl b)=decide (a=b):=decide_eq_decide.mpr ⟨fun z=>by injection z,fun z=>by rw [z]⟩
 rw [e];exact h⟩
end L2
namespace L2
open PySem
structure Good (led:Bool) (es:Array (Int×Value)) (t:SetTable) (ks:List Nat):Prop where
 plain:t.plain=true
 led:t.led=led
 dum:t.dummies=#[]
 size:t.place.size=es.size
 rise:t.place.toList.Pairwise (· < ·)
 keys:es.toList.map (·.1)=ks.map fun (k:Nat)=>(k:Int)
 nd:ks.Nodup
 lt:∀ k∈ks,k<23
 st:(t.mask=7∧es.size≤4∧∀ j∈t.place.toList,j<8)∨((t.mask=31∧es.size≤18∨t.mask=127)∧t.place.toList=ks)
theorem Good.len {led:Bool} {es:Array (Int×Value)} {t:SetTable} {ks:List Nat} (g:Good led es t ks):es.size=ks.length:=by
 have:=congrArg List.length g.keys;rw [List.length_map,List.length_map,Array.length_toList] at this;exact this
end L2
namespace L2
open PySem PySem.Spec PyProof.Rows
def sR (w:World):Bool:=w.params.followText "set-order"
def Nums (es:Array (Int×Value)):Prop:=∀ e∈es.toList,∃ (k:Nat) (tk:Tok),k<23∧e=((k:Int),Value.int (k:Int) tk)
def iL (h:Heap) (a:Addr) (led:Bool) (ks:List Nat):Prop:=∃ o es ep t,h.get? a=some o∧o.ExactSet∧o.data=.set es ep t∧Nums es∧Good led es t ks
section
variable {prog:Program} {w:World} {A:Around} {E:Value→Shared→Prop} {s:Shared}
end
end L2
namespace L2
open PySem PySem.Spec PyProof.Rows
def kI (h:Heap) (it a:Addr) (slot i n ep:Nat):Prop:=h.get? it=some { cls:=.type "set_iterator",dict:=none,data:=.fields #[.int slot 0,.int i 0,.ref a,.int n 0,.int ep 0],slots:=#[] }
def pX (h:Heap) (a:Addr) (es:Array (Int×Value)) (ep:Nat) (t:SetTable):Prop:=∃ o,h.get? a=some o∧o.ExactSet∧o.data=.set es ep t
def slotAt (t:SetTable) (i:Nat):Nat:=if i=0 then 0 else t.place.getD (i - 1) 0+1
section
variable {prog:Program} {w:World} {A:Around} {E:Value→Shared→Prop} {s:Shared}
end
end L2
namespace L2
open PySem PySem.Spec PyProof.Rows
def pU (w:World) (h:Heap) (it a:Addr) (t:SetTable) (i n ep:Nat):Prop:=kI h it a (slotAt t i) i n ep∨(sR w=true∧∃ sl,kI h it a sl i n ep)
section
variable {prog:Program} {w:World} {A:Around} {E:Value→Shared→Prop} {s:Shared}
theorem pU.keep {h h':Heap} {it a:Addr} {t:SetTable} {i n ep:Nat} (x:pU w h it a t i n ep) (k:∀ o,h.get? it=some o→h'.get? it=some o):pU w h' it a t i n ep:=by
 rcases x with z|⟨c,sl,z⟩
 ·exact .inl (k _ z)
 ·exact .inr ⟨c,sl,k _ z⟩
theorem pX.keep {h h':Heap} {a:Addr} {es:Array (Int×Value)} {ep:Nat} {t:SetTable} (x:pX h a es ep t) (k:∀ o,h.get? a=some o→h'.get? a=some o):pX h' a es ep t:=let ⟨o,ho,r⟩:=x;⟨o,k _ ho,r⟩
end
end L2
namespace L2
open PySem PySem.Spec PyProof.Rows
theorem iL.there {h:Heap} {a:Addr} {led:Bool} {ks:List Nat} (x:iL h a led ks):∃ o,h.get? a=some o:=let ⟨o,_,_,_,ho,_⟩:=x;⟨o,ho⟩
theorem iL.nd {h:Heap} {a:Addr} {led:Bool} {ks:List Nat} (x:iL h a led ks):ks.Nodup∧∀ k∈ks,k<23:=let ⟨_,_,_,_,_,_,_,_,g⟩:=x;⟨g.nd,g.lt⟩
theorem iL.keep {h h':Heap} {a:Addr} {led:Bool} {ks:List Nat} (x:iL h a led ks) (k:∀ o,h.get? a=some o→h'.get? a=some o):iL h' a led ks:=let ⟨o,es,ep,t,ho,r⟩:=x;⟨o,es,ep,t,k _ ho,r⟩
section
variable {H:Hp} {Q:VK} {K:PySem.W.Frag} {v:V} {w:World}
end
end L2
namespace L2
open PySem PySem.Spec PyProof.Rows
section
variable {X:Cx} {elt tg iter:Expr} {ifs:List Expr} {scope:Scope} {pos:Pos} {own:List Str} {fr:List Nat} {wi:TI} {g:TG} {tt:TT} {te:TE}
end
end L2
namespace L2
open PySem PySem.Spec PyProof.Rows
end L2
namespace L2
open PySem PySem.Spec PyProof.Rows
section
variable {prog:Program} {w:World} {A:Around} {K:PySem.W.Frag} {C f:Addr} {R:Result→Shared→Prop} {h:Heap} {g:Array GenState} {d:Drawn} {t:Nat} {os:OsState}
end
section
variable {prog:Program} {w:World} {A:Around} {E:Value→Shared→Prop} {s:Shared} {K:PySem.W.Frag} {C x f:Addr} {name:Str} {v:Value}
end
def Ba (dx:Addr) (fs:List (Str×V)) (h:Heap):Prop:=∃ mA,h.Ns1 dx mA∧∀ f,cc (fs.lookup f) (mA f)
abbrev xdO (dx:Addr) (fs:List (Str×V)):HO:=.ext (Ba dx fs)
section
variable {X:Cx} {pins:List (Addr×Obj)} {σ:St} {H:Hp} {s:Shared} {a C i dx:Addr} {fs:List (Str×V)} {f:Str} {y:V} {u:Value} {A:Around} {E:Value→Shared→Prop}
end
section
variable {prog:Program} {w:World} {A:Around} {E:Value→Shared→Prop} {s:Shared} {env:Env} {C:Addr} {Q:Flow→Shared→Prop}
end
section
variable {X:Cx} {pins:List (Addr×Obj)} {σ:St} {H:Hp} {s:Shared} {E:XK} {C:Addr}
end
section
open PySem.Calls PySem.Builtin PySem.Builtin.ObjectAttr
variable {prog:Program} {w:World} {A:Around} {E:Value→Shared→Prop} {K:PySem.W.Frag} {x C dx:Addr} {di:Option Addr} {h:Heap} {g:Array GenState} {d:Drawn} {t:Nat} {os:OsState} {name:Str} {v:Value} {mA:Str→Option Value}
end
section
variable {K:PySem.W.Frag} {σ:St} {H:Hp} {Q:VK} {D:Ends} {ta tv:TE} {tA:TA} {f:Str} {E:XK} {C:Addr} {sp:Sp}
end
def Fld (H:Hp) (d:Option Addr) (l:List (Str×V)):Prop:=∃ dx fs,d=some dx∧H dx=some (xdO dx fs)∧∀ p∈l,fs.lookup p.1=some p.2
theorem Fld.mono {H H':Hp} {d:Option Addr} {l:List (Str×V)} (s:ar H H'):Fld H d l→Fld H' d l
 | ⟨dx,fs,e,h,k⟩=>⟨dx,fs,e,s _ _ h,k⟩
end L2
namespace L2
open PySem PySem.Spec PyProof.Rows
end L2
namespace L2
open PySem PySem.Spec PyProof.Rows
section
variable {P:Program} {w:World} {K:PySem.W.Frag} {mg:Str→Option Value} {base:Heap} {x qual:Str} {st:Stmt} {f:Addr} {fd:FuncData} {N ps:List Str} {k:Nat} {sp:Sp}
end
section
variable {X:Cx} {x y:Str} {st:Stmt} {ps:List Str} {k j:Nat} {sp:Sp} {p pos:Pos} {e:Expr} {es:List Expr} {t:TA} {E:XK}
end
end L2
namespace L2
open PySem PySem.Spec PyProof.Rows
section
variable {prog:Program} {w:World} {A:Around} {R:Result→Shared→Prop} {s:Shared}
end
section
variable {X:Cx} {scope:Scope} {own:List Str} {fr fp:List Addr} {C:Addr} {s₂:Shared} {H₂:Hp} {E:XK} {pins:List (Addr×Obj)} {σ:St}
end
section
variable {X:Cx} {elt tg iter:Expr} {ifs:List Expr} {scope:Scope} {pos:Pos} {own:List Str} {fr:List Nat} {wi:TI} {g:TG} {tt:TT} {te:TE}
end
end L2
namespace L2
open PySem PySem.W PyProof.Rows
section
variable {lt:Nat→Nat→Bool}
end
end L2
namespace L2
open PySem PySem.W PyProof.Rows PySem.SeqAt
open AutoSeq1 (wpAny_loadPart')
open MeetsSeq MeetsSeq2 MeetsSeq3
section
variable {prog:Program} {w:World} {A:Around} {E:Value→Shared→Prop} {s:Shared}
end
end L2
namespace L2
open PySem PySem.W PySem.Spec PyProof.Rows
def InR {α:Type} (n:Nat) (G:α→Prop):KasT α→Prop
 | .ret a=>G a
 | .ask i j k=>i<n∧j<n∧∀ b,InR n G (k b)
theorem InR.bind {α β:Type} {n:Nat} {G:α→Prop} {G':β→Prop} {f:α→KasT β}:∀ {t:KasT α},InR n G t→(∀ a,G a→InR n G' (f a))→InR n G' (t.bind f)
 | .ret a,h,hf=>hf a h
 | .ask _ _ _,h,hf=>⟨h.1,h.2.1,fun b=>InR.bind (h.2.2 b) hf⟩
section
variable {n:Nat}
end
section
variable {prog:Program} {w:World} {A:Around} {E:Value→Shared→Prop} {s:Shared}
end
end L2
namespace L2
open PySem PySem.W PySem.Spec PyProof.Rows
def Rows (H H':Hp) (d:Addr) (L:List (List Nat)):Prop:=H d=none∧∃ ps:List Addr,H' d=some (.lst (ps.map V.ref))∧Paired (fun p r=>H p=none∧p≠d∧H' p=some (.lst (ma r))) ps L
theorem Rows.since {H0 H H':Hp} {d:Addr} {L:List (List Nat)} (s:ar H0 H) (h:Rows H H' d L):Rows H0 H' d L:=by
 obtain ⟨h1,ps,h2,h3⟩:=h;exact ⟨s.free h1,ps,h2,Paired.dq h3 fun _ _ z=>⟨s.free z.1,z.2⟩⟩
theorem Rows.mono {H H' H'':Hp} {d:Addr} {L:List (List Nat)} (s:ar H' H'') (h:Rows H H' d L):Rows H H'' d L:=by
 obtain ⟨h1,ps,h2,h3⟩:=h;exact ⟨h1,ps,s _ _ h2,Paired.dq h3 fun _ _ z=>⟨z.1,z.2.1,s _ _ z.2.2⟩⟩
theorem iq {α β γ:Type} {F:α→γ→Prop} {G:β→γ→Prop} {f:β→α} (h:∀ b c,G b c→F (f b) c):∀ {l:List β} {m:List γ},Paired G l m→Paired F (l.map f) m
 | _,_,.nil=>.nil
 | _,_,.cons r t=>.cons (h _ _ r) (iq h t)
theorem Rows.at {K:PySem.W.Frag} {H H':Hp} {d:Addr} {L:List (List Nat)} (h:Rows H H' d L):At K H' (.ref d) L:=by
 obtain ⟨h1,ps,h2,h3⟩:=h;exact ⟨d,_,rfl,SqL.of h2,iq (fun p r z=>⟨p,_,rfl,SqL.of z.2.2,oP⟩) h3⟩
theorem Rows.nil {H H':Hp} {d:Addr} (hd:H d=none) (h:H' d=some (.lst [])):Rows H H' d []:=⟨hd,[],h,.nil⟩
end L2
namespace L2
open PySem PySem.W PySem.Spec PyProof.Rows
section
variable {prog:Program} {w:World} {A:Around} {E:Value→Shared→Prop} {s:Shared}
end
end L2
namespace L2
open PySem PySem.Spec PyProof.Rows
section
variable {K:PySem.W.Frag} {h:Heap} {mg:Str→Option Value} {f:Addr} {od an:Option Addr} {sl:Array (Option Value)} {oc kV dc pm cd ct:Value} {x:Str} {st:Stmt} {fd:FuncData}
theorem bd1 {p1:Str} (hb:∀ u1:Value,bindArgs fd ⟨[u1],[]⟩=pure [(p1,u1)]:=by intros;rfl):Binds K fd [p1] []:=.all fun us hl=>by obtain ⟨u1,rfl⟩:=yw hl;exact hb _
def df1 {p1:Str} (X:K.In h) (G:h.Ns mainGlobals mg) (a:PySem.W.nsIn K mainGlobals x=some (some (.ref f)):=by k_is) (l:K.lookup f=some ⟨oc,od,.func (PySem.W.fnOf x x (bu st) (a9 st) (aj st) .none kV dc pm an cd ct),sl⟩:=by k_is) (c:PySem.W.codeIn K cd x=true:=by k_is) (k:PySem.W.keepIn K (.ref f)=true:=by k_is)
  (hb:∀ u1:Value,bindArgs (PySem.W.fnOf x x (bu st) (a9 st) (aj st) .none kV dc pm an cd ct) ⟨[u1],[]⟩=pure [(p1,u1)]:=by intros;rfl):Df K mg x st [p1]:=⟨f,_,gY l c k,bd1 hb,PySem.W.mg_of X G a⟩
theorem bd2 {p1 p2:Str} (hb:∀ u1 u2:Value,bindArgs fd ⟨[u1,u2],[]⟩=pure [(p1,u1),(p2,u2)]:=by intros;rfl):Binds K fd [p1,p2] []:=.all fun us hl=>by obtain ⟨u1,u2,rfl⟩:=yr hl;exact hb _ _
def df2 {p1 p2:Str} (X:K.In h) (G:h.Ns mainGlobals mg) (a:PySem.W.nsIn K mainGlobals x=some (some (.ref f)):=by k_is) (l:K.lookup f=some ⟨oc,od,.func (PySem.W.fnOf x x (bu st) (a9 st) (aj st) .none kV dc pm an cd ct),sl⟩:=by k_is) (c:PySem.W.codeIn K cd x=true:=by k_is) (k:PySem.W.keepIn K (.ref f)=true:=by k_is)
  (hb:∀ u1 u2:Value,bindArgs (PySem.W.fnOf x x (bu st) (a9 st) (aj st) .none kV dc pm an cd ct) ⟨[u1,u2],[]⟩=pure [(p1,u1),(p2,u2)]:=by intros;rfl):Df K mg x st [p1,p2]:=⟨f,_,gY l c k,bd2 hb,PySem.W.mg_of X G a⟩
theorem bd3 {p1 p2 p3:Str} (hb:∀ u1 u2 u3:Value,bindArgs fd ⟨[u1,u2,u3],[]⟩=pure [(p1,u1),(p2,u2),(p3,u3)]:=by intros;rfl):Binds K fd [p1,p2,p3] []:=.all fun us hl=>by obtain ⟨u1,u2,u3,rfl⟩:=x6 hl;exact hb _ _ _
theorem bd4 {p1 p2 p3 p4:Str} (hb:∀ u1 u2 u3 u4:Value,bindArgs fd ⟨[u1,u2,u3,u4],[]⟩=pure [(p1,u1),(p2,u2),(p3,u3),(p4,u4)]:=by intros;rfl):Binds K fd [p1,p2,p3,p4] []:=.all fun us hl=>by obtain ⟨u1,u2,u3,u4,rfl⟩:=yj hl;exact hb _ _ _ _
def df4 {p1 p2 p3 p4:Str} (X:K.In h) (G:h.Ns mainGlobals mg) (a:PySem.W.nsIn K mainGlobals x=some (some (.ref f)):=by k_is) (l:K.lookup f=some ⟨oc,od,.func (PySem.W.fnOf x x (bu st) (a9 st) (aj st) .none kV dc pm an cd ct),sl⟩:=by k_is) (c:PySem.W.codeIn K cd x=true:=by k_is) (k:PySem.W.keepIn K (.ref f)=true:=by k_is)
  (hb:∀ u1 u2 u3 u4:Value,bindArgs (PySem.W.fnOf x x (bu st) (a9 st) (aj st) .none kV dc pm an cd ct) ⟨[u1,u2,u3,u4],[]⟩=pure [(p1,u1),(p2,u2),(p3,u3),(p4,u4)]:=by intros;rfl):Df K mg x st [p1,p2,p3,p4]:=⟨f,_,gY l c k,bd4 hb,PySem.W.mg_of X G a⟩
theorem bd5 {p1 p2 p3 p4 p5:Str} (hb:∀ u1 u2 u3 u4 u5:Value,bindArgs fd ⟨[u1,u2,u3,u4,u5],[]⟩=pure [(p1,u1),(p2,u2),(p3,u3),(p4,u4),(p5,u5)]:=by intros;rfl):Binds K fd [p1,p2,p3,p4,p5] []:=.all fun us hl=>by obtain ⟨u1,u2,u3,u4,u5,rfl⟩:=AX hl;exact hb _ _ _ _ _
def df5 {p1 p2 p3 p4 p5:Str} (X:K.In h) (G:h.Ns mainGlobals mg) (a:PySem.W.nsIn K mainGlobals x=some (some (.ref f)):=by k_is) (l:K.lookup f=some ⟨oc,od,.func (PySem.W.fnOf x x (bu st) (a9 st) (aj st) .none kV dc pm an cd ct),sl⟩:=by k_is) (c:PySem.W.codeIn K cd x=true:=by k_is) (k:PySem.W.keepIn K (.ref f)=true:=by k_is)
  (hb:∀ u1 u2 u3 u4 u5:Value,bindArgs (PySem.W.fnOf x x (bu st) (a9 st) (aj st) .none kV dc pm an cd ct) ⟨[u1,u2,u3,u4,u5],[]⟩=pure [(p1,u1),(p2,u2),(p3,u3),(p4,u4),(p5,u5)]:=by intros;rfl):Df K mg x st [p1,p2,p3,p4,p5]:=⟨f,_,gY l c k,bd5 hb,PySem.W.mg_of X G a⟩
end
section
variable {K:PySem.W.Frag} {h:Heap} {mg:Str→Option Value} {f D:Addr} {od an dd:Option Addr} {sl dsl:Array (Option Value)} {oc kV dc pm cd ct dcl:Value} {x qual:Str} {st:Stmt} {fd:FuncData} {n:Nat}
end
section
variable {K:PySem.W.Frag} {h:Heap} {mg:Str→Option Value} {f C D:Addr} {od an dd:Option Addr} {sl dsl:Array (Option Value)} {oc kV dc pm cd ct dcl:Value} {x qual:Str} {st:Stmt} {v:Value} {n:Nat}
theorem fnk (l:K.lookup f=some ⟨oc,od,.func (PySem.W.fnOf x qual (bu st) (a9 st) (aj st) .none kV dc pm an cd ct),sl⟩:=by k_is) (c:PySem.W.codeIn K cd qual=true:=by k_is) (k:PySem.W.keepIn K (.ref f)=true:=by k_is) :
  Fun K x qual st f (PySem.W.fnOf x qual (bu st) (a9 st) (aj st) .none kV dc pm an cd ct):=gY l c k
theorem mgk (X:K.In h) (G:h.Ns mainGlobals mg) (a:PySem.W.nsIn K mainGlobals x=some (some v):=by k_is):mg x=some v:=PySem.W.mg_of X G a
theorem mgz (X:K.In h) (G:h.Ns mainGlobals mg) (a:PySem.W.nsIn K mainGlobals x=some none:=by k_is):mg x=none:=PySem.W.mg_none_of X G a
theorem A7 (a:PySem.W.plainGet K C Str.empty=true:=by k_is) (b:PySem.W.hasDictIn K C=true:=by k_is) (c:PySem.W.plainOver K C=true:=by k_is) (d:PySem.W.findIn K (.ref C) "__setattr__" = some (some (.builtin "object.__setattr__")):=by k_is):Cls K C:=⟨a,b,c,d⟩
theorem mkk (a:PySem.W.makesIn K C=true:=by k_is) (b:PySem.W.findIn K (.ref C) "__init__" = some (some (.ref f)):=by k_is) (c:PySem.W.isFn K (.ref f)=true:=by k_is) (d:PySem.W.keepIn K (.ref C)=true:=by k_is):Mk K C f:=⟨a,b,c,d⟩
theorem e6 (a:PySem.W.findIn K (.ref C) x=some (some (.ref f)):=by k_is) (b:PySem.W.isFn K (.ref f)=true:=by k_is) (c:PySem.W.keepIn K (.ref f)=true:=by k_is):Meth K C x f:=⟨a,b,c⟩
theorem sD (a:PySem.W.findIn K (.ref C) x=some none:=by k_is):cp K C x:=a
end
theorem fsc {N P:List Str} {sc:Scope} (h1:sc.kind=.function) (h2:sc.isCoroutine=false) (h3:sc.isGenerator=false) (h5:N.take P.length=P) (h:N.Nodup∧(∀ x∈P,sc.names.lookup x=some .local∨sc.names.lookup x=some .cell)∧∀ y∈sc.names,y.2≠.free):aH N P sc:=⟨h1,h2,h3,h.1,h5,h.2.1,h.2.2⟩
theorem csc {sc:Scope} {N:List Str} {scope:Scope} {own:List Str} {fr:List Nat} (h1:scope.kind=.function) (h:(∀ y∈scope.names,y.2≠.cell)∧(∀ y∈scope.names,y.2=.local→scope.names.lookup y.1=some .local)∧(∀ y∈scope.names,y.2=.free→sc.names.lookup y.1=some .cell∨sc.names.lookup y.1=some .free)∧(∀ i∈fr,(N[i]?.bind fun x=>scope.names.lookup x)=some .free)∧(gi own fr N).Nodup):bV sc N scope own fr:=⟨h1,h.1,h.2.1,h.2.2.1,h.2.2.2.1,h.2.2.2.2⟩
end L2
namespace L2
open PySem PySem.Spec PyProof.Rows
section
variable {X:Cx}
def Bg:Nat:=2 ^ 2000
def pC (i j:Int):Prop:=i.natAbs<Bg∧j.natAbs<Bg
theorem pC.ok {i j:Int} (h:pC i j):IntMulOk i j:=by
 have h1:=bits_le (n:=2000) h.1;have h2:=bits_le (n:=2000) h.2;unfold IntMulOk;intro c;simp only [Bool.and_eq_true] at c;have c2:=c.2;unfold Builtin.Int.intTooBig at c2;have c3:=of_decide_eq_true c2;have:(6000:Int)≤(bitsLine:Int):=by decide
 omega
theorem oN:OpR X (binaryOp .Mult) (rI pC fun i j=>.int (i * j)):=opI fun _ _ _ _ _ _ _ hc q=>mul_int q hc.ok
end
end L2
set_option maxHeartbeats 4000000
namespace TB
open PySem L2
seal PE PA PS PSs PT PI PG PGs PO
local macro_rules | `(tactic| walk_at "rd1")=>`(tactic| with_reducible first
 | refine jd (fun _ _=>?_)|refine jk (by assumption) ?_|refine iY ?_|refine lZ ?_|refine jg ?_|refine jE ?_|refine mj ?_|refine r_retN ?_|refine uu ?_
 | refine r_C ?_|refine pT ?_|refine o6 ?_|refine lQ ?_|refine jq ?_|refine jP ?_|refine iX ?_|refine pw ?_|refine qg ?_
 | refine l7 ?_|refine pz ?_|refine me ?_|refine jr ?_|refine r_orV ?_|refine ji ?_|refine r_if ?_|refine lT ?_|refine ju ?_|refine pW ?_|refine jO ?_|refine cS ?_|refine md ?_
 | refine mf ?_|refine g7 ?_|refine g9 ?_|refine iZ ?_|refine pP ?_|refine fX ?_|refine jy ?_|refine jo ?_|refine pD ?_|refine lV ?_|refine jn ?_|refine jv ?_|refine lY ?_|refine jb ?_|refine jI ?_|refine g5 ?_
 | refine r_isN ?_|refine r_notN ?_|refine jK ?_|refine jj ?_|(refine' l5 ?e ?_;(case e=>with_unfolding_all exact rfl)))
local macro_rules | `(tactic| walk_at "rs1")=>`(tactic| with_reducible first
 | refine jd (fun _ _=>?_)|refine jk (by assumption) ?_|refine iY ?_|refine lZ ?_|refine jg ?_|refine jE ?_|refine mj ?_|refine r_retN ?_
 | refine r_C ?_|refine pT ?_|refine o6 ?_|refine lQ ?_|refine jq ?_|refine jP ?_|refine iX ?_|refine pw ?_|refine qg ?_
 | refine l7 ?_|refine pz ?_|refine me ?_|refine jr ?_|refine r_orV ?_|refine ji ?_|refine r_if ?_|refine lT ?_|refine ju ?_|refine pW ?_|refine jO ?_|refine cS ?_|refine md ?_
 | refine mf ?_|refine g7 ?_|refine g9 ?_|refine iZ ?_|refine pP ?_|refine fX ?_|refine jy ?_|refine jo ?_|refine pD ?_|refine lV ?_|refine jn ?_|refine jv ?_|refine lY ?_|refine jb ?_|refine jI ?_|refine g5 ?_
 | refine r_isN ?_|refine r_notN ?_|refine jK ?_|refine jj ?_|(refine' l5 ?e ?_;(case e=>with_unfolding_all exact rfl)))
local macro_rules | `(tactic| walk_at "rs")=>`(tactic| repeat walk_at "rs1")
local macro_rules | `(tactic| walk_at "rd")=>`(tactic| repeat walk_at "rd1")
local macro_rules | `(tactic| walk_at "rw1")=>`(tactic| with_reducible first
 | refine jd (fun _ _=>?_)|refine jk (by assumption) ?_|refine iY ?_|refine lZ ?_|refine jg ?_|refine jE ?_|refine mj ?_|refine r_retN ?_
 | refine r_C ?_|refine pT ?_|refine o6 ?_|refine lQ ?_|refine jq ?_|refine jP ?_|refine iX ?_|refine pw ?_|refine qg ?_
 | refine l7 ?_|refine pz ?_|refine me ?_|refine jr ?_|refine r_orV ?_|refine ji ?_|refine r_if ?_|refine lT ?_|refine ju ?_|refine pW ?_|refine jO ?_
 | refine mf ?_|refine g7 ?_|refine g9 ?_|refine iZ ?_|refine pP ?_|refine fX ?_|refine jy ?_|refine jo ?_|refine pD ?_|refine lV ?_|refine jn ?_|refine jv ?_|refine lY ?_|refine jb ?_|refine jI ?_|refine g5 ?_
 | refine r_isN ?_|refine r_notN ?_|refine jK ?_|refine jj ?_|(refine' l5 ?e ?_;(case e=>with_unfolding_all exact rfl)))
local macro_rules | `(tactic| walk_at "rw")=>`(tactic| repeat walk_at "rw1")
local macro_rules | `(tactic| walk_at "wr")=>`(tactic| repeat (first|exact rS|refine oh ?_ ?_|refine mk_lst ?_ (by decide)|exact qO rfl))
local macro_rules | `(tactic| walk_at "rn1")=>`(tactic| with_reducible first
 | refine jd (fun _ _=>?_)|refine jk (by assumption) ?_|refine iY ?_|refine lZ ?_|refine jg ?_|refine jE ?_|refine mj ?_|refine r_retN ?_
 | refine AW ?_|refine r_C ?_|refine pT ?_|refine o6 ?_|refine Bj ?_|refine xB ?_|refine zt ?_|refine zd ?_|refine yY ?_|refine r_leN ?_|refine zk ?_|refine r_geN ?_
 | refine xg (by first|assumption|omega) ?_|refine ym (by first|assumption|omega) (by first|assumption|omega) ?_|refine wI (by omega) ?_
 | refine lQ ?_|refine jq ?_|refine jP ?_|refine iX ?_|refine pw ?_|refine qg ?_
 | refine l7 ?_|refine pz ?_|refine me ?_|refine jr ?_|refine r_orV ?_|refine ji ?_|refine r_if ?_|refine lT ?_|refine ju ?_|refine pW ?_|refine jO ?_
 | refine mf ?_|refine g7 ?_|refine g9 ?_|refine iZ ?_|refine pP ?_|refine fX ?_|refine jy ?_|refine jo ?_|refine pD ?_|refine zT ?_|refine lV ?_|refine jn ?_|refine jv ?_|refine lY ?_|refine jb ?_|refine jI ?_|refine g5 ?_
 | refine r_isN ?_|refine r_notN ?_|refine jK ?_|refine jj ?_|(refine' l5 ?e ?_;(case e=>with_unfolding_all exact rfl)))
local macro_rules | `(tactic| walk_at "rx1")=>`(tactic| first|walk_at "rn1" | refine r_ix2 (by assumption) (by rfl) ?_|refine uB (by assumption) ?_|refine r_in (by assumption) ?_|refine r_notIn (by assumption) ?_)
local macro_rules | `(tactic| walk_at "rx")=>`(tactic| repeat walk_at "rx1")
local macro_rules | `(tactic| walk_at "ifs")=>`(tactic| with_reducible refine uu ?_)
local macro_rules | `(tactic| walk_at "rn")=>`(tactic| repeat walk_at "rn1")
local macro_rules | `(tactic| walk_at "1") => `(tactic| (walk_at "rx";walk_at "ifs";walk_at "rx"))
local macro_rules | `(tactic| walk_at "2") => `(tactic| (walk_at "rx";refine cS ?_;walk_at "rx"))
local macro_rules | `(tactic| walk_at "3") => `(tactic| (walk_at "rx";refine fG (fun c=>absurd rfl c) (fun _=>?_);walk_at "rx"))
local macro_rules | `(tactic| walk_at "4") => `(tactic| (walk_at "rx";walk_at "rx"))
local macro_rules | `(tactic| walk_at "5") => `(tactic| (walk_at "rx";refine gP ?_))
def top (i:Nat):Stmt:=PySem.Challenge.pw_tracebook_k27_whole_moves_and_norms.main.body.getD i (.Pass ⟨0,0,0,0⟩)
abbrev fP:Stmt:=top 7
abbrev nj:Stmt:=top 8
abbrev gw:Stmt:=top 9
abbrev kL:Stmt:=top 10
abbrev iw:Stmt:=top 13
abbrev mJ:Stmt:=top 14
abbrev gG:Stmt:=top 15
abbrev gX:Stmt:=top 16
abbrev fq:Stmt:=top 17
abbrev e7:Stmt:=top 18
abbrev jc:Stmt:=top 19
abbrev gr:Stmt:=top 20
abbrev lU:Stmt:=top 21
abbrev gM:Stmt:=inClass (top 11) 0
abbrev fw:Stmt:=inClass (top 11) 1
abbrev gJ:Stmt:=inClass (top 11) 2
abbrev eI:Stmt:=inClass (top 11) 4
abbrev gu:Stmt:=inClass (top 11) 5
abbrev fL:Stmt:=inClass (top 11) 7
abbrev gA:Stmt:=inClass (top 11) 8
abbrev gs:Stmt:=inClass (top 11) 9
abbrev d9:Stmt:=inClass (top 11) 10
theorem jB:aH ["many"] ["many"] (aj fP):=fsc rfl rfl rfl rfl (by decide +kernel)
theorem gW:aH ["many","found","divisor"] ["many"] (aj nj):=fsc rfl rfl rfl rfl (by decide +kernel)
theorem cM:aH ["many","found","left","divisor"] ["many","found"] (aj gw):=fsc rfl rfl rfl rfl (by decide +kernel)
theorem cj:aH ["polynomial","divider","degree","left","taken","times","start","place"] ["polynomial","divider"] (aj kL):=fsc rfl rfl rfl rfl (by decide +kernel)
theorem nJ:aH ["_law_found"] ["_law_found"] (aj iw):=fsc rfl rfl rfl rfl (by decide +kernel)
theorem qw:aH ["_law_script","_law_k"] ["_law_script","_law_k"] (aj mJ):=fsc rfl rfl rfl rfl (by decide +kernel)
theorem cq:aH ["_law_script","_law_at_here","_law_cell","_law_number_here"] ["_law_script","_law_at_here"] (aj gG):=fsc rfl rfl rfl rfl (by decide +kernel)
theorem gB:aH ["_law_one","_law_other"] ["_law_one","_law_other"] (aj gX):=fsc rfl rfl rfl rfl (by decide +kernel)
theorem mr:aH ["_law_many"] ["_law_many"] (aj fq):=fsc rfl rfl rfl rfl (by decide +kernel)
theorem bq:aH ["_law_wheel","_law_one","_law_total","_law_made","_law_j","_law_found"] ["_law_wheel","_law_one"] (aj e7):=fsc rfl rfl rfl rfl (by decide +kernel)
theorem fu:aH ["_law_wheel","_law_one","_law_other","_law_i","_law_j","_law_both","_law_far"] ["_law_wheel","_law_one","_law_other","_law_i","_law_j"] (aj jc):=fsc rfl rfl rfl rfl (by decide +kernel)
theorem cL:aH ["_law_wheel","_law_one","_law_other","_law_by","_law_wide","_law_left","_law_right"] ["_law_wheel","_law_one","_law_other","_law_by"] (aj gr):=fsc rfl rfl rfl rfl (by decide +kernel)
theorem b7:aH ["_law_script","_law_cell","_law_some","_law_many","_law_wheel","_law_size","_law_one","_law_other","_law_i","_law_j","_law_total","_law_norm","_law_right"] ["_law_script"] (aj lU):=fsc rfl rfl rfl rfl (by decide +kernel)
theorem lH:aH ["self","many"] ["self","many"] (aj gM):=fsc rfl rfl rfl rfl (by decide +kernel)
theorem jF:aH ["self","counts"] ["self","counts"] (aj fw):=fsc rfl rfl rfl rfl (by decide +kernel)
theorem ck:aH ["self","counts","step","start","totals","k","many","place"] ["self","counts","step","start"] (aj gJ):=fsc rfl rfl rfl rfl (by decide +kernel)
theorem lO:aH ["self","one","other"] ["self","one","other"] (aj eI):=fsc rfl rfl rfl rfl (by decide +kernel)
theorem bO:aH ["self","one","other","totals","j","number","k","more"] ["self","one","other"] (aj gu):=fsc rfl rfl rfl rfl (by decide +kernel)
theorem i9:aH ["self","one"] ["self","one"] (aj fL):=fsc rfl rfl rfl rfl (by decide +kernel)
theorem fR:aH ["self","one","j","divisor"] ["self","one","j"] (aj gA):=fsc rfl rfl rfl rfl (by decide +kernel)
theorem kx:aH ["self","one","many"] ["self","one","many"] (aj gs):=fsc rfl rfl rfl rfl (by decide +kernel)
theorem j5:aH ["self","one"] ["self","one"] (aj d9):=fsc rfl rfl rfl rfl (by decide +kernel)
theorem fA:bV (aj fq) ["_law_many"] { kind:=.function,names:=[(".0",.local),("_law_j",.local),("_law_shared",.globalImplicit),("_law_many",.free)],isGenerator:=false,isCoroutine:=false,more:=[] } ["_law_j"] [0]:=csc rfl (by decide +kernel)
theorem m9:bV (aj lU) ["_law_script","_law_cell","_law_some","_law_many","_law_wheel","_law_size","_law_one","_law_other","_law_i","_law_j","_law_total","_law_norm","_law_right"] { kind:=.function,names:=[(".0",.local),("_law_k",.local),("_law_number",.globalImplicit),("_law_script",.free)],isGenerator:=false,isCoroutine:=false,more:=[] } ["_law_k"] [0]:=csc rfl (by decide +kernel)
theorem m3:bV (aj lU) ["_law_script","_law_cell","_law_some","_law_many","_law_wheel","_law_size","_law_one","_law_other","_law_i","_law_j","_law_total","_law_norm","_law_right"] { kind:=.function,names:=[(".0",.local),("_law_k",.local),("_law_number",.globalImplicit),("_law_script",.free),("_law_size",.free)],isGenerator:=false,isCoroutine:=false,more:=[] } ["_law_k"] [0,5]:=csc rfl (by decide +kernel)
theorem e5:bV (aj eI) ["self","one","other"] { kind:=.function,names:=[(".0",.local),("number",.local),("more",.local)],isGenerator:=false,isCoroutine:=false,more:=[] } ["number","more"] []:=csc rfl (by decide +kernel)
theorem eU:bV (aj d9) ["self","one"] { kind:=.function,names:=[(".0",.local),("number",.local)],isGenerator:=false,isCoroutine:=false,more:=[] } ["number"] []:=csc rfl (by decide +kernel)
set_option genInjectivity false in
set_option genSizeOf false in
structure Txt (K:PySem.W.Frag) (mg:Str→Option Value) where
 cN:Df K mg "check_spokes" fP ["many"]
 fU:Df K mg "circle" nj ["many"]
 cV:Df K mg "next_circle" gw ["many","found"]
 dO:Df K mg "divided" kL ["polynomial","divider"]
 cx:Df K mg "_law_whole" iw ["_law_found"]
 fV:Df K mg "_law_at" mJ ["_law_script","_law_k"]
 cB:Df K mg "_law_number" gG ["_law_script","_law_at_here"]
 dB:Df K mg "_law_shared" gX ["_law_one","_law_other"]
 bX:Df K mg "_law_moves" fq ["_law_many"]
 bJ:Df K mg "_law_all_moves" e7 ["_law_wheel","_law_one"]
 ez:Df K mg "_law_kept" jc ["_law_wheel","_law_one","_law_other","_law_i","_law_j"]
 cW:Df K mg "_law_widened" gr ["_law_wheel","_law_one","_law_other","_law_by"]
 g4:Df K mg "law" lU ["_law_script"]
 aC:Addr
 j3:Addr
 kE:FuncData
 jT:mg "Wheel" = some (.ref aC)
 au:Cls K aC
 j7:Mk K aC j3
 vh:Fun K "__init__" "Wheel.__init__" gM j3 kE
 kF:Binds K kE ["self","many"] []
 fj:cp K aC "rim"
 bt:cp K aC "spokes"
 gL:cp K aC "size"
 dI:Addr
 dC:FuncData
 ku:Meth K aC "lowest" dI
 kH:Fun K "lowest" "Wheel.lowest" fw dI dC
 ky:Binds K dC ["self","counts"] []
 eM:Addr
 eS:FuncData
 de:Meth K aC "laid" eM
 ng:Fun K "laid" "Wheel.laid" gJ eM eS
 du:Binds K eS ["self","counts","step","start"] []
 eJ:Addr
 eP:FuncData
 cG:Meth K aC "plus" eJ
 m5:Fun K "plus" "Wheel.plus" eI eJ eP
 cD:Binds K eP ["self","one","other"] []
 d3:Addr
 dX:FuncData
 bT:Meth K aC "times" d3
 lI:Fun K "times" "Wheel.times" gu d3 dX
 bU:Binds K dX ["self","one","other"] []
 dD:Addr
 dH:FuncData
 kr:Meth K aC "backed" dD
 j4:Fun K "backed" "Wheel.backed" fL dD dH
 jZ:Binds K dH ["self","one"] []
 d5:Addr
 d7:FuncData
 aU:Meth K aC "moved" d5
 lA:Fun K "moved" "Wheel.moved" gA d5 d7
 aT:Binds K d7 ["self","one","j"] []
 dZ:Addr
 d6:FuncData
 cX:Meth K aC "wider" dZ
 lK:Fun K "wider" "Wheel.wider" gs dZ d6
 cY:Binds K d6 ["self","one","many"] []
 ee:Addr
 dY:FuncData
 gy:Meth K aC "whole" ee
 lE:Fun K "whole" "Wheel.whole" d9 ee dY
 gv:Binds K dY ["self","one"] []
 lF:Tok
 lG:mg "MOST_SPOKES" = some (.int 60 lF)
 zp:mg "any" = none
 wN:mg "bool" = none
 fi:mg "enumerate" = none
 AI:mg "int" = none
 gN:mg "isinstance" = none
 cT:mg "len" = none
 rN:mg "list" = none
 eF:mg "range" = none
 pO:mg "reversed" = none
 Aa:mg "zip" = none
def tb (t:List (List Nat)) (i j:Nat):Nat:=(t.getD i []).getD j 0
structure Sq (n:Nat) (t:List (List Nat)):Prop where
 len:t.length=n
 pos:1≤n
 le:n≤23
 row:∀ (i:Nat) (r:List Nat),t[i]?=some r→r.length=n
structure Gd (n:Nat) (t:List (List Nat)):Prop extends Sq n t where
 lt:∀ i j,i<n→j<n→tb t i j<n
structure GT (n:Nat) (t:List (List Nat)) (e:Nat):Prop extends Gd n t where
 elt:e<n
 unl:∀ i,i<n→tb t e i=i
 unr:∀ i,i<n→tb t i e=i
 back:∀ i,i<n→∃ b,b<n∧tb t i b=e∧tb t b i=e
 assoc:∀ i j k,i<n→j<n→k<n→tb t (tb t i j) k=tb t i (tb t j k)
def wX (n:Nat) (t:List (List Nat)) (x:Nat):Prop:=∀ o,o<n→tb t x o=o∧tb t o x=o
instance {n:Nat} {t:List (List Nat)} {x:Nat}:Decidable (wX n t x):=inferInstanceAs (Decidable (∀ o,o<n→tb t x o=o∧tb t o x=o))
def bZ (n:Nat) (t:List (List Nat)) (e a:Nat):Nat:=((List.range n).find? fun b=>decide (tb t a b=e∧tb t b a=e)).getD 0
theorem GT.bk {n:Nat} {t:List (List Nat)} {e a:Nat} (g:GT n t e) (ha:a<n):bZ n t e a<n∧tb t a (bZ n t e a)=e∧tb t (bZ n t e a) a=e:=by
 obtain ⟨b,hb,h⟩:=g.back a ha;unfold bZ;cases q:(List.range n).find? (fun b=>decide (tb t a b=e∧tb t b a=e)) with
 | none =>
  rw [List.find?_range_eq_none] at q;have:=q b hb;simp at this;exact this.elim (fun z=>absurd h.1 z) fun z=>absurd h.2 z
 | some c =>
  have h1:=List.find?_some q;have h2:=List.mem_range.mp (List.mem_of_find?_eq_some q);simp only [decide_eq_true_eq] at h1;exact ⟨h2,h1⟩
def prd (t:List (List Nat)) (e:Nat) (l:List Nat):Nat:=l.foldl (tb t) e
section
variable {m:Nat} {ad:Nat→Nat→Nat} {f:Nat→Nat} {s e:Nat}
end
section
variable {a b c:Nat}
end
theorem GT.rel {n:Nat} {t t':List (List Nat)} {e:Nat} (g:GT n t e) (π:List Nat) (hl:π.length=n) (hm:∀ x,x∈π↔x<n) (sq:Sq n t')
  (h:∀ a b,a<n→b<n→tb t' (π.getD a 0) (π.getD b 0)=π.getD (tb t a b) 0):GT n t' (π.getD e 0):=by
 have into:∀ a,a<n→π.getD a 0<n:=fun a ha=>by
  have:π.getD a 0∈π:=by
   rw [List.getD_eq_getElem?_getD,List.getElem?_eq_getElem (by omega)]
   exact List.getElem_mem _
  exact (hm _).mp this
 have onto:∀ i,i<n→∃ a,a<n∧π.getD a 0=i:=fun i hi=>by
  obtain ⟨a,ha,e'⟩:=List.mem_iff_getElem.mp ((hm i).mpr hi);refine ⟨a,by omega,?_⟩
  rw [List.getD_eq_getElem?_getD,List.getElem?_eq_getElem ha,e'];rfl
 refine ⟨⟨sq,fun i j hi hj=>?_⟩,into e g.elt,fun i hi=>?_,fun i hi=>?_,fun i hi=>?_,fun i j k hi hj hk=>?_⟩
 ·obtain ⟨a,ha,rfl⟩:=onto i hi;obtain ⟨b,hb,rfl⟩:=onto j hj;rw [h a b ha hb];exact into _ (g.lt a b ha hb)
 ·obtain ⟨a,ha,rfl⟩:=onto i hi;rw [h e a g.elt ha,g.unl a ha]
 ·obtain ⟨a,ha,rfl⟩:=onto i hi;rw [h a e ha g.elt,g.unr a ha]
 ·obtain ⟨a,ha,rfl⟩:=onto i hi;obtain ⟨b,hb,x,y⟩:=g.back a ha;exact ⟨π.getD b 0,into b hb,by rw [h a b ha hb,x],by rw [h b a hb ha,y]⟩
 ·obtain ⟨a,ha,rfl⟩:=onto i hi;obtain ⟨b,hb,rfl⟩:=onto j hj;obtain ⟨d,hd,rfl⟩:=onto k hk;rw [h a b ha hb,h b d hb hd,h _ d (g.lt a b ha hb) hd,h a _ ha (g.lt b d hb hd),g.assoc a b d ha hb hd]
theorem sub_len:∀ {l1 l2:List Nat},l1.Nodup→(∀ x∈l1,x∈l2)→l1.length≤l2.length
 | [],_,_,_=>Nat.zero_le _
 | a :: l1,l2,nd,h=>by
  have ha:a∈l2:=h a List.mem_cons_self;rw [List.nodup_cons] at nd;have ih:=sub_len (l1:=l1) (l2:=l2.erase a) nd.2 fun x hx=>(List.mem_erase_of_ne (show x≠a from fun e=>nd.1 (by rw [← e];exact hx))).mpr (h x (List.mem_cons_of_mem _ hx))
  rw [List.length_erase_of_mem ha] at ih;have:0<l2.length:=List.length_pos_of_mem ha;rw [List.length_cons];omega
theorem gK {f:Nat→Nat}:∀ {l:List Nat},l.Nodup→(∀ x∈l,∀ y∈l,f x=f y→x=y)→(l.map f).Nodup
 | [],_,_=>by simp
 | a :: l,nd,h=>by
  rw [List.nodup_cons] at nd;rw [List.map_cons,List.nodup_cons];refine ⟨fun z=>?_,gK nd.2 fun x hx y hy=>h x (List.mem_cons_of_mem _ hx) y (List.mem_cons_of_mem _ hy)⟩;obtain ⟨b,hb,e⟩:=List.mem_map.mp z;exact nd.1 (h b (List.mem_cons_of_mem _ hb) a List.mem_cons_self e ▸ hb)
theorem php {n:Nat} {f:Nat→Nat} (h:∀ i,i≤n→f i<n):∃ i j,i<j∧j≤n∧f i=f j:=by
 by_cases q:∃ i j,i<j∧j≤n∧f i=f j
 ·exact q
 ·exfalso
  have nd:((List.range (n+1)).map f).Nodup:=gK List.nodup_range fun x hx y hy e=>by
   have hx':=List.mem_range.mp hx;have hy':=List.mem_range.mp hy;rcases Nat.lt_trichotomy x y with z|z|z
   ·exact absurd ⟨x,y,z,by omega,e⟩ q
   ·exact z
   ·exact absurd ⟨y,x,z,by omega,e.symm⟩ q
  have:=sub_len nd (l2:=List.range n) fun x hx=>by
   obtain ⟨i,hi,rfl⟩:=List.mem_map.mp hx;exact List.mem_range.mpr (h i (by have:=List.mem_range.mp hi;omega))
  simp at this;omega
section
variable {n:Nat} {t:List (List Nat)} {e:Nat}
theorem GT.l8 (g:GT n t e) {a:Nat} (ha:a<n):bZ n t e a<n:=(g.bk ha).1
theorem GT.tX (g:GT n t e) {a:Nat} (ha:a<n):tb t a (bZ n t e a)=e:=(g.bk ha).2.1
theorem GT.tG (g:GT n t e) {a:Nat} (ha:a<n):tb t (bZ n t e a) a=e:=(g.bk ha).2.2
theorem GT.iO (g:GT n t e) {x y z:Nat} (hx:x<n) (hy:y<n) (hz:z<n) (h:tb t x y=tb t x z):y=z:=by
 have hb:=g.l8 hx;have h1:tb t (bZ n t e x) (tb t x y)=tb t (bZ n t e x) (tb t x z):=by rw [h]
 rw [← g.assoc _ _ _ hb hx hy,← g.assoc _ _ _ hb hx hz,g.tG hx,g.unl y hy,g.unl z hz] at h1;exact h1
theorem GT.yk (g:GT n t e) {a b:Nat} (ha:a<n) (hb:b<n) (h:tb t a b=e):b=bZ n t e a :=
 g.iO ha hb (g.l8 ha) (h.trans (g.tX ha).symm)
def cC (t:List (List Nat)) (e a:Nat):Nat→Nat
 | 0=>e
 | k+1=>tb t (cC t e a k) a
variable {a:Nat}
theorem cQ (g:GT n t e) (ha:a<n):∀ k,cC t e a k<n
 | 0=>g.elt
 | k+1=>g.lt _ _ (cQ g ha k) ha
theorem mw (g:GT n t e) (ha:a<n):cC t e a 1=a:=g.unl a ha
theorem iB (g:GT n t e) (ha:a<n) (i:Nat):∀ j,cC t e a (i+j)=tb t (cC t e a i) (cC t e a j)
 | 0=>(g.unr _ (cQ g ha i)).symm
 | j+1=>by
  show tb t (cC t e a (i+j)) a=tb t (cC t e a i) (tb t (cC t e a j) a);rw [iB g ha i j,g.assoc _ _ _ (cQ g ha i) (cQ g ha j) ha]
theorem vb (g:GT n t e) (ha:a<n):∃ k,k<n∧cC t e a (k+1)=e:=by
 obtain ⟨i,j,hij,hj,q⟩:=php (f:=cC t e a) (n:=n) fun i _=>cQ g ha i;refine ⟨j - i - 1,by omega,?_⟩
 have e1:j=i+(j - i - 1+1):=by omega
 rw [e1,iB g ha] at q;refine (g.iO (cQ g ha i) (cQ g ha _) g.elt ?_);rw [← q,g.unr _ (cQ g ha i)]
def cy (n:Nat) (t:List (List Nat)) (e a:Nat):Nat:=((List.range n).find? fun k=>decide (cC t e a (k+1)=e)).getD 0+1
theorem mO (g:GT n t e) (ha:a<n):cy n t e a≤n∧cC t e a (cy n t e a)=e∧∀ k,1≤k→k<cy n t e a→cC t e a k≠e:=by
 obtain ⟨k,hk,h⟩:=vb g ha;unfold cy;cases q:(List.range n).find? (fun k=>decide (cC t e a (k+1)=e)) with
 | none =>
  rw [List.find?_range_eq_none] at q;have:=q k hk;simp at this;exact absurd h this
 | some c =>
  rw [List.find?_range_eq_some] at q;obtain ⟨h1,h2,h3⟩:=q;have h2':c<n:=by simpa using h2
  refine ⟨by show c+1≤n;omega,by simpa using h1,fun k k1 k2 z=>?_⟩
  have k2':k<c+1:=k2;have:=h3 (k - 1) (by omega)
  rw [show k - 1+1=k by omega,z] at this
  simp at this
theorem oi:1≤cy n t e a:=Nat.succ_le_succ (Nat.zero_le _)
end
theorem dr {l:List Nat} (h:l.Pairwise (· < ·)):l.Nodup:=h.imp fun z=>Nat.ne_of_lt z
theorem dy {l:List Nat} {n:Nat} (nd:l.Nodup) (h:∀ x∈l,x<n):l.length≤n:=by
 have:=sub_len nd (l2:=List.range n) fun x hx=>List.mem_range.mpr (h x hx)
 simpa using this
section
variable {n:Nat} {t:List (List Nat)} {e:Nat}
theorem rL (g:GT n t e) {x:Nat} (hx:x<n):∀ (l:List Nat) {a:Nat},a<n→(∀ y∈l,y<n)→prd t (tb t x a) l=tb t x (prd t a l)
 | [],_,_,_=>rfl
 | y :: l,a,ha,hl=>by
  have hy:=hl y List.mem_cons_self;show prd t (tb t (tb t x a) y) l=tb t x (prd t (tb t a y) l);rw [g.assoc x a y hx ha hy];exact rL g hx l (g.lt a y ha hy) fun z hz=>hl z (List.mem_cons_of_mem _ hz)
theorem tU (g:GT n t e) {x:Nat} (hx:x<n) {l:List Nat} (hl:∀ y∈l,y<n):prd t x l=tb t x (prd t e l):=by
 rw [← rL g hx l g.elt hl,g.unr x hx]
structure Gen (n:Nat) (t:List (List Nat)) (e:Nat) (S P:List Nat):Prop where
 srt:P.Pairwise (· < ·)
 lt:∀ x∈P,x<n
 un:e∈P
 cl:∀ x∈P,∀ s∈S,tb t x s∈P
 wd:∀ x∈P,∃ l,(∀ y∈l,y∈S)∧prd t e l=x
structure IsPart (n:Nat) (t:List (List Nat)) (P:List Nat):Prop where
 srt:P.Pairwise (· < ·)
 lt:∀ x∈P,x<n
 ne:P≠[]
 cl:∀ x∈P,∀ y∈P,tb t x y∈P
variable {S P:List Nat}
theorem Gen.walk (G:Gen n t e S P):∀ (l:List Nat) {x:Nat},x∈P→(∀ y∈l,y∈S)→prd t x l∈P
 | [],_,hx,_=>hx
 | y :: l,x,hx,hl=>G.walk l (G.cl x hx y (hl y List.mem_cons_self)) fun z hz=>hl z (List.mem_cons_of_mem _ hz)
theorem Gen.part (G:Gen n t e S P) (g:GT n t e) (hS:∀ s∈S,s<n):IsPart n t P:=by
 refine ⟨G.srt,G.lt,List.ne_nil_of_mem G.un,fun x hx y hy=>?_⟩;obtain ⟨l,hl,rfl⟩:=G.wd y hy;rw [← tU g (G.lt x hx) fun z hz=>hS z (hl z hz)];exact G.walk l hx hl
theorem IsPart.pow (h:IsPart n t P) (g:GT n t e) {x:Nat} (hx:x∈P):∀ k,cC t e x (k+1)∈P
 | 0=>by rw [mw g (h.lt x hx)];exact hx
 | k+1=>h.cl _ (h.pow g hx k) _ hx
theorem IsPart.un (h:IsPart n t P) (g:GT n t e):e∈P:=by
 obtain ⟨x,hx⟩:=List.exists_mem_of_ne_nil _ h.ne;have o:=mO g (h.lt x hx);have:=h.pow g hx (cy n t e x - 1);rw [show cy n t e x - 1+1=cy n t e x by have:=oi (n:=n) (t:=t) (e:=e) (a:=x);omega,o.2.1] at this
 exact this
theorem IsPart.bk (h:IsPart n t P) (g:GT n t e) {x:Nat} (hx:x∈P):bZ n t e x∈P:=by
 have hn:=h.lt x hx;have o:=mO g hn;have op:1≤cy n t e x:=oi;have q:tb t x (cC t e x (cy n t e x - 1))=e:=by
  have:=iB g hn 1 (cy n t e x - 1);rw [show 1+(cy n t e x - 1)=cy n t e x by omega,o.2.1,mw g hn] at this
  exact this.symm
 rw [← g.yk hn (cQ g hn _) q];cases h1:cy n t e x - 1 with
 | zero=>exact h.un g
 | succ k=>exact h.pow g hx k
theorem IsPart.len (h:IsPart n t P):P.length≤n:=dy (dr h.srt) h.lt
theorem Gen.len (G:Gen n t e S P):P.length≤n:=dy (dr G.srt) G.lt
theorem Gen.has (G:Gen n t e S P) (g:GT n t e) {s:Nat} (hs:s∈S) (hn:s<n):s∈P:=by
 have:=G.cl e G.un s hs;rw [g.unl s hn] at this;exact this
theorem Gen.least (G:Gen n t e S P) {R:List Nat} (he:e∈R) (cl:∀ x∈R,∀ s∈S,tb t x s∈R):∀ x∈P,x∈R:=fun x hx=>by
 obtain ⟨l,hl,rfl⟩:=G.wd x hx;have key:∀ (l:List Nat) {a:Nat},a∈R→(∀ y∈l,y∈S)→prd t a l∈R:=fun l=>by
  induction l with
  | nil=>intro a ha _;exact ha
  | cons y r ih=>intro a ha hy;exact ih (cl a ha y (hy y List.mem_cons_self)) fun z hz=>hy z (List.mem_cons_of_mem _ hz)
 exact key l he hl
structure we (n:Nat) (t:List (List Nat)) (e:Nat) (S F:List Nat) (A:Nat):Prop where
 nd:F.Nodup
 lt:∀ x∈F,x<n
 un:e∈F
 le:A≤F.length
 cl:∀ i x,i<A→F[i]?=some x→∀ s∈S,tb t x s∈F
 wd:∀ x∈F,∃ l,(∀ y∈l,y∈S)∧prd t e l=x
theorem we.len {F:List Nat} {A:Nat} (G:we n t e S F A):F.length≤n:=dy G.nd G.lt
end
section
variable {n:Nat} {t:List (List Nat)} {e:Nat} {R:List Nat}
theorem eX (g:GT n t e) (p:IsPart n t R) {x y:Nat} (hx:x<n) (hy:y<n):tb t (bZ n t e x) y∈R↔∃ h,h∈R∧tb t x h=y:=by
 have hb:=g.l8 hx;constructor
 ·intro h;refine ⟨_,h,?_⟩;rw [← g.assoc _ _ _ hx hb hy,g.tX hx,g.unl y hy]
 ·rintro ⟨h,hh,rfl⟩;rw [← g.assoc _ _ _ hb hx (p.lt h hh),g.tG hx,g.unl h (p.lt h hh)];exact hh
theorem r0 (g:GT n t e) (p:IsPart n t R) {x:Nat} (hx:x<n):tb t (bZ n t e x) x∈R:=by
 rw [g.tG hx];exact p.un g
theorem kM (g:GT n t e) (p:IsPart n t R) {a x y:Nat} (ha:a<n) (hx:x<n) (hy:y<n) (h1:tb t (bZ n t e a) x∈R) (h2:tb t (bZ n t e a) y∈R):tb t (bZ n t e x) y∈R:=by
 obtain ⟨k1,hk1,rfl⟩:=(eX g p ha hx).mp h1;obtain ⟨k2,hk2,rfl⟩:=(eX g p ha hy).mp h2;have l1:=p.lt k1 hk1;have l2:=p.lt k2 hk2;have lb:=g.l8 l1;refine (eX g p hx hy).mpr ⟨tb t (bZ n t e k1) k2,p.cl _ (p.bk g hk1) _ hk2,?_⟩;rw [g.assoc _ _ _ ha l1 (g.lt _ _ lb l2),← g.assoc k1 _ _ l1 lb l2,g.tX l1,g.unl k2 l2]
theorem lg (g:GT n t e) (p:IsPart n t R) {a x:Nat} (ha:a<n) (hx:x<n) (h:tb t (bZ n t e a) x∈R):tb t (bZ n t e x) a∈R:=kM g p ha hx ha h (r0 g p ha)
structure fI (n:Nat) (t:List (List Nat)) (e:Nat) (R:List Nat) (L:List (List Nat)) (i:Nat):Prop where
 ne:∀ s∈L,s≠[]
 srt:∀ s∈L,s.Pairwise (· < ·)
 lt:∀ s∈L,∀ x∈s,x<n
 len:∀ s∈L,s.length=R.length
 full:∀ s∈L,∀ y,y<n→(y∈s↔tb t (bZ n t e (s.getD 0 0)) y∈R)
 heads:(L.map fun s=>s.getD 0 0).Pairwise (· < ·)
 hl:∀ s∈L,s.getD 0 0<i
 nd:L.flatten.Nodup
 cov:∀ y,y<i→y∈L.flatten
theorem fI.nil:fI n t e R [] 0 :=
 ⟨by simp,by simp,by simp,by simp,by simp,by simp,by simp,by simp,fun y h=>absurd h (by omega)⟩
theorem head_mem {s:List Nat} (h:s≠[]):s.getD 0 0∈s:=by
 cases s with
 | nil=>exact absurd rfl h
 | cons a r=>simp
theorem fI.new {L:List (List Nat)} {i:Nat} {s:List Nat} (S:fI n t e R L i) (g:GT n t e) (p:IsPart n t R) (hi:i<n) (h:i∉L.flatten) (hs:s.Pairwise (· < ·)) (hm:∀ y,y∈s↔∃ k,k∈R∧tb t i k=y):fI n t e R (L++[s]) (i+1):=by
 have hlt:∀ y∈s,y<n:=fun y hy=>by
  obtain ⟨k,hk,rfl⟩:=(hm y).mp hy;exact g.lt _ _ hi (p.lt k hk)
 have his:i∈s:=(hm i).mpr ⟨e,p.un g,g.unr i hi⟩;have hne:s≠[]:=List.ne_nil_of_mem his;have apart:∀ y∈s,y∉L.flatten:=fun y hy hf=>by
  obtain ⟨s',hs',hy'⟩:=List.mem_flatten.mp hf;have hn:=hlt y hy;have h0:=S.lt s' hs' _ (head_mem (S.ne s' hs'));have q1:=(S.full s' hs' y hn).mp hy';have q2:tb t (bZ n t e i) y∈R:=(eX g p hi hn).mpr ((hm y).mp hy);have q3:=lg g p hi hn q2;have q4:=kM g p hn h0 hi (lg g p h0 hn q1) q3;exact h (List.mem_flatten.mpr ⟨s',hs',(S.full s' hs' i hi).mpr q4⟩)
 have hge:∀ y∈s,i≤y:=fun y hy=>by
  rcases Nat.lt_or_ge y i with z|z
  ·exact absurd (S.cov y z) (apart y hy)
  ·exact z
 have h0:s.getD 0 0=i:=by
  have h1:=hge _ (head_mem hne);cases s with
  | nil=>exact absurd rfl hne
  | cons a r =>
   have h1:i≤a:=h1;show a=i;rcases List.mem_cons.mp his with z|z
   ·exact z.symm
   ·have:=(List.pairwise_cons.mp hs).1 i z;omega
 have hnd:=dr hs;have hlen:s.length=R.length:=by
  have m1:(R.map (tb t i)).Nodup:=gK (dr p.srt) fun x hx y hy q=>g.iO hi (p.lt x hx) (p.lt y hy) q;have e1:=sub_len hnd (l2:=R.map (tb t i)) fun y hy=>by
   obtain ⟨k,hk,q⟩:=(hm y).mp hy;exact List.mem_map.mpr ⟨k,hk,q⟩
  have e2:=sub_len m1 (l2:=s) fun y hy=>by
   obtain ⟨k,hk,q⟩:=List.mem_map.mp hy;exact (hm y).mpr ⟨k,hk,q⟩
  rw [List.length_map] at e1 e2;omega
 have two:∀ {Z:List Nat→Prop},(∀ s'∈L,Z s')→Z s→∀ s'∈L++[s],Z s':=fun {Z} a b s' hs'=>by
  rcases List.mem_append.mp hs' with z|z
  ·exact a s' z
  ·rw [List.mem_singleton.mp z];exact b
 refine ⟨two S.ne hne,two S.srt hs,two S.lt hlt,two S.len hlen,two S.full fun y hy=>?_,?_,two (fun s' hs'=>Nat.lt_succ_of_lt (S.hl s' hs')) (by omega),?_,fun y hy=>?_⟩
 ·rw [h0,hm y];exact (eX g p hi hy).symm
 ·rw [List.map_append];refine List.pairwise_append.mpr ⟨S.heads,by simp,fun a ha b hb=>?_⟩
  obtain ⟨s',hs',rfl⟩:=List.mem_map.mp ha;have:b=s.getD 0 0:=by simpa using hb
  rw [this,h0];exact S.hl s' hs'
 ·rw [List.flatten_append];refine List.nodup_append.mpr ⟨S.nd,by simpa using hnd,fun x hx y hy q=>?_⟩
  have hy':y∈s:=by simpa using hy
  rw [q] at hx;exact apart y hy' hx
 ·rw [List.flatten_append];rcases Nat.lt_or_ge y i with z|z
  ·exact List.mem_append_left _ (S.cov y z)
  ·have:y=i:=by omega
   rw [this];exact List.mem_append_right _ (by simpa using his)
end
section
variable {n:Nat} {t:List (List Nat)} {e:Nat} {S F:List Nat} {W:List (List Nat)}
structure uq (t:List (List Nat)) (e:Nat) (S F:List Nat) (W:List (List Nat)):Prop where
 len:W.length=F.length
 fst:F[0]?=some e
 word:∀ (i f:Nat) (w:List Nat),F[i]?=some f→W[i]?=some w→(∀ y∈w,y∈S)∧w.length≤i∧prd t e w=f
theorem uq.one:uq t e S [e] [[]]:=by
 refine ⟨rfl,rfl,fun i f w h1 h2=>?_⟩;cases i with
 | zero =>
  have e1:e=f:=by simpa using h1
  have e2:[]=w:=by simpa using h2
  subst e1 e2;exact ⟨by simp,Nat.le_refl _,rfl⟩
 | succ i=>simp at h1
end
section
variable {n:Nat} {t:List (List Nat)} {e:Nat} {R:List Nat}
end
section
variable {t:List (List Nat)} {R M:List Nat} {m:Nat}
end
section
def Sg (m:Nat):Nat→List Int→Nat→Int
 | _,[],_=>0
 | o,x :: l,k=>(if o % m=k then x else 0)+Sg m (o+1) l k
def Dm (m q:Nat) (f:Nat→Int) (k:Nat):Int:=f k - f ((k+(m - q)) % m)
def Dq (m:Nat) (qs:List Nat) (f:Nat→Int):Nat→Int:=qs.foldl (fun f q=>Dm m q f) f
def yB (m:Nat) (qs:List Nat) (l:List Int):Prop:=∀ k,k<m→Dq m qs (Sg m 0 l) k=0
def bE (d l:List Int):List Int :=
 l.dropLast.take (l.length - d.length)++List.zipWith (fun x c=>x - l.getLastD 0 * c) (l.dropLast.drop (l.length - d.length)) d.dropLast
def dN (d:List Int):Nat→List Int→List Int→List Int×List Int
 | 0,l,tk=>(tk.reverse,l)
 | n+1,l,tk=>dN d n (bE d l) (tk++[l.getLastD 0])
def cF (p d:List Int):List Int×List Int:=dN d (p.length+1 - d.length) p []
theorem nW {l:List Int} (h:l≠[]):l.dropLast++[l.getLastD 0]=l:=by
 have:=List.dropLast_concat_getLast h;rw [List.getLastD_eq_getLast?,List.getLast?_eq_getLast h];exact this
theorem fm {d l:List Int} (hd:d≠[]) (hl:d.length≤l.length):(bE d l).length=l.length - 1:=by
 have:=List.length_pos_iff.mpr hd;unfold bE;simp;omega
theorem kQ {d:List Int} (hn:d≠[]):∀ (n:Nat) (l tk:List Int),l.length+1 - d.length=n→d.length≤l.length+1→(dN d n l tk).2.length=d.length - 1
 | 0,l,tk,h,h2=>by show l.length=_;omega
 | n+1,l,tk,h,h2=>by
  have dp:=List.length_pos_iff.mpr hn;have e:=fm hn (show d.length≤l.length by omega)
  exact kQ hn n _ _ (by omega) (by omega)
theorem sP {p d:List Int} (hn:d≠[]) (h:d.length≤p.length+1):(cF p d).2.length=d.length - 1:=kQ hn _ p [] rfl h
def l6 (m:Nat) (fs:List (Nat×List Int)):List Int:=fs.foldl (fun l f=>if m % f.1=0 then (cF l f.2).1 else l) ([-1]++List.replicate (m - 1) 0++[1])
def aZ (m:Nat):Nat→List (Nat×List Int)
 | 0=>[]
 | k+1=>if m % (k+1)=0 then aZ m k++[(k+1,l6 (k+1) (aZ m k))] else aZ m k
def aQ (m:Nat):List Int:=l6 m (aZ m (m - 1))
def strip (p:Nat):Nat→Nat→Nat
 | 0,r=>r
 | f+1,r=>if r % p=0 then strip p f (r / p) else r
def nq (m:Nat):Nat→List Nat×Nat
 | 0=>([],m)
 | k+1=>let (l,r):=nq m k
  (if r % (k+2)=0 then l++[k+2] else l,strip (k+2) 64 r)
def ij (m:Nat):List Nat:=(nq m (m - 1)).1
def xq (m:Nat):List Nat:=(ij m).map fun p=>m / p
def aa (m:Nat):Nat:=((List.range m).filter fun k=>(ij m).all fun p=>(k+1) % p≠0).length
def df (l:List Int):Bool:=l.all fun c=>decide (-1000≤c) && decide (c≤1000)
def c8 (m:Nat):Bool :=
 decide ((aQ m).length=aa m+1) && decide ((aQ m).getLastD 0=1) && df (aQ m) && (aZ m m).all (fun f=>df f.2 && decide (f.2.getLastD 0=1)) && decide (aQ m≠[]) &&
 (List.range m).all (fun k=>decide (Dq m (xq m) (Sg m 0 (aQ m)) k=0))
def cZ (t:Int) (d:List Int) (st j:Nat) (l:List Int):List Int:=l.mapIdx fun i x=>if st≤i∧i<st+j then x - t * d.getD (i - st) 0 else x
theorem dQ {t:Int} {d l:List Int} {st j i:Nat}:(cZ t d st j l)[i]?=l[i]?.map fun x=>if st≤i∧i<st+j then x - t * d.getD (i - st) 0 else x:=by
 unfold cZ;rw [List.getElem?_mapIdx]
theorem ll {t:Int} {d l:List Int} {st j:Nat}:(cZ t d st j l).length=l.length:=by
 unfold cZ;rw [List.length_mapIdx]
theorem qc {t:Int} {d l:List Int} {st:Nat}:cZ t d st 0 l=l:=by
 refine List.ext_getElem? fun i=>?_;rw [dQ];cases l[i]? with
 | none=>rfl
 | some x=>rw [Option.map_some,if_neg (by omega)]
theorem sA {t:Int} {d l:List Int} {st j:Nat} (h:st+j<l.length):(cZ t d st j l)[st+j]?=some (l.getD (st+j) 0):=by
 rw [dQ,List.getElem?_eq_getElem h,Option.map_some,if_neg (by omega)]
 simp [List.getD,List.getElem?_eq_getElem h]
theorem qD {t:Int} {d l:List Int} {st j:Nat} (h:st+j<l.length):(cZ t d st j l).set (st+j) (l.getD (st+j) 0 - t * d.getD j 0)=cZ t d st (j+1) l:=by
 refine List.ext_getElem? fun i=>?_;rw [List.getElem?_set,dQ,dQ,ll]
 by_cases e:st+j=i
 ·subst e;rw [if_pos rfl,if_pos h,List.getElem?_eq_getElem h,Option.map_some,if_pos (by omega),show st+j - st=j by omega]
  simp [List.getD,List.getElem?_eq_getElem h]
 ·rw [if_neg e];cases l[i]? with
  | none=>rfl
  | some x =>
   rw [Option.map_some,Option.map_some]
   by_cases c:st≤i∧i<st+j
   ·rw [if_pos c,if_pos (by omega)]
   ·rw [if_neg c,if_neg (by omega)]
theorem pB {d l:List Int} (hn:d≠[]) (hl:d.length≤l.length):cZ (l.getLastD 0) d (l.length - d.length) (d.length - 1) l.dropLast=bE d l:=by
 have dp:=List.length_pos_iff.mpr hn;refine List.ext_getElem? fun i=>?_;rw [dQ];unfold bE;rcases Nat.lt_or_ge i (l.length - d.length) with z|z
 ·rw [List.getElem?_append_left (by simp;omega),List.getElem?_take_of_lt z]
  cases l.dropLast[i]? with
  | none=>rfl
  | some x=>rw [Option.map_some,if_neg (by omega)]
 ·rw [List.getElem?_append_right (by simp;omega),List.getElem?_zipWith,List.getElem?_drop]
  simp only [List.length_take,List.length_dropLast];rw [show min (l.length - d.length) (l.length - 1)=l.length - d.length by omega,show l.length - d.length+(i - (l.length - d.length))=i by omega]
  rcases Nat.lt_or_ge i (l.length - 1) with y|y
  ·have h1:i<l.dropLast.length:=by simp;exact y
   have h2:i - (l.length - d.length)<d.dropLast.length:=by simp;omega
   have h3:i - (l.length - d.length)<d.length:=by omega
   rw [List.getElem?_eq_getElem h1,List.getElem?_eq_getElem h2,Option.map_some,if_pos (by omega)]
   simp [List.getD,List.getElem?_eq_getElem h3,List.getElem_dropLast]
  ·rw [List.getElem?_eq_none (by simp;omega)]
   rfl
theorem kX {l:List Int} (h:df l=true) (j:Nat):-1000≤l.getD j 0∧l.getD j 0≤1000:=by
 unfold df at h;rw [List.all_eq_true] at h
 by_cases hj:j<l.length
 ·have:=h l[j] (List.getElem_mem hj);simp at this;simp [List.getD,List.getElem?_eq_getElem hj];exact this
 ·rw [List.getD,List.getElem?_eq_none (by omega)]
  exact ⟨by decide,by decide⟩
theorem kK (d:List Int):∀ (n:Nat) (l tk:List Int),(dN d n l tk).1.length=tk.length+n
 | 0,l,tk=>by show tk.reverse.length=_;simp
 | n+1,l,tk=>by
  show (dN d n (bE d l) (tk++[l.getLastD 0])).1.length=_;rw [kK d n];simp;omega
theorem sv {l d:List Int} (hn:d≠[]):(cF l d).1.length≤l.length:=by
 have:=List.length_pos_iff.mpr hn;unfold cF;rw [kK];simp;omega
def fS (m:Nat) (fs:List (Nat×List Int)) (l:List Int):List Int:=fs.foldl (fun l f=>if m % f.1=0 then (cF l f.2).1 else l) l
theorem o4 (m:Nat) (fs:List (Nat×List Int)) (f:Nat×List Int) (l:List Int):fS m (fs++[f]) l=if m % f.1=0 then (cF (fS m fs l) f.2).1 else fS m fs l:=by
 unfold fS;rw [List.foldl_append];rfl
def bS (m:Nat) (sp st:Int) (k:Nat):Nat:=((st+sp * (k:Int)) % (m:Int)).toNat
def aX (m:Nat) (sp st:Int) (l:List Int):List Int:=l.zipIdx.foldl (fun tot x=>tot.set (bS m sp st x.2) (tot.getD (bS m sp st x.2) 0+x.1)) (List.replicate m 0)
theorem oO {m:Nat} (hm:0<m) (sp st:Int) (k:Nat):bS m sp st k<m:=by
 unfold bS;have h1:=Int.emod_nonneg (st+sp * (k:Int)) (show (m:Int)≠0 by omega)
 have h2:=Int.emod_lt_of_pos (st+sp * (k:Int)) (show (0:Int)<m by omega)
 omega
theorem c6 {m:Nat} (hm:0<m) (sp st:Int) (k:Nat):((bS m sp st k:Nat):Int)=(st+sp * (k:Int)) % (m:Int):=by
 unfold bS;have h1:=Int.emod_nonneg (st+sp * (k:Int)) (show (m:Int)≠0 by omega)
 omega
theorem eA (m:Nat) (sp st:Int) (l:List Int) (x:Int):aX m sp st (l++[x])=(aX m sp st l).set (bS m sp st l.length) ((aX m sp st l).getD (bS m sp st l.length) 0+x):=by
 unfold aX;rw [List.zipIdx_append,List.foldl_append];simp
theorem dS (m:Nat) (sp st:Int) (l:List Int):(aX m sp st l).length=m:=by
 unfold aX;generalize l.zipIdx=z;have:∀ (z:List (Int×Nat)) (tot:List Int),(z.foldl (fun tot x=>tot.set (bS m sp st x.2) (tot.getD (bS m sp st x.2) 0+x.1)) tot).length=tot.length:=fun z=>by
  induction z with
  | nil=>intro tot;rfl
  | cons a r ih=>intro tot;rw [List.foldl_cons,ih,List.length_set]
 rw [this,List.length_replicate]
def aO (m:Nat) (l:List Int):List Int:=(cF (aX m 1 0 l) (aQ m)).2
structure cP (m:Nat):Prop where
 len:(aQ m).length=aa m+1
 last:(aQ m).getLastD 0=1
 sm:df (aQ m)=true
 ne:aQ m≠[]
 no:yB m (xq m) (aQ m)
theorem gc {m:Nat} (h:c8 m=true):cP m:=by
 unfold c8 at h;simp only [Bool.and_eq_true,decide_eq_true_eq] at h;obtain ⟨⟨⟨⟨⟨h1,h2⟩,h3⟩,_⟩,h5⟩,h6⟩:=h;refine ⟨h1,h2,h3,h5,fun k hk=>?_⟩;rw [List.all_eq_true] at h6
 simpa using h6 k (List.mem_range.mpr hk)
theorem eR {m:Nat} (W:cP m) (hd:aa m≤m) (l:List Int):(aO m l).length=aa m:=by
 unfold aO;rw [sP W.ne (by rw [dS,W.len];omega),W.len]
 rfl
end
def WG (m:Nat):Prop:=c8 m=true∧aa m≤m∧∀ p∈ij m,1≤m / p∧m / p≤m∧0<p∧p≤1000
instance (m:Nat):Decidable (WG m):=by unfold WG;infer_instance
theorem AY:WG 1:=by decide +kernel
theorem Bi:WG 2:=by decide +kernel
theorem Bx:WG 3:=by decide +kernel
theorem Bq:WG 4:=by decide +kernel
theorem Bb:WG 5:=by decide +kernel
theorem Br:WG 6:=by decide +kernel
theorem Bp:WG 7:=by decide +kernel
theorem Bm:WG 8:=by decide +kernel
theorem Bz:WG 9:=by decide +kernel
theorem zj:WG 10:=by decide +kernel
theorem As:WG 11:=by decide +kernel
theorem Ak:WG 12:=by decide +kernel
theorem Az:WG 13:=by decide +kernel
theorem AN:WG 14:=by decide +kernel
theorem zE:WG 15:=by decide +kernel
theorem Ab:WG 16:=by decide +kernel
theorem zg:WG 17:=by decide +kernel
theorem AQ:WG 18:=by decide +kernel
theorem AM:WG 19:=by decide +kernel
theorem ze:WG 20:=by decide +kernel
theorem y7:WG 21:=by decide +kernel
theorem Ap:WG 22:=by decide +kernel
theorem AA:WG 23:=by decide +kernel
theorem zh:WG 24:=by decide +kernel
theorem zS:WG 25:=by decide +kernel
theorem zP:WG 26:=by decide +kernel
theorem yW:WG 27:=by decide +kernel
theorem zX:WG 28:=by decide +kernel
theorem AS:WG 29:=by decide +kernel
theorem zB:WG 30:=by decide +kernel
theorem zN:WG 31:=by decide +kernel
theorem AJ:WG 32:=by decide +kernel
theorem y4:WG 33:=by decide +kernel
theorem AD:WG 34:=by decide +kernel
theorem zi:WG 35:=by decide +kernel
theorem yD:WG 36:=by decide +kernel
theorem zJ:WG 37:=by decide +kernel
theorem Av:WG 38:=by decide +kernel
theorem Al:WG 39:=by decide +kernel
theorem Af:WG 40:=by decide +kernel
theorem Ah:WG 41:=by decide +kernel
theorem zM:WG 42:=by decide +kernel
theorem Ae:WG 43:=by decide +kernel
theorem yQ:WG 44:=by decide +kernel
theorem zI:WG 45:=by decide +kernel
theorem yU:WG 46:=by decide +kernel
theorem yJ:WG 47:=by decide +kernel
theorem Ai:WG 48:=by decide +kernel
theorem zU:WG 49:=by decide +kernel
theorem zf:WG 50:=by decide +kernel
theorem zV:WG 51:=by decide +kernel
theorem Ao:WG 52:=by decide +kernel
theorem Ay:WG 53:=by decide +kernel
theorem y0:WG 54:=by decide +kernel
theorem yH:WG 55:=by decide +kernel
theorem Ac:WG 56:=by decide +kernel
theorem yI:WG 57:=by decide +kernel
theorem AU:WG 58:=by decide +kernel
theorem yP:WG 59:=by decide +kernel
theorem yF:WG 60:=by decide +kernel
theorem fg:∀ m,m<61→m=0∨(c8 m=true∧aa m≤m∧∀ p∈ij m,1≤m / p∧m / p≤m∧0<p∧p≤1000)
 | 0,_=>.inl rfl
 | 1,_=>.inr AY
 | 2,_=>.inr Bi
 | 3,_=>.inr Bx
 | 4,_=>.inr Bq
 | 5,_=>.inr Bb
 | 6,_=>.inr Br
 | 7,_=>.inr Bp
 | 8,_=>.inr Bm
 | 9,_=>.inr Bz
 | 10,_=>.inr zj
 | 11,_=>.inr As
 | 12,_=>.inr Ak
 | 13,_=>.inr Az
 | 14,_=>.inr AN
 | 15,_=>.inr zE
 | 16,_=>.inr Ab
 | 17,_=>.inr zg
 | 18,_=>.inr AQ
 | 19,_=>.inr AM
 | 20,_=>.inr ze
 | 21,_=>.inr y7
 | 22,_=>.inr Ap
 | 23,_=>.inr AA
 | 24,_=>.inr zh
 | 25,_=>.inr zS
 | 26,_=>.inr zP
 | 27,_=>.inr yW
 | 28,_=>.inr zX
 | 29,_=>.inr AS
 | 30,_=>.inr zB
 | 31,_=>.inr zN
 | 32,_=>.inr AJ
 | 33,_=>.inr y4
 | 34,_=>.inr AD
 | 35,_=>.inr zi
 | 36,_=>.inr yD
 | 37,_=>.inr zJ
 | 38,_=>.inr Av
 | 39,_=>.inr Al
 | 40,_=>.inr Af
 | 41,_=>.inr Ah
 | 42,_=>.inr zM
 | 43,_=>.inr Ae
 | 44,_=>.inr yQ
 | 45,_=>.inr zI
 | 46,_=>.inr yU
 | 47,_=>.inr yJ
 | 48,_=>.inr Ai
 | 49,_=>.inr zU
 | 50,_=>.inr zf
 | 51,_=>.inr zV
 | 52,_=>.inr Ao
 | 53,_=>.inr Ay
 | 54,_=>.inr y0
 | 55,_=>.inr yH
 | 56,_=>.inr Ac
 | 57,_=>.inr yI
 | 58,_=>.inr AU
 | 59,_=>.inr yP
 | 60,_=>.inr yF
 | n+61,h=>absurd h (by omega)
section
theorem nv {m:Nat} (l:List Int) (h:l.length=m):∀ i,i≤m→aX m 1 0 (l.take i)=l.take i++List.replicate (m - i) 0
 | 0,_=>by simp [aX]
 | i+1,hi=>by
  have hil:i<l.length:=by omega
  have et:l.take (i+1)=l.take i++[l[i]]:=by rw [List.take_add_one,List.getElem?_eq_getElem hil];rfl
  have hl:(l.take i).length=i:=by rw [List.length_take];omega
  have pc:=c6 (show 0<m by omega) 1 0 i
  have pi:bS m 1 0 i=i:=by
   have:((bS m 1 0 i:Nat):Int)=((i % m:Nat):Int):=by rw [pc];simp
   have:=Int.ofNat.inj this;rw [this,Nat.mod_eq_of_lt (by omega)]
  rw [et,eA,nv l h i (by omega),hl,pi]
  have e1:(l.take i++List.replicate (m - i) (0:Int)).getD i 0=0:=by
   rw [List.getD,List.getElem?_append_right (by omega),hl,List.getElem?_replicate]
   split <;> rfl
  rw [e1,Int.zero_add,List.set_append_right _ _ (by omega),hl,Nat.sub_self,show m - i=(m - (i+1))+1 by omega,List.replicate_succ,List.set_cons_zero,List.append_assoc]
  rfl
theorem nH {m:Nat} {l:List Int} (h:l.length=m):aX m 1 0 l=l:=by
 have:=nv l h m (Nat.le_refl _);rw [List.take_of_length_le (by omega),Nat.sub_self] at this
 simpa using this
theorem kq (m:Nat) (sp st:Int) (l:List Int):(cF (aX m sp st l) (aQ m)).2=aO m (aX m sp st l):=by
 unfold aO;rw [nH (dS m sp st l)]
theorem vg:∀ m,m<61→m=0∨1≤aa m:=by decide +kernel
def fO (l:List Int):Bool:=(l.drop 1).all fun x=>decide (x=0)
end
section
def Sm (f:Nat→Int):Nat→Int
 | 0=>0
 | n+1=>Sm f n+f n
theorem br {f g:Nat→Int}:∀ n,(∀ i,i<n→f i=g i)→Sm f n=Sm g n
 | 0,_=>rfl
 | n+1,h=>by
  show Sm f n+f n=Sm g n+g n;rw [br n fun i hi=>h i (by omega),h n (by omega)]
theorem eC {f:Nat→Int} (n:Nat) (h:∀ i,i<n→f i=0):Sm f n=0:=by
 rw [br n (g:=fun _=>0) h]
 induction n with
 | zero=>rfl
 | succ n ih=>show Sm _ n+0=0;rw [ih fun i hi=>h i (by omega)];rfl
theorem rh (f g:Nat→Int):∀ n,Sm (fun i=>f i+g i) n=Sm f n+Sm g n
 | 0=>rfl
 | n+1=>by
  show Sm (fun i=>f i+g i) n+(f n+g n)=Sm f n+f n+(Sm g n+g n);rw [rh f g n];omega
theorem eD (F:Nat→Nat→Int) (m:Nat):∀ n,Sm (fun i=>Sm (F i) m) n=Sm (fun j=>Sm (fun i=>F i j) n) m
 | 0=>(eC m fun _ _=>rfl).symm
 | n+1=>by
  show Sm (fun i=>Sm (F i) m) n+Sm (F n) m=Sm (fun j=>Sm (fun i=>F i j) n+F n j) m;rw [eD F m n,rh]
theorem eL {f:Nat→Int} {p:Nat}:∀ n,p<n→(∀ i,i<n→i≠p→f i=0)→Sm f n=f p
 | n+1,hp,h=>by
  show Sm f n+f n=f p
  by_cases e:p=n
  ·subst e;rw [eC p fun i hi=>h i (by omega) (by omega),Int.zero_add]
  ·rw [eL n (by omega) fun i hi hn=>h i (by omega) hn,h n (by omega) fun z=>e z.symm,Int.add_zero]
def aP (m:Nat) (f:Nat→Int):List Int:=(List.range m).map f
theorem bL {m:Nat} {f:Nat→Int}:(aP m f).length=m:=by unfold aP;simp
theorem eV {m:Nat} {f:Nat→Int} {k:Nat} (h:k<m):(aP m f)[k]?=some (f k):=by unfold aP;simp [h]
theorem bC {m:Nat} {f:Nat→Int} {k:Nat} (h:k<m):(aP m f).getD k 0=f k:=by rw [List.getD,eV h];rfl
theorem mZ {m:Nat} {f g:Nat→Int} {p:Nat} {x:Int} (h:∀ k,k<m→g k=if k=p then x else f k):(aP m f).set p x=aP m g:=by
 refine List.ext_getElem? fun i=>?_;rw [List.getElem?_set,bL]
 by_cases hi:i<m
 ·rw [eV hi,eV hi,h i hi]
  by_cases e:p=i
  ·rw [if_pos e,if_pos e.symm,if_pos (by omega)]
  ·rw [if_neg e,if_neg fun z=>e z.symm]
 ·have h1:(aP m f)[i]?=none:=List.getElem?_eq_none (by rw [bL];omega)
  have h2:(aP m g)[i]?=none:=List.getElem?_eq_none (by rw [bL];omega)
  rw [h1,h2]
  split
  ·rw [if_neg (by omega)]
  ·rfl
theorem ba {m:Nat} {f g:Nat→Int} (h:∀ k,k<m→f k=g k):aP m f=aP m g:=by
 unfold aP;exact List.map_congr_left fun k hk=>h k (List.mem_range.mp hk)
theorem dU {m:Nat} {f:Nat→Int} (h:∀ k,k<m→f k=0):aP m f=List.replicate m 0:=by
 rw [ba (g:=fun _=>0) h];unfold aP;refine List.ext_getElem? fun i=>?_
 by_cases hi:i<m <;> simp [hi]
def pc (pl:Nat→Nat) (a b:List Int) (p j k:Nat):Int:=if pl (j+k)=p then a.getD j 0 * b.getD k 0 else 0
def pcv (pl:Nat→Nat) (a b:List Int) (p:Nat):Int:=Sm (fun j=>Sm (pc pl a b p j) b.length) a.length
def pst (pl:Nat→Nat) (a b:List Int) (J k:Nat) (p:Nat):Int:=Sm (fun j=>Sm (pc pl a b p j) b.length) J+Sm (pc pl a b p J) k
theorem vE (pl:Nat→Nat) (a b:List Int) (J:Nat):pst pl a b J b.length=pst pl a b (J+1) 0:=by
 funext p
 show _=Sm (fun j=>Sm (pc pl a b p j) b.length) J+Sm (pc pl a b p J) b.length+0;rw [Int.add_zero];rfl
theorem vx (pl:Nat→Nat) (a b:List Int):pst pl a b a.length 0=pcv pl a b:=by
 funext p
 show _+0=_;rw [Int.add_zero];rfl
theorem sk (pl:Nat→Nat) (a b:List Int) (n:Nat):aP n (pst pl a b 0 0)=List.replicate n 0:=dU fun _ _=>rfl
theorem tI {pl:Nat→Nat} {a b:List Int} {n J k:Nat} {x y:Int} (hx:a[J]?=some x) (hy:b[k]?=some y) (hp:pl (J+k)<n) :
  (aP n (pst pl a b J k)).set (pl (J+k)) ((aP n (pst pl a b J k)).getD (pl (J+k)) 0+x * y)=aP n (pst pl a b J (k+1)):=by
 refine mZ fun p _=>?_;rw [bC hp];show _+(Sm (pc pl a b p J) k+pc pl a b p J k)=_
 by_cases e:p=pl (J+k)
 ·subst e;rw [if_pos rfl];unfold pst pc;rw [if_pos rfl,List.getD,List.getD,hx,hy,Int.add_assoc];rfl
 ·rw [if_neg e];unfold pst;rw [show pc pl a b p J k=0 by unfold pc;rw [if_neg fun z=>e z.symm],Int.add_zero]
def lR (a b:List Int):List Int:=aP (a.length+b.length) (pcv id a b)
def bh (m:Nat) (a b:List Int):List Int:=aP m (pcv (· % m) a b)
theorem mW {m:Nat} (hm:0<m) (i:Nat):bS m 1 0 i=i % m:=by
 have pc:=c6 hm 1 0 i;have:((bS m 1 0 i:Nat):Int)=((i % m:Nat):Int):=by rw [pc];simp
 exact Int.ofNat.inj this
theorem oM {m:Nat} (hm:0<m) (f:Nat→Int):∀ n,aX m 1 0 (aP n f)=aP m fun p=>Sm (fun i=>if i % m=p then f i else 0) n
 | 0=>(dU fun _ _=>rfl).symm
 | n+1=>by
  have e:aP (n+1) f=aP n f++[f n]:=by unfold aP;rw [List.range_succ,List.map_append];rfl
  rw [e,eA,oM hm f n,bL,mW hm,bC (Nat.mod_lt _ hm)];refine mZ fun p _=>?_;show Sm _ n+(if n % m=p then f n else 0)=_
  by_cases z:p=n % m
  ·subst z;rw [if_pos rfl,if_pos rfl]
  ·rw [if_neg z,if_neg fun y=>z y.symm,Int.add_zero]
theorem sr {m:Nat} (hm:0<m) (a b:List Int):aX m 1 0 (lR a b)=bh m a b:=by
 unfold lR bh;rw [oM hm];refine ba fun p _=>?_;have e1:Sm (fun i=>if i % m=p then pcv id a b i else 0) (a.length+b.length)=Sm (fun i=>Sm (fun j=>Sm (fun k=>if i % m=p then pc id a b i j k else 0) b.length) a.length) (a.length+b.length) :=
  br _ fun i _=>by
   by_cases h:i % m=p
   ·rw [if_pos h];exact br _ fun j _=>br _ fun k _=>by rw [if_pos h]
   ·rw [if_neg h];exact (eC _ fun j _=>eC _ fun k _=>by rw [if_neg h]).symm
 rw [e1,eD];refine br _ fun j hj=>?_;rw [eD];refine br _ fun k hk=>?_;rw [eL (p:=j+k) (a.length+b.length) (by omega) fun i _ hn=>by
  have:pc id a b i j k=0:=by unfold pc;rw [if_neg fun z=>hn (show i=j+k from z.symm)]
  rw [this]
  split <;> rfl]
 unfold pc
 by_cases h:(j+k) % m=p
 ·rw [if_pos h,if_pos (show id (j+k)=j+k from rfl),if_pos h]
 ·rw [if_neg h,if_neg h]
theorem rT (m:Nat) (a b:List Int):bh m a b=bh m b a:=by
 unfold bh;refine ba fun p _=>?_;unfold pcv;rw [eD];refine br _ fun j _=>br _ fun k _=>?_;unfold pc;rw [Nat.add_comm,Int.mul_comm]
theorem sy {m:Nat} (hm:0<m) (a b:List Int):aO m (lR a b)=aO m (bh m a b):=by
 unfold aO;rw [sr hm,nH (show (bh m a b).length=m from bL)]
theorem rM {m d:Nat} {b:List Int} (hb:b.length=d) (hd:1≤d) (hm:d≤m):bh m (1 :: List.replicate (d - 1) 0) b=b++List.replicate (m - d) 0:=by
 have e:bh m (1 :: List.replicate (d - 1) 0) b=aP m fun p=>b.getD p 0:=by
  unfold bh;refine ba fun p hp=>?_;unfold pcv;rw [eL (p:=0) _ (by simp) fun j hj hn=>eC _ fun k _=>by
   unfold pc;have:(1 :: List.replicate (d - 1) (0:Int)).getD j 0=0:=by
    obtain ⟨j',rfl⟩:∃ j',j=j'+1:=⟨j - 1,by omega⟩
    rw [List.getD,List.getElem?_cons_succ,List.getElem?_replicate]
    split <;> rfl
   rw [this,Int.zero_mul]
   split <;> rfl]
  by_cases hpd:p<b.length
  ·rw [eL (p:=p) _ hpd fun k hk hn=>by
    unfold pc;rw [if_neg];show ¬ (0+k) % m=p;rw [Nat.zero_add,Nat.mod_eq_of_lt (by omega)]
    exact hn]
   unfold pc;rw [if_pos (show (0+p) % m=p by rw [Nat.zero_add,Nat.mod_eq_of_lt (by omega)])]
   show 1 * _=_;rw [Int.one_mul]
  ·rw [eC _ fun k hk=>by
    unfold pc;rw [if_neg];show ¬ (0+k) % m=p;rw [Nat.zero_add,Nat.mod_eq_of_lt (by omega)]
    omega]
   rw [List.getD,List.getElem?_eq_none (by omega)]
   rfl
 rw [e];refine List.ext_getElem? fun i=>?_
 by_cases hi:i<m
 ·rw [eV hi]
  by_cases h:i<b.length
  ·rw [List.getElem?_append_left h,List.getD,List.getElem?_eq_getElem h];rfl
  ·rw [List.getElem?_append_right (by omega),List.getElem?_replicate,if_pos (by omega),List.getD,List.getElem?_eq_none (by omega)]
   rfl
 ·rw [List.getElem?_eq_none (by rw [bL];omega),List.getElem?_eq_none (by simp;omega)]
theorem mB {d b:List Int} {k:Nat} (hd:d.length=b.length+1):bE d (b++List.replicate (k+1) 0)=b++List.replicate k 0:=by
 have e1:(b++List.replicate (k+1) (0:Int)).dropLast=b++List.replicate k 0:=by
  rw [List.replicate_succ',← List.append_assoc,List.dropLast_concat]
 have e2:(b++List.replicate (k+1) (0:Int)).getLastD 0=0:=by
  rw [List.replicate_succ',← List.append_assoc,List.getLastD_concat]
 unfold bE;rw [e1,e2];have e3:∀ (u v:List Int),u.length≤v.length→List.zipWith (fun x c=>x - 0 * c) u v=u:=fun u=>by
  induction u with
  | nil=>intro v _;rfl
  | cons x u ih =>
   intro v hv;cases v with
   | nil=>simp at hv
   | cons y v=>rw [List.zipWith_cons_cons,ih v (by simpa using hv),Int.zero_mul,Int.sub_zero]
 rw [e3 _ _ (by simp;omega),List.take_append_drop]
theorem jx {d b:List Int} (hd:d.length=b.length+1):∀ (k:Nat) (tk:List Int),(dN d k (b++List.replicate k 0) tk).2=b
 | 0,tk=>by show b++[]=b;rw [List.append_nil]
 | k+1,tk=>by
  show (dN d k (bE d (b++List.replicate (k+1) 0)) _).2=b;rw [mB hd];exact jx hd k _
theorem tD {m:Nat} (W:cP m) (dm:aa m≤m) (d1:1≤aa m) {b:List Int} (hb:b.length=aa m):aO m (bh m (1 :: List.replicate (aa m - 1) 0) b)=b:=by
 have e:=rM (m:=m) hb d1 dm;unfold aO;rw [nH (show (bh m (1 :: List.replicate (aa m - 1) 0) b).length=m from bL),e];unfold cF;rw [show (b++List.replicate (m - aa m) (0:Int)).length+1 - (aQ m).length=m - aa m by rw [W.len];simp;omega]
 exact jx (by rw [W.len,hb]) _ _
end
section
def pr:List Int→(Nat→Int)→Int
 | [],_=>0
 | x :: l,g=>x * g 0+pr l fun k=>g (k+1)
theorem ay:∀ (l:List Int) {g h:Nat→Int},(∀ k,k<l.length→g k=h k)→pr l g=pr l h
 | [],_,_,_=>rfl
 | x :: l,g,h,e=>by
  show x * g 0+pr l _=x * h 0+pr l _;rw [e 0 (by simp),ay l fun k hk=>e (k+1) (by simpa using hk)]
theorem fv:∀ (l:List Int) (g h:Nat→Int),pr l (fun k=>g k+h k)=pr l g+pr l h
 | [],_,_=>rfl
 | x :: l,g,h=>by
  show x * (g 0+h 0)+pr l (fun k=>g (k+1)+h (k+1))=x * g 0+pr l _+(x * h 0+pr l _);rw [fv l,Int.mul_add];omega
theorem fQ:∀ (l:List Int) (c:Int) (g:Nat→Int),pr l (fun k=>c * g k)=c * pr l g
 | [],c,_=>(Int.mul_zero c).symm
 | x :: l,c,g=>by
  show x * (c * g 0)+pr l (fun k=>c * g (k+1))=c * (x * g 0+pr l _);rw [fQ l,Int.mul_add,Int.mul_left_comm]
theorem eE (l:List Int) {g:Nat→Int} (h:∀ k,k<l.length→g k=0):pr l g=0:=by
 rw [ay l (h:=fun k=>0 * g k) fun k hk=>by rw [h k hk];rfl,fQ,Int.zero_mul]
theorem fN:∀ (a b:List Int) (g:Nat→Int),pr (a++b) g=pr a g+pr b fun k=>g (k+a.length)
 | [],b,g=>by show pr b g=0+pr b _;rw [Int.zero_add];rfl
 | x :: a,b,g=>by
  show x * g 0+pr (a++b) _=x * g 0+pr a _+pr b _;rw [fN a b,Int.add_assoc];rfl
theorem cO (b:List Int):∀ (a:List Int) (F:Nat→Nat→Int),pr a (fun p=>pr b (F p))=pr b fun q=>pr a fun p=>F p q
 | [],F=>(eE b fun _ _=>rfl).symm
 | x :: a,F=>by
  show x * pr b (F 0)+pr a (fun p=>pr b (F (p+1)))=pr b fun q=>x * F 0 q+pr a fun p=>F (p+1) q;rw [fv,fQ,cO b a]
theorem ny:∀ (a b:List Int) (t:Int) (g:Nat→Int),a.length=b.length→pr (List.zipWith (fun x y=>x+t * y) a b) g=pr a g+t * pr b g
 | [],[],t,g,_=>by show (0:Int)=0+t * 0;omega
 | x :: a,y :: b,t,g,h=>by
  show (x+t * y) * g 0+pr (List.zipWith _ a b) _=x * g 0+pr a _+t * (y * g 0+pr b _);rw [ny a b t _ (by simpa using h),Int.add_mul,Int.mul_add,Int.mul_assoc];omega
 | [],_ :: _,_,_,h=>by simp at h
 | _ :: _,[],_,_,h=>by simp at h
theorem mM (f g:Nat→Int):∀ n,pr (aP n f) g=Sm (fun k=>f k * g k) n
 | 0=>rfl
 | n+1=>by
  have e:aP (n+1) f=aP n f++[f n]:=by unfold aP;rw [List.range_succ,List.map_append];rfl
  rw [e,fN,mM f g n,bL];show _+(f n * g (0+n)+0)=_;rw [Nat.zero_add,Int.add_zero];rfl
theorem gp (l:List Int):aP l.length (fun k=>l.getD k 0)=l:=by
 refine List.ext_getElem? fun i=>?_
 by_cases h:i<l.length
 ·rw [eV h,List.getD,List.getElem?_eq_getElem h];rfl
 ·rw [List.getElem?_eq_none (by rw [bL];omega),List.getElem?_eq_none (by omega)]
theorem mm (l:List Int) (g:Nat→Int):pr l g=Sm (fun k=>l.getD k 0 * g k) l.length:=by
 rw [← mM,gp]
theorem rE:∀ (l:List Int) (p:Nat) (x:Int) (g:Nat→Int),p<l.length→pr (l.set p (l.getD p 0+x)) g=pr l g+x * g p
 | [],_,_,_,h=>by simp at h
 | y :: l,0,x,g,_=>by
  show (y+x) * g 0+pr l _=y * g 0+pr l _+x * g 0;rw [Int.add_mul];omega
 | y :: l,p+1,x,g,h=>by
  show y * g 0+pr (l.set p (l.getD p 0+x)) _=y * g 0+pr l _+x * g (p+1);rw [rE l p x _ (by simpa using h)];omega
theorem eN:∀ (n:Nat) (g:Nat→Int),pr (List.replicate n 0) g=0
 | 0,_=>rfl
 | n+1,g=>by show 0 * g 0+pr (List.replicate n 0) _=0;rw [eN n,Int.zero_mul];rfl
theorem fJ {m:Nat} (hm:0<m) (sp st:Int) (g:Nat→Int):∀ (n:Nat) (l:List Int),l.length=n→pr (aX m sp st l) g=pr l fun k=>g (bS m sp st k)
 | 0,l,h=>by
  obtain rfl:l=[]:=List.eq_nil_of_length_eq_zero h;exact eN m g
 | n+1,l,h=>by
  have ln:l≠[]:=fun z=>by rw [z] at h;simp at h
  obtain ⟨l',x,rfl⟩:∃ l' x,l=l'++[x]:=⟨l.dropLast,l.getLast ln,(List.dropLast_concat_getLast ln).symm⟩;have hl:l'.length=n:=by simpa using h
  rw [eA,rE _ _ _ _ (by rw [dS];exact oO hm _ _ _),fJ hm sp st g n l' hl,fN]
  show _=_+(x * g (bS m sp st (0+l'.length))+0);rw [Nat.zero_add,Int.add_zero]
theorem h8 (f:Nat→Int) (c:Int):∀ n,Sm f n * c=Sm (fun i=>f i * c) n
 | 0=>Int.zero_mul c
 | n+1=>by show (Sm f n+f n) * c=Sm _ n+f n * c;rw [Int.add_mul,h8 f c n]
theorem ie {m:Nat} (hm:0<m) (a b:List Int) (g:Nat→Int):pr (bh m a b) g=pr a fun p=>pr b fun q=>g ((p+q) % m):=by
 unfold bh;rw [mM,mm];have e1:Sm (fun k=>pcv (· % m) a b k * g k) m=Sm (fun k=>Sm (fun j=>Sm (fun i=>pc (· % m) a b k j i * g k) b.length) a.length) m :=
  br _ fun k _=>by
   unfold pcv;rw [h8];exact br _ fun j _=>h8 _ _ _
 rw [e1,eD];refine br _ fun j _=>?_;rw [eD,mm];have e2:a.getD j 0 * Sm (fun k=>b.getD k 0 * g ((j+k) % m)) b.length=Sm (fun k=>a.getD j 0 * (b.getD k 0 * g ((j+k) % m))) b.length:=by
  rw [Int.mul_comm,h8];exact br _ fun k _=>Int.mul_comm _ _
 rw [e2];refine br _ fun k _=>?_;rw [eL (p:=(j+k) % m) m (Nat.mod_lt _ hm) fun i _ hn=>by unfold pc;rw [if_neg fun z=>hn z.symm,Int.zero_mul]]
 unfold pc;rw [if_pos rfl,Int.mul_assoc]
theorem jU {l:List Int} (ln:l≠[]) (g:Nat→Int):pr l g=pr l.dropLast g+l.getLastD 0 * g (l.length - 1):=by
 have e:=fN l.dropLast [l.getLastD 0] g;rw [nW ln,List.length_dropLast] at e;rw [e];show _+(l.getLastD 0 * g (0+(l.length - 1))+0)=_;rw [Nat.zero_add,Int.add_zero]
theorem pR {d l:List Int} {g:Nat→Int} (hd:d.getLastD 0=1) (hn:d≠[]) (hl:d.length≤l.length) :
  pr (bE d l) g=pr l g - l.getLastD 0 * pr d fun k=>g (k+(l.length - d.length)):=by
 have dp:=List.length_pos_iff.mpr hn;have ln:l≠[]:=fun z=>by rw [z] at hl;simp at hl;exact hn hl
 have e1:=jU ln g;have e2:=jU hn fun k=>g (k+(l.length - d.length));rw [hd,Int.one_mul,show d.length - 1+(l.length - d.length)=l.length - 1 by omega] at e2
 have e3:pr l.dropLast g=pr (l.dropLast.take (l.length - d.length)) g+pr (l.dropLast.drop (l.length - d.length)) (fun k=>g (k+(l.length - d.length))):=by
  conv=>lhs;rw [← List.take_append_drop (l.length - d.length) l.dropLast]
  rw [fN];have:(l.dropLast.take (l.length - d.length)).length=l.length - d.length:=by simp;omega
  rw [this]
 have e4:List.zipWith (fun x c=>x - l.getLastD 0 * c) (l.dropLast.drop (l.length - d.length)) d.dropLast=List.zipWith (fun x y=>x+-(l.getLastD 0) * y) (l.dropLast.drop (l.length - d.length)) d.dropLast:=by
  congr 1
  funext x y
  rw [Int.neg_mul];omega
 unfold bE;rw [fN,e4,ny _ _ _ _ (by simp;omega),e1,e2,e3]
 have:(l.dropLast.take (l.length - d.length)).length=l.length - d.length:=by simp;omega
 rw [this,Int.mul_add,Int.neg_mul];omega
def dh (c:List Int) (d:Nat) (f:Nat→Int):Nat→Int:=fun i=>(if i=0 then 0 else f (i - 1)) - f (d - 1) * c.getD i 0
def Xp (c:List Int) (d:Nat):Nat→Nat→Int
 | 0=>fun i=>if i=0 then 1 else 0
 | k+1=>dh c d (Xp c d k)
theorem c7 {c:List Int} {d:Nat}:∀ k,k<d→∀ i,i<d→Xp c d k i=if i=k then 1 else 0
 | 0,_,i,_=>rfl
 | k+1,hk,i,hi=>by
  show (if i=0 then 0 else Xp c d k (i - 1)) - Xp c d k (d - 1) * c.getD i 0=_;rw [c7 k (by omega) (d - 1) (by omega),if_neg (show ¬ d - 1=k by omega),Int.zero_mul,Int.sub_zero]
  by_cases z:i=0
  ·rw [if_pos z,if_neg (by omega)]
  ·rw [if_neg z,c7 k (by omega) (i - 1) (by omega)]
   by_cases y:i=k+1
   ·rw [if_pos y,if_pos (by omega)]
   ·rw [if_neg y,if_neg (by omega)]
theorem nR {c:List Int} {d:Nat} (hd:1≤d) {f g:Nat→Int} (h:∀ i,i<d→f i=g i) {i:Nat} (hi:i<d):dh c d f i=dh c d g i:=by
 unfold dh;rw [h (d - 1) (by omega)]
 by_cases z:i=0
 ·rw [if_pos z,if_pos z]
 ·rw [if_neg z,if_neg z,h (i - 1) (by omega)]
theorem vq {c:List Int} {d:Nat} (l:List Int) (F:Nat→Nat→Int) (i:Nat):pr l (fun k=>dh c d (F k) i)=dh c d (fun i=>pr l fun k=>F k i) i:=by
 unfold dh;have e:pr l (fun k=>(if i=0 then 0 else F k (i - 1)) - F k (d - 1) * c.getD i 0)=pr l (fun k=>(if i=0 then 0 else F k (i - 1))+-(c.getD i 0) * F k (d - 1)) :=
  ay l fun k _=>by rw [Int.neg_mul,Int.mul_comm];omega
 rw [e,fv,fQ,Int.neg_mul,Int.mul_comm (c.getD i 0)];show _=(if i=0 then 0 else pr l fun k=>F k (i - 1)) - (pr l fun k=>F k (d - 1)) * c.getD i 0
 by_cases z:i=0
 ·rw [if_pos z,eE l fun k _=>by rw [if_pos z]];omega
 ·rw [if_neg z,ay l (h:=fun k=>F k (i - 1)) fun k _=>by rw [if_neg z]];omega
theorem uZ {c:List Int} {d:Nat} (hd:1≤d) (hc:c.length=d+1) (hl:c.getLastD 0=1):∀ i,i<d→pr c (fun k=>Xp c d k i)=0:=by
 intro i hi;have hn:c≠[]:=fun z=>by rw [z] at hc;simp at hc
 have e:=jU hn fun k=>Xp c d k i;rw [hl,Int.one_mul,hc,show d+1 - 1=d from rfl] at e;have hdl:c.dropLast.length=d:=by rw [List.length_dropLast,hc];rfl
 have e2:pr c.dropLast (fun k=>Xp c d k i)=c.getD i 0:=by
  rw [mm,hdl,eL (p:=i) d hi fun k hk hn=>by rw [c7 k hk i hi,if_neg fun z=>hn z.symm,Int.mul_zero],c7 i hi i hi,if_pos rfl,Int.mul_one]
  rw [List.getD,List.getD,List.getElem?_eq_getElem (show i<c.dropLast.length by omega),List.getElem?_eq_getElem (show i<c.length by omega),List.getElem_dropLast]
 have e3:Xp c d d i=-(c.getD i 0):=by
  obtain ⟨n,rfl⟩:∃ n,d=n+1:=⟨d - 1,by omega⟩
  show (if i=0 then 0 else Xp c (n+1) n (i - 1)) - Xp c (n+1) n (n+1 - 1) * c.getD i 0=_;rw [show n+1 - 1=n from rfl,c7 n (by omega) n (by omega),if_pos rfl,Int.one_mul]
  by_cases z:i=0
  ·rw [if_pos z];omega
  ·rw [if_neg z,c7 n (by omega) (i - 1) (by omega),if_neg (by omega)];omega
 rw [e,e2,e3];omega
theorem q9 {c:List Int} {d m:Nat} (hd:1≤d) (h:∀ i,i<d→Xp c d m i=Xp c d 0 i):∀ k i,i<d→Xp c d (k+m) i=Xp c d k i
 | 0,i,hi=>by rw [Nat.zero_add];exact h i hi
 | k+1,i,hi=>by
  rw [show k+1+m=k+m+1 by omega]
  exact nR hd (fun i hi=>q9 hd h k i hi) hi
theorem j1 {c:List Int} {d m:Nat} (hd:1≤d) (h:∀ i,i<d→Xp c d m i=Xp c d 0 i) (k:Nat):∀ n i,i<d→Xp c d (k+m * n) i=Xp c d k i
 | 0,i,_=>by rw [Nat.mul_zero,Nat.add_zero]
 | n+1,i,hi=>by rw [Nat.mul_succ,← Nat.add_assoc,q9 hd h _ i hi,j1 hd h k n i hi]
theorem yp {c:List Int} {d m:Nat} (hd:1≤d) (h:∀ i,i<d→Xp c d m i=Xp c d 0 i) {j k:Nat} (e:j % m=k % m) {i:Nat} (hi:i<d):Xp c d j i=Xp c d k i:=by
 rw [← Nat.mod_add_div j m,← Nat.mod_add_div k m,j1 hd h _ _ i hi,j1 hd h _ _ i hi,e]
end
section
abbrev Xw (m k i:Nat):Int:=Xp (aQ m) (aa m) k i
structure Wl (m:Nat):Prop where
 m1:1≤m
 d1:1≤aa m
 dm:aa m≤m
 W:cP m
 per:∀ i,i<aa m→Xw m m i=Xw m 0 i
theorem Wl.mod {m:Nat} (w:Wl m) {j k:Nat} (e:j % m=k % m) {i:Nat} (hi:i<aa m):Xw m j i=Xw m k i:=yp w.d1 w.per e hi
structure Hom (p:Int) (m M J:Nat):Prop where
 a:Wl m
 b:Wl M
 per:J * m % M=0
 good:∀ i,i<aa M→p ∣ pr (aQ m) fun k=>Xw M (J * k) i
theorem xY (l:List Int) (g h:Nat→Int):pr l (fun k=>g k - h k)=pr l g - pr l h:=by
 rw [ay l (h:=fun k=>g k+-1 * h k) fun k _=>by omega,fv,fQ];omega
theorem qC {p:Int}:∀ (l:List Int) {g:Nat→Int},(∀ k,k<l.length→p ∣ g k)→p ∣ pr l g
 | [],_,_=>Int.dvd_zero p
 | x :: l,g,h=>Int.dvd_add (Int.dvd_trans (h 0 (by simp)) (Int.dvd_mul_left _ _)) (qC l fun k hk=>h (k+1) (by simpa using hk))
theorem mE {p:Int} {c:List Int} {d:Nat} (hd:1≤d) (l:List Int) (e:Nat→Nat) (h:∀ i,i<d→p ∣ pr l (fun k=>Xp c d (e k) i)):∀ q i,i<d→p ∣ pr l (fun k=>Xp c d (e k+q) i)
 | 0,i,hi=>h i hi
 | q+1,i,hi=>by
  rw [show (fun k=>Xp c d (e k+(q+1)) i)=fun k=>dh c d (Xp c d (e k+q)) i from rfl,vq];have ih:=mE hd l e h q;unfold dh;refine Int.dvd_sub ?_ (Int.dvd_trans (ih (d - 1) (by omega)) (Int.dvd_mul_right _ _))
  by_cases z:i=0
  ·rw [if_pos z];exact Int.dvd_zero p
  ·rw [if_neg z];exact ih (i - 1) (by omega)
theorem mG {p:Int} {d:List Int} {g:Nat→Int} (hd:d.getLastD 0=1) (hn:d≠[]) (h0:∀ s,p ∣ pr d (fun k=>g (k+s))):∀ (n:Nat) (l tk:List Int),l.length+1 - d.length=n→p ∣ pr (dN d n l tk).2 g - pr l g
 | 0,l,tk,_=>by show p ∣ pr l g - pr l g;rw [Int.sub_self];exact Int.dvd_zero p
 | n+1,l,tk,h=>by
  have dp:=List.length_pos_iff.mpr hn;have hl:d.length≤l.length:=by omega
  have e:=fm hn hl;show p ∣ pr (dN d n (bE d l) _).2 g - _;have ih:=mG hd hn h0 n (bE d l) (tk++[l.getLastD 0]) (by omega)
  rw [pR hd hn hl] at ih;have h2:=Int.dvd_trans (h0 (l.length - d.length)) (Int.dvd_mul_left (l.getLastD 0) _);have:=Int.dvd_sub ih h2
  rwa [show ∀ a b c:Int,a - (b - c) - c=a - b from fun a b c=>by omega] at this
theorem Hom.low {p:Int} {m M J:Nat} (H:Hom p m M J) (l:List Int) (q:Nat) {i:Nat} (hi:i<aa M):p ∣ pr (aO m l) (fun k=>Xw M (J * k+q) i) - pr l (fun k=>Xw M (J * k+q) i):=by
 unfold aO cF;have h:=mG (g:=fun k=>Xw M (J * k+q) i) H.a.W.last H.a.W.ne (fun s=>by
  have:=mE H.b.d1 (aQ m) (fun k=>J * k) H.good (J * s+q) i hi
  rwa [ay (aQ m) (h:=fun k=>Xw M (J * (k+s)+q) i) fun k _=>by rw [Nat.mul_add,Nat.add_assoc]] at this) _ (aX m 1 0 l) [] rfl
 rw [fJ H.a.m1 1 0 _ _ l rfl] at h
 rwa [ay l (g:=fun k=>Xw M (J * bS m 1 0 k+q) i) (h:=fun k=>Xw M (J * k+q) i) fun k _=>by
  refine H.b.mod ?_ hi;rw [mW H.a.m1];have e:=Nat.mod_add_div k m;have hz:J * k+q=J * (k % m)+q+J * m * (k / m):=by
   conv=>lhs;rw [← e]
   rw [Nat.mul_add,Nat.mul_assoc];omega
  rw [hz,Nat.add_mod (J * (k % m)+q),Nat.mul_mod (J * m),H.per,Nat.zero_mul,Nat.zero_mod,Nat.add_zero,Nat.mod_mod]] at h
theorem pA {a b:Int} (h:(0:Int) ∣ a - b):a=b:=by have:=Int.zero_dvd.mp h;omega
theorem Hom.o7 {m M J:Nat} (H:Hom 0 m M J) (l:List Int) (q:Nat) {i:Nat} (hi:i<aa M):pr (aO m l) (fun k=>Xw M (J * k+q) i)=pr l (fun k=>Xw M (J * k+q) i):=pA (H.low l q hi)
theorem Wl.hom {m:Nat} (w:Wl m):Hom 0 m m 1:=⟨w,w,by rw [Nat.one_mul,Nat.mod_self],fun i hi=>by
 rw [ay (aQ m) (h:=fun k=>Xw m k i) fun k _=>by rw [Nat.one_mul],uZ w.d1 w.W.len w.W.last i hi];exact Int.dvd_zero 0⟩
def ap (M J:Nat) (a:List Int):List Int:=aP (aa M) fun i=>pr a fun k=>Xw M (J * k) i
theorem cu {M J:Nat} {a:List Int}:(ap M J a).length=aa M:=bL
theorem h9 {d:Nat} {l:List Int} {f:Nat→Int} (hl:l.length=d) (h:∀ i,i<d→l.getD i 0=f i):l=aP d f:=by
 rw [← gp l,hl];exact ba h
theorem oE {m:Nat} {r:List Int} (hr:r.length=aa m) {i:Nat} (hi:i<aa m):pr r (fun k=>Xw m k i)=r.getD i 0:=by
 rw [mm,hr,eL (p:=i) _ hi fun k hk hn=>by rw [show Xw m k i=_ from c7 k hk i hi,if_neg fun z=>hn z.symm,Int.mul_zero],show Xw m i i=_ from c7 i hi i hi,if_pos rfl,Int.mul_one]
theorem Wl.low {m:Nat} (w:Wl m) (l:List Int):aO m l=ap m 1 l:=by
 refine h9 (eR w.W w.dm l) fun i hi=>?_;rw [← oE (eR w.W w.dm l) hi,ay (aO m l) (h:=fun k=>Xw m (1 * k+0) i) fun k _=>by rw [Nat.one_mul,Nat.add_zero],w.hom.o7 l 0 hi]
 exact ay l fun k _=>by rw [Nat.add_zero]
theorem rl {m:Nat} {a:List Int} (h:a.length=aa m):ap m 1 a=a:=by
 refine (h9 h fun i hi=>?_).symm;rw [← oE h hi];exact ay a fun k _=>by rw [Nat.one_mul]
theorem Wl.lay {m:Nat} (w:Wl m) (j:Int) {J:Nat} (hj:(J:Int) % m=j % m) (a:List Int):aO m (aX m j 0 a)=ap m J a:=by
 rw [w.low];unfold ap;refine ba fun i hi=>?_;rw [fJ w.m1 j 0 _ _ a rfl];refine ay a fun k _=>?_;refine w.mod ?_ hi;rw [Nat.one_mul];have e:((bS m j 0 k % m:Nat):Int)=((J * k % m:Nat):Int):=by
  rw [Int.natCast_emod,c6 w.m1,Int.emod_emod_of_dvd _ (Int.dvd_refl _),Int.zero_add,Int.natCast_emod,Int.natCast_mul,Int.mul_emod,← hj,← Int.mul_emod]
 exact Int.ofNat.inj e
def mu (m:Nat) (a b:List Int):List Int:=aO m (bh m a b)
theorem Wl.bW {m:Nat} (w:Wl m) {a b:List Int}:(mu m a b).length=aa m:=eR w.W w.dm _
theorem Wl.mu {m:Nat} (w:Wl m) (a b:List Int):TB.mu m a b=aP (aa m) fun i=>pr a fun p=>pr b fun q=>Xw m (p+q) i:=by
 unfold TB.mu;rw [w.low];refine ba fun i hi=>?_;rw [ie w.m1];exact ay a fun p _=>ay b fun q _=>w.mod (by rw [Nat.one_mul,Nat.mod_mod]) hi
theorem bF (m:Nat) (a b:List Int):mu m a b=mu m b a:=by unfold mu;rw [rT]
theorem Wl.gI {m:Nat} (w:Wl m) (a b:List Int):TB.mu m (aO m a) b=TB.mu m a b:=by
 rw [w.mu,w.mu];refine ba fun i hi=>?_;rw [cO b (aO m a),cO b a];refine ay b fun q _=>?_;have:=w.hom.o7 a q hi
 rwa [ay (aO m a) (h:=fun p=>Xw m (p+q) i) fun k _=>by rw [Nat.one_mul],ay a (h:=fun p=>Xw m (p+q) i) fun k _=>by rw [Nat.one_mul]] at this
theorem Wl.bc {m:Nat} (w:Wl m) (a b c:List Int):TB.mu m (TB.mu m a b) c=TB.mu m a (TB.mu m b c):=by
 have key:∀ a b c:List Int,TB.mu m (TB.mu m a b) c=aP (aa m) fun i=>pr a fun p=>pr b fun q=>pr c fun r=>Xw m (p+q+r) i:=fun a b c=>by
  rw [show TB.mu m (TB.mu m a b) c=TB.mu m (aO m (bh m a b)) c from rfl,w.gI,w.mu];refine ba fun i hi=>?_;rw [ie w.m1];refine ay a fun p _=>ay b fun q _=>ay c fun r _=>w.mod ?_ hi;rw [Nat.add_mod,Nat.mod_mod,← Nat.add_mod]
 rw [bF m a (TB.mu m b c),key,key];refine ba fun i _=>?_;rw [cO];rw [ay b (h:=fun q=>pr c fun r=>pr a fun p=>Xw m (q+r+p) i) fun q _=>?_];rw [cO];exact ay c fun r _=>ay a fun p _=>by rw [show p+q+r=q+r+p by omega]
theorem Hom.lP {m M J:Nat} (H:Hom 0 m M J) (a b:List Int):ap M J (mu m a b)=mu M (ap M J a) (ap M J b):=by
 have e:∀ a,ap M J a=aO M (aX M (J:Int) 0 a):=fun a=>(H.b.lay J rfl a).symm;rw [e a,e b,H.b.gI,bF M,H.b.gI,bF M,H.b.mu];refine ba fun i hi=>?_;have h1:=H.o7 (bh m a b) 0 hi;rw [show pr (mu m a b) (fun k=>Xw M (J * k) i)=pr (aO m (bh m a b)) (fun k=>Xw M (J * k+0) i) from rfl,h1,ie H.a.m1,fJ H.b.m1 _ _ _ _ a rfl];refine ay a fun p _=>?_;rw [fJ H.b.m1 _ _ _ _ b rfl];refine ay b fun q _=>H.b.mod ?_ hi;have lp:∀ k,bS M (J:Int) 0 k=J * k % M:=fun k=>by
  have:=c6 H.b.m1 (J:Int) 0 k;rw [Int.zero_add,← Int.natCast_mul,← Int.natCast_emod] at this;exact Int.ofNat.inj this
 rw [lp,lp,Nat.add_zero,← Nat.add_mod,← Nat.mul_add];have e:=Nat.mod_add_div (p+q) m;have hz:J * (p+q)=J * ((p+q) % m)+J * m * ((p+q) / m):=by
  conv=>lhs;rw [← e]
  rw [Nat.mul_add,Nat.mul_assoc]
 rw [hz,Nat.add_mod (J * _),Nat.mul_mod (J * m),H.per,Nat.zero_mul,Nat.zero_mod,Nat.add_zero,Nat.mod_mod]
theorem Hom.pj {m M J:Nat} (H:Hom 0 m M J) (I:Nat) (a:List Int):ap M J (ap m I a)=ap M (J * I) a:=by
 rw [← H.a.lay I rfl a];unfold ap;refine ba fun i hi=>?_;have h1:=H.o7 (aX m (I:Int) 0 a) 0 hi;rw [show pr (aO m (aX m (I:Int) 0 a)) (fun k=>Xw M (J * k) i)=pr (aO m (aX m (I:Int) 0 a)) (fun k=>Xw M (J * k+0) i) from rfl,h1,fJ H.a.m1 _ _ _ _ a rfl];refine ay a fun k _=>H.b.mod ?_ hi;have lp:bS m (I:Int) 0 k=I * k % m:=by
  have:=c6 H.a.m1 (I:Int) 0 k;rw [Int.zero_add,← Int.natCast_mul,← Int.natCast_emod] at this;exact Int.ofNat.inj this
 have e:=Nat.mod_add_div (I * k) m;have hz:J * I * k=J * (I * k % m)+J * m * (I * k / m):=by
  rw [Nat.mul_assoc]
  conv=>lhs;rw [← e]
  rw [Nat.mul_add,Nat.mul_assoc]
 rw [lp,Nat.add_zero,hz,Nat.add_mod (J * _),Nat.mul_mod (J * m),H.per,Nat.zero_mul,Nat.zero_mod,Nat.add_zero,Nat.mod_mod]
theorem rz {M:Nat} (w:Wl M) {I J:Nat} (h:I % M=J % M) (a:List Int):ap M I a=ap M J a:=by
 unfold ap;refine ba fun i hi=>ay a fun k _=>w.mod ?_ hi;rw [Nat.mul_mod,h,← Nat.mul_mod]
theorem mH {a b:List Int} (h:a.length=b.length) (i:Nat):(List.zipWith (fun x y=>x+y) a b).getD i 0=a.getD i 0+b.getD i 0:=by
 rw [List.getD,List.getD,List.getD,List.getElem?_zipWith]
 by_cases hi:i<a.length
 ·rw [List.getElem?_eq_getElem hi,List.getElem?_eq_getElem (show i<b.length by omega)];rfl
 ·rw [List.getElem?_eq_none (by omega),List.getElem?_eq_none (by omega)];rfl
theorem vm (a b:List Int) (g:Nat→Int) (h:a.length=b.length):pr (List.zipWith (fun x y=>x+y) a b) g=pr a g+pr b g:=by
 have:=ny a b 1 g h;rw [Int.one_mul] at this;rw [← this]
 congr 2
 funext x y
 rw [Int.one_mul]
theorem oq {M J:Nat} {a b:List Int} (h:a.length=b.length):ap M J (List.zipWith (fun x y=>x+y) a b)=List.zipWith (fun x y=>x+y) (ap M J a) (ap M J b):=by
 refine (h9 (by rw [List.length_zipWith,cu,cu,Nat.min_self]) fun i hi=>?_).symm
 rw [mH (by rw [cu,cu])]
 unfold ap;rw [bC hi,bC hi,vm _ _ _ h]
end
section
def sm (t:Int) (a:List Int):List Int:=a.map fun x=>t * x
theorem cR {t:Int} {a:List Int}:(sm t a).length=a.length:=List.length_map _
theorem sm_get {t:Int} {a:List Int} (i:Nat):(sm t a).getD i 0=t * a.getD i 0:=by
 unfold sm;rw [List.getD,List.getD,List.getElem?_map];cases a[i]? with
 | none=>exact (Int.mul_zero t).symm
 | some x=>rfl
theorem uH (t:Int):∀ (a:List Int) (g:Nat→Int),pr (sm t a) g=t * pr a g
 | [],_=>(Int.mul_zero t).symm
 | x :: a,g=>by
  show t * x * g 0+pr (sm t a) _=t * (x * g 0+pr a _);rw [uH t a,Int.mul_add,Int.mul_assoc]
theorem ext_get {a b:List Int} (hl:a.length=b.length) (h:∀ i,i<a.length→a.getD i 0=b.getD i 0):a=b:=by
 rw [← gp a,← gp b,← hl];exact ba h
theorem Wl.hZ {m:Nat} (w:Wl m) (t:Int) (a b:List Int):TB.mu m (sm t a) b=sm t (TB.mu m a b):=by
 refine ext_get (by rw [w.bW,cR,w.bW]) fun i hi=>?_
 rw [w.bW] at hi;rw [sm_get,w.mu,w.mu,bC hi,bC hi,uH]
theorem Wl.jC {m:Nat} (w:Wl m) (t:Int) (a b:List Int):TB.mu m a (sm t b)=sm t (TB.mu m a b):=by
 rw [bF,w.hZ,bF]
def aW (d:Nat):List Int:=1 :: List.replicate (d - 1) 0
theorem Wl.dP {m:Nat} (w:Wl m) {b:List Int} (hb:b.length=aa m):TB.mu m (aW (aa m)) b=b:=tD w.W w.dm w.d1 hb
theorem bw {d:Nat} (h:1≤d):(aW d).length=d:=by unfold aW;simp;omega
theorem qL {t:Int} (ht:t≠0) {a b:List Int} (h:sm t a=sm t b):a=b:=by
 refine ext_get (by have:=congrArg List.length h;rwa [cR,cR] at this) fun i _=>?_
 have:=congrArg (fun l=>l.getD i 0) h;simp only [sm_get] at this;exact Int.eq_of_mul_eq_mul_left ht this
def iM (p:Nat):Nat→List (List Int)
 | 0=>[[]]
 | f+1=>(List.range p).flatMap fun (x:Nat)=>(iM p f).map fun r=>(x:Int) :: r
theorem iA {p:Nat} (hp:0<p):∀ (r:List Int),r.map (fun x=>x % (p:Int))∈iM p r.length
 | []=>List.mem_singleton.mpr rfl
 | x :: r=>by
  show _∈(List.range p).flatMap fun (x:Nat)=>(iM p r.length).map fun r=>(x:Int) :: r;have h1:=Int.emod_nonneg x (show (p:Int)≠0 by omega)
  have h2:=Int.emod_lt_of_pos x (show (0:Int)<p by omega)
  refine List.mem_flatMap.mpr ⟨(x % (p:Int)).toNat,List.mem_range.mpr (by omega),List.mem_map.mpr ⟨_,iA hp r,?_⟩⟩
  rw [List.map_cons,Int.toNat_of_nonneg h1]
structure Dom (m p n e:Nat) (q q' u:List Int):Prop where
 w:Wl m
 v:Wl n
 p2:2≤p
 mn:m % n=0
 lq:q.length=aa m
 lq':q'.length=aa m
 lu:u.length=aa m
 h1:mu m q q'=sm p (aW (aa m))
 h2:(Nat.repeat (mu m q) e (aW (aa m)))=sm p u
 h3:∀ i,i<aa n→(p:Int) ∣ pr (aQ m) fun k=>Xw n k i
 h4:∀ k,k<aa m→∀ t,t<aa m→(p:Int) ∣ pr q' (fun s=>Xw m (k+s) t) - Sm (fun i=>Xw n k i * pr q' (fun s=>Xw m (i+s) t)) (aa n)
 h5:∀ r∈iM p (aa n),∀ s∈iM p (aa n),(∀ i,i<aa n→(p:Int) ∣ (mu n r s).getD i 0)→r=List.replicate (aa n) 0∨s=List.replicate (aa n) 0
variable {m p n e:Nat} {q q' u:List Int}
theorem Dom.hom (D:Dom m p n e q q' u):Hom p m n 1:=⟨D.w,D.v,by rw [Nat.one_mul];exact D.mn,fun i hi=>by
 rw [ay (aQ m) (h:=fun k=>Xw n k i) fun k _=>by rw [Nat.one_mul]];exact D.h3 i hi⟩
theorem Dom.res (D:Dom m p n e q q' u) (a b:List Int) {i:Nat} (hi:i<aa n):(p:Int) ∣ pr (mu m a b) (fun k=>Xw n k i) - (mu n (aO n a) (aO n b)).getD i 0:=by
 have h:=D.hom.low (bh m a b) 0 hi;have e1:pr (aO m (bh m a b)) (fun k=>Xw n (1 * k+0) i)=pr (mu m a b) (fun k=>Xw n k i):=ay _ fun k _=>by rw [Nat.one_mul,Nat.add_zero]
 have e2:pr (bh m a b) (fun k=>Xw n (1 * k+0) i)=(mu n (aO n a) (aO n b)).getD i 0:=by
  rw [D.v.gI,bF,D.v.gI,bF,D.v.mu,bC hi,ie D.w.m1];refine ay a fun s _=>ay b fun t _=>D.v.mod ?_ hi;rw [Nat.one_mul,Nat.add_zero,Nat.mod_mod_of_dvd _ (Nat.dvd_of_mod_eq_zero D.mn)]
 rwa [e1,e2] at h
theorem mX {p:Int}:∀ (r:List Int) (g:Nat→Int),p ∣ pr r g - pr (r.map fun x=>x % p) g
 | [],_=>Int.dvd_zero p
 | x :: r,g=>by
  show p ∣ x * g 0+pr r _ - (x % p * g 0+pr (r.map _) _);have h1:p ∣ x * g 0 - x % p * g 0:=by
   rw [← Int.sub_mul];exact Int.dvd_trans (Int.dvd_self_sub_emod) (Int.dvd_mul_right _ _)
  have:=Int.dvd_add h1 (mX r fun k=>g (k+1))
  rwa [show ∀ a b c d:Int,a - b+(c - d)=a+c - (b+d) from fun a b c d=>by omega] at this
theorem oS {p:Nat} {r:List Int} (h:r.map (fun x=>x % (p:Int))=List.replicate r.length 0) (i:Nat):(p:Int) ∣ r.getD i 0:=by
 have e:=congrArg (fun l=>l.getD i 0) h;simp only [List.getD,List.getElem?_map,List.getElem?_replicate] at e;rw [List.getD]
 by_cases hi:i<r.length
 ·rw [List.getElem?_eq_getElem hi] at e ⊢;rw [if_pos hi] at e;exact Int.dvd_of_emod_eq_zero e
 ·rw [List.getElem?_eq_none (by omega)]
  exact Int.dvd_zero _
theorem Dom.field (D:Dom m p n e q q' u) {r s:List Int} (hr:r.length=aa n) (hs:s.length=aa n) (h:∀ i,i<aa n→(p:Int) ∣ (mu n r s).getD i 0) :
  (∀ i,(p:Int) ∣ r.getD i 0)∨∀ i,(p:Int) ∣ s.getD i 0:=by
 have hp:0<p:=Nat.lt_of_lt_of_le (by decide) D.p2
 have key:=D.h5 (r.map fun x=>x % (p:Int)) (hr ▸ iA hp r) (s.map fun x=>x % (p:Int)) (hs ▸ iA hp s) fun i hi=>by
  have h0:=h i hi;rw [D.v.mu,bC hi] at h0 ⊢;have a1:=mX (p:=p) r fun s'=>pr s fun t=>Xw n (s'+t) i;have a2:=mX (p:=p) s fun t=>pr (r.map fun x=>x % (p:Int)) fun s'=>Xw n (s'+t) i;rw [cO s r] at a1;rw [cO s r] at h0;rw [cO (s.map _)];rw [cO s (r.map _)] at a1;have:=Int.dvd_sub (Int.dvd_sub h0 a1) a2
  rwa [show ∀ a b c:Int,a - (a - b) - (b - c)=c from fun a b c=>by omega] at this
 rcases key with z|z
 ·exact .inl fun i=>oS (by rw [z,hr]) i
 ·exact .inr fun i=>oS (by rw [z,hs]) i
theorem qE (a:List Int) (F:Nat→Nat→Int):∀ f,pr a (fun k=>Sm (F k) f)=Sm (fun i=>pr a fun k=>F k i) f
 | 0=>eE a fun _ _=>rfl
 | f+1=>by
  show pr a (fun k=>Sm (F k) f+F k f)=Sm _ f+pr a _;rw [fv,qE a F f]
theorem rB {p:Int} {f:Nat→Int}:∀ n,(∀ i,i<n→p ∣ f i)→p ∣ Sm f n
 | 0,_=>Int.dvd_zero p
 | n+1,h=>Int.dvd_add (rB n fun i hi=>h i (by omega)) (h n (by omega))
def Nul (p n:Nat) (a:List Int):Prop:=∀ i,i<aa n→(p:Int) ∣ pr a fun k=>Xw n k i
theorem Dom.ker (D:Dom m p n e q q' u) {a:List Int} (ha:a.length=aa m) (h:Nul p n a):∀ t,t<aa m→(p:Int) ∣ (mu m a q').getD t 0:=by
 intro t ht;rw [D.w.mu,bC ht];have h1:=qC (p:=p) a (g:=fun k=>pr q' (fun s=>Xw m (k+s) t) - Sm (fun i=>Xw n k i * pr q' (fun s=>Xw m (i+s) t)) (aa n)) fun k hk=>D.h4 k (by omega) t ht
 rw [xY,qE] at h1;have h2:(p:Int) ∣ Sm (fun i=>pr a fun k=>Xw n k i * pr q' (fun s=>Xw m (i+s) t)) (aa n):=rB _ fun i hi=>by
  rw [ay a (h:=fun k=>pr q' (fun s=>Xw m (i+s) t) * Xw n k i) fun k _=>Int.mul_comm _ _,fQ];exact Int.dvd_trans (h i hi) (Int.dvd_mul_left _ _)
 have:=Int.dvd_add h1 h2
 rwa [show ∀ a b:Int,a - b+b=a from fun a b=>by omega] at this
theorem Dom.div (D:Dom m p n e q q' u) {a:List Int} (ha:a.length=aa m) (h:Nul p n a):∃ b:List Int,b.length=aa m∧a=mu m q b:=by
 have hp:(p:Int)≠0:=by have:=D.p2;omega
 have hk:=D.ker ha h;refine ⟨(mu m a q').map fun x=>x / (p:Int),by rw [List.length_map,D.w.bW],qL hp ?_⟩
 have e:sm p ((mu m a q').map fun x=>x / (p:Int))=mu m a q':=by
  refine ext_get (by rw [cR,List.length_map]) fun i hi=>?_
  rw [cR,List.length_map,D.w.bW] at hi;rw [sm_get];have:((mu m a q').map fun x=>x / (p:Int)).getD i 0=(mu m a q').getD i 0 / (p:Int):=by
   rw [List.getD,List.getD,List.getElem?_map];cases (mu m a q')[i]? with
   | none=>show (0:Int)=0 / (p:Int);simp
   | some x=>rfl
  rw [this];exact Int.mul_ediv_cancel' (hk i hi)
 rw [← D.w.jC,e,bF m a,← D.w.bc,D.h1,D.w.hZ,D.w.dP ha]
def pwq (m:Nat) (q:List Int):Nat→List Int
 | 0=>aW (aa m)
 | k+1=>mu m q (pwq m q k)
theorem Wl.oz (w:Wl m) {q:List Int}:∀ k,(pwq m q k).length=aa m
 | 0=>bw w.d1
 | _+1=>w.bW
theorem Wl.jV (w:Wl m) {q:List Int} (k:Nat):∀ j,pwq m q (j+k)=TB.mu m (pwq m q j) (pwq m q k)
 | 0=>by rw [Nat.zero_add];exact (w.dP (w.oz k)).symm
 | j+1=>by
  rw [show j+1+k=(j+k)+1 by omega]
  show TB.mu m q (pwq m q (j+k))=TB.mu m (TB.mu m q (pwq m q j)) _;rw [w.jV k j,w.bc]
theorem om {q:List Int}:∀ k,pwq m q k=Nat.repeat (mu m q) k (aW (aa m))
 | 0=>rfl
 | k+1=>by show mu m q (pwq m q k)=mu m q _;rw [om k]
theorem Dom.val (D:Dom m p n e q q' u) {a:List Int} (ha:a.length=aa m):∀ K,(∃ k a',a'.length=aa m∧a=mu m (pwq m q k) a'∧¬ Nul p n a')∨∃ a',a'.length=aa m∧a=mu m (pwq m q K) a'
 | 0=>.inr ⟨a,ha,(D.w.dP ha).symm⟩
 | K+1=>by
  rcases D.val ha K with h|⟨a',la,ea⟩
  ·exact .inl h
  ·by_cases z:Nul p n a'
   ·obtain ⟨b,lb,eb⟩:=D.div la z;exact .inr ⟨b,lb,by
     show a=mu m (mu m q (pwq m q K)) b;rw [ea,eb,← D.w.bc,bF m (pwq m q K) q]⟩
   ·exact .inl ⟨K,a',la,ea,z⟩
theorem Dom.big (D:Dom m p n e q q' u):∀ (L:Nat) (a':List Int),∀ i,(p:Int) ^ L ∣ (mu m (pwq m q (e * L)) a').getD i 0
 | 0,_,_=>by rw [Int.pow_zero];exact Int.one_dvd _
 | L+1,a',i=>by
  rw [Nat.mul_succ,D.w.jV,D.w.bc,om e,D.h2,D.w.hZ,D.w.jC,sm_get,Int.pow_succ,Int.mul_comm];exact Int.mul_dvd_mul (Int.dvd_refl _) (D.big L _ i)
theorem Dom.some (D:Dom m p n e q q' u) {a:List Int} (ha:a.length=aa m) {i:Nat} (hi:a.getD i 0≠0):∃ k a',a'.length=aa m∧a=mu m (pwq m q k) a'∧¬ Nul p n a':=by
 rcases D.val ha (e * (a.getD i 0).natAbs) with h|⟨a',la,ea⟩
 ·exact h
 ·exfalso
  have hd:=D.big (a.getD i 0).natAbs a' i;rw [← ea] at hd;have h1:=Int.natAbs_dvd_natAbs.mpr hd;have h2:=Nat.le_of_dvd (by omega) h1
  rw [Int.natAbs_pow,Int.natAbs_natCast] at h2;have h3:2 ^ (a.getD i 0).natAbs≤p ^ (a.getD i 0).natAbs:=Nat.pow_le_pow_left D.p2 _;have h4:=@Nat.lt_two_pow_self (a.getD i 0).natAbs;omega
theorem Dom.uy (D:Dom m p n e q q' u):∀ k,mu m (pwq m q' k) (pwq m q k)=sm ((p:Int) ^ k) (aW (aa m))
 | 0=>by
  show mu m (aW _) (aW _)=sm 1 _;rw [D.w.dP (bw D.w.d1)];unfold sm;rw [show (fun x:Int=>1 * x)=id from funext fun x=>Int.one_mul x,List.map_id]
 | k+1=>by
  show mu m (mu m q' (pwq m q' k)) (mu m q (pwq m q k))=_;rw [bF m q',D.w.bc,← D.w.bc q',bF m q' q,D.h1,D.w.hZ,D.w.dP (D.w.oz k),D.w.jC,D.uy k];unfold sm;rw [List.map_map];refine List.map_congr_left fun x _=>?_;show (p:Int) * ((p:Int) ^ k * x)=(p:Int) ^ (k+1) * x;rw [Int.pow_succ,← Int.mul_assoc,Int.mul_comm (p:Int)]
theorem Wl.j6 (w:Wl m) (a:List Int) (d:Nat):TB.mu m a (List.replicate d 0)=List.replicate (aa m) 0:=by
 rw [bF,w.mu];exact dU fun i _=>eN _ _
theorem Dom.dom (D:Dom m p n e q q' u) {a b:List Int} (ha:a.length=aa m) (hb:b.length=aa m) (h:mu m a b=List.replicate (aa m) 0) :
  a=List.replicate (aa m) 0∨b=List.replicate (aa m) 0:=by
 by_cases za:∀ i,a.getD i 0=0
 ·exact .inl (ext_get (by rw [ha,List.length_replicate]) fun i hi=>by rw [za i,List.getD,List.getElem?_replicate,if_pos (by omega)];rfl)
 by_cases zb:∀ i,b.getD i 0=0
 ·exact .inr (ext_get (by rw [hb,List.length_replicate]) fun i hi=>by rw [zb i,List.getD,List.getElem?_replicate,if_pos (by omega)];rfl)
 exfalso
 obtain ⟨i,hi⟩:=Classical.not_forall.mp za;obtain ⟨j,hj⟩:=Classical.not_forall.mp zb;obtain ⟨k,a',la,ea,na⟩:=D.some ha hi;obtain ⟨l,b',lb,eb,nb⟩:=D.some hb hj;have e1:mu m a b=mu m (pwq m q (k+l)) (mu m a' b'):=by
  rw [ea,eb,D.w.jV,D.w.bc,D.w.bc,← D.w.bc a',bF m a' (pwq m q l),D.w.bc]
 have lab:(mu m a' b').length=aa m:=D.w.bW;have e2:mu m (pwq m q' (k+l)) (mu m a b)=sm ((p:Int) ^ (k+l)) (mu m a' b'):=by
  rw [e1,← D.w.bc,D.uy,D.w.hZ,D.w.dP lab]
 rw [h,D.w.j6] at e2;have hp:(p:Int) ^ (k+l)≠0:=Int.pow_ne_zero (by have:=D.p2;omega)
 have e3:mu m a' b'=List.replicate (aa m) 0:=qL hp (by
  rw [← e2];unfold sm;rw [List.map_replicate,Int.mul_zero])
 have hf:=D.field (r:=aO n a') (s:=aO n b') (eR D.v.W D.v.dm _) (eR D.v.W D.v.dm _) fun i hi=>by
  have:=D.res a' b' hi;rw [e3,eN,Int.zero_sub] at this;exact Int.dvd_neg.mp this
 have lo:∀ (c:List Int) (i:Nat),i<aa n→(aO n c).getD i 0=pr c fun k=>Xw n k i:=fun c i hi=>by
  rw [D.v.low];unfold ap;rw [bC hi];exact ay c fun k _=>by rw [Nat.one_mul]
 rcases hf with z|z
 ·exact na fun i hi=>by rw [← lo a' i hi];exact z i
 ·exact nb fun i hi=>by rw [← lo b' i hi];exact z i
end
section
def nrm (m:Nat) (a:List Int) (js:List Nat) (r:List Int):List Int:=js.foldl (fun r j=>mu m r (ap m j a)) r
def tot (m:Nat) (a:List Int) (js:List Nat) (r:List Int):List Int:=js.foldl (fun r j=>List.zipWith (fun x y=>x+y) r (ap m j a)) r
theorem mu4 {m:Nat} (w:Wl m) (r s A B:List Int):mu m (mu m r s) (mu m A B)=mu m (mu m r A) (mu m s B):=by
 rw [w.bc,w.bc,← w.bc s,bF m s A,w.bc]
theorem qv {m:Nat} (w:Wl m) (a b:List Int):∀ js:List Nat,(∀ j∈js,Hom 0 m m j)→∀ r s,nrm m (mu m a b) js (mu m r s)=mu m (nrm m a js r) (nrm m b js s)
 | [],_,r,s=>rfl
 | j :: js,h,r,s=>by
  show nrm m (mu m a b) js (mu m (mu m r s) (ap m j (mu m a b)))=mu m (nrm m a js (mu m r (ap m j a))) (nrm m b js (mu m s (ap m j b)));rw [(h j List.mem_cons_self).lP,mu4 w,qv w a b js fun j hj=>h j (List.mem_cons_of_mem _ hj)]
theorem qK {m I:Nat} (H:Hom 0 m m I) (a:List Int):∀ (js:List Nat) (r:List Int),ap m I (nrm m a js r)=nrm m a (js.map fun j=>I * j) (ap m I r)
 | [],r=>rfl
 | j :: js,r=>by
  show ap m I (nrm m a js (mu m r (ap m j a)))=nrm m a (js.map fun j=>I * j) (mu m (ap m I r) (ap m (I * j) a));rw [qK H a js,H.lP,H.pj]
theorem ub {m:Nat} (w:Wl m) {a:List Int} {js ks:List Nat} (h:js.Perm ks):∀ r,nrm m a js r=nrm m a ks r:=by
 induction h with
 | nil=>intro r;rfl
 | cons x _ ih=>intro r;exact ih _
 | swap x y l =>
  intro r;show nrm m a l (mu m (mu m r (ap m y a)) (ap m x a))=nrm m a l (mu m (mu m r (ap m x a)) (ap m y a));rw [w.bc,bF m (ap m y a),← w.bc]
 | trans _ _ h1 h2=>intro r;rw [h1,h2]
theorem kj {m:Nat} (w:Wl m) (a:List Int):∀ (js:List Nat) (r:List Int),nrm m a (js.map fun j=>j % m) r=nrm m a js r
 | [],r=>rfl
 | j :: js,r=>by
  show nrm m a (js.map fun j=>j % m) (mu m r (ap m (j % m) a))=nrm m a js (mu m r (ap m j a));rw [kj w a js,rz w (Nat.mod_mod j m)]
theorem fK {d:Nat} (h:1≤d) (i:Nat):(aW d).getD i 0=if i=0 then 1 else 0:=by
 unfold aW;cases i with
 | zero=>rfl
 | succ i =>
  rw [List.getD,List.getElem?_cons_succ,List.getElem?_replicate,if_neg (Nat.succ_ne_zero i)]
  split <;> rfl
theorem uY {m J:Nat} (w:Wl m):ap m J (aW (aa m))=aW (aa m):=by
 refine (h9 (bw w.d1) fun i hi=>?_).symm;rw [fK w.d1];show _=1 * Xw m (J * 0) i+pr (List.replicate _ 0) _;rw [eN,Int.add_zero,Int.one_mul];rfl
def sj (js:List Nat) (f:Nat→Int):Int:=js.foldr (fun j s=>f j+s) 0
theorem qj (a:List Int) (F:Nat→Nat→Int):∀ js:List Nat,sj js (fun j=>pr a (F j))=pr a fun k=>sj js fun j=>F j k
 | []=>(eE a fun _ _=>rfl).symm
 | j :: js=>by
  show pr a (F j)+sj js _=pr a fun k=>F j k+sj js fun j=>F j k;rw [qj a F js,fv]
theorem ik {m:Nat} (a:List Int):∀ (js:List Nat) (r:List Int),r.length=aa m→(tot m a js r).length=aa m∧∀ i,i<aa m→(tot m a js r).getD i 0=r.getD i 0+sj js fun j=>pr a fun k=>Xw m (j * k) i
 | [],r,h=>⟨h,fun i _=>(Int.add_zero _).symm⟩
 | j :: js,r,h=>by
  have l1:(List.zipWith (fun x y=>x+y) r (ap m j a)).length=aa m:=by rw [List.length_zipWith,cu,h,Nat.min_self]
  obtain ⟨h1,h2⟩:=ik a js (List.zipWith (fun x y=>x+y) r (ap m j a)) l1;refine ⟨h1,fun i hi=>?_⟩;show (tot m a js (List.zipWith (fun x y=>x+y) r (ap m j a))).getD i 0=r.getD i 0+(_+sj js _);rw [h2 i hi,mH (by rw [cu,h]),Int.add_assoc]
  unfold ap;rw [bC hi]
structure Nm (m:Nat) (js:List Nat):Prop where
 w:Wl m
 hom:∀ j∈js,Hom 0 m m j
 perm:∀ j∈js,((js.map fun i=>j * i).map fun i=>i % m).Perm (js.map fun i=>i % m)
 tr:∀ k,k<aa m→∀ i,i<aa m→1≤i→sj js (fun j=>Xw m (j * k) i)=0
 inv:∀ j∈js,∃ i∈js,i * j % m=1 % m
 len:js.length=aa m
 dom:∃ p n e q q' u,Dom m p n e q q' u
variable {m:Nat} {js:List Nat}
abbrev Nm.N (_:Nm m js) (a:List Int):List Int:=nrm m a js (aW (aa m))
theorem hV (w:Wl m) (a:List Int):∀ (js:List Nat) (r:List Int),r.length=aa m→(nrm m a js r).length=aa m
 | [],r,h=>h
 | j :: js,r,_=>hV w a js _ w.bW
theorem Nm.fixed (D:Nm m js) (a:List Int) {j:Nat} (hj:j∈js):ap m j (D.N a)=D.N a:=by
 rw [qK (D.hom j hj),uY D.w,← kj D.w,ub D.w (D.perm j hj),kj D.w]
theorem m6 {l:List Int} {d:Nat} (h1:1≤d) (hl:l.length=d) (h:∀ i,i<d→1≤i→l.getD i 0=0):l=sm (l.getD 0 0) (aW d):=by
 refine ext_get (by rw [cR,bw h1,hl]) fun i hi=>?_
 rw [sm_get,fK h1]
 by_cases z:i=0
 ·rw [z,if_pos rfl,Int.mul_one]
 ·rw [if_neg z,Int.mul_zero,h i (by omega) (by omega)]
theorem Nm.tot (D:Nm m js) {a:List Int} (ha:a.length=aa m):TB.tot m a js (List.replicate (aa m) 0)=sm ((TB.tot m a js (List.replicate (aa m) 0)).getD 0 0) (aW (aa m)):=by
 obtain ⟨h1,h2⟩:=ik (m:=m) a js (List.replicate (aa m) 0) (List.length_replicate);refine m6 D.w.d1 h1 fun i hi i1=>?_;rw [h2 i hi,qj,eE a fun k hk=>D.tr k (by omega) i hi i1,List.getD,List.getElem?_replicate,if_pos hi]
 rfl
theorem nC (c:Int) {f:Nat→Int}:∀ js:List Nat,(∀ j∈js,f j=c)→sj js f=js.length * c
 | [],_=>(Int.zero_mul c).symm
 | j :: js,h=>by
  show f j+sj js f=((js.length+1:Nat):Int) * c;rw [h j List.mem_cons_self,nC c js fun j hj=>h j (List.mem_cons_of_mem _ hj),Int.natCast_add,Int.add_mul];omega
theorem Nm.norm (D:Nm m js) (a:List Int):D.N a=sm ((D.N a).getD 0 0) (aW (aa m)):=by
 have ln:=hV D.w a js (aW (aa m)) (bw D.w.d1);refine m6 D.w.d1 ln fun i hi i1=>?_;obtain ⟨h1,h2⟩:=ik (m:=m) (D.N a) js (List.replicate (aa m) 0) (List.length_replicate);have e1:=h2 i hi;rw [qj,eE (D.N a) (fun k hk=>D.tr k (by rw [ln] at hk;exact hk) i hi i1)] at e1
 have e2:=h2 i hi;rw [nC ((D.N a).getD i 0) js fun j hj=>by
  have:=congrArg (fun l=>l.getD i 0) (D.fixed a hj);rw [← show (ap m j (D.N a)).getD i 0=(D.N a).getD i 0 from this];unfold ap;rw [bC hi]] at e2
 have e3:(js.length:Int) * (D.N a).getD i 0=0:=by omega
 rcases Int.mul_eq_zero.mp e3 with z|z
 ·have:=D.w.d1;have:=D.len;omega
 ·exact z
theorem wW {d:Nat} (h:1≤d):aW d≠List.replicate d 0:=fun z=>by
 have:=congrArg (fun l=>l.getD 0 0) z;obtain ⟨n,rfl⟩:∃ n,d=n+1:=⟨d - 1,by omega⟩
 exact absurd (show (1:Int)=0 from this) (by decide)
theorem Nm.zero (D:Nm m js) {a:List Int} (ha:a.length=aa m) (h:D.N a=List.replicate (aa m) 0):a=List.replicate (aa m) 0:=by
 obtain ⟨p,n,e,q,q',u,C⟩:=D.dom;have key:∀ (ks:List Nat) (r:List Int),r.length=aa m→nrm m a ks r=List.replicate (aa m) 0→r=List.replicate (aa m) 0∨∃ j∈ks,ap m j a=List.replicate (aa m) 0:=fun ks=>by
  induction ks with
  | nil=>intro r _ z;exact .inl z
  | cons j ks ih =>
   intro r hr z;rcases ih _ D.w.bW z with y|⟨i,hi,y⟩
   ·rcases C.dom hr cu y with x|x
    ·exact .inl x
    ·exact .inr ⟨j,List.mem_cons_self,x⟩
   ·exact .inr ⟨i,List.mem_cons_of_mem _ hi,y⟩
 rcases key js _ (bw D.w.d1) h with z|⟨j,hj,z⟩
 ·exact absurd z (wW D.w.d1)
 ·obtain ⟨i,hi,e⟩:=D.inv j hj;have h1:=(D.hom i hi).pj j a;rw [z,rz D.w e,rl ha] at h1;rw [← h1];unfold ap;exact dU fun i _=>eN _ _
theorem Nm.uV (D:Nm m js):D.N (List.replicate (aa m) 0)=List.replicate (aa m) 0:=by
 have az:∀ j,ap m j (List.replicate (aa m) 0)=List.replicate (aa m) 0:=fun j=>dU fun i _=>eN _ _;have key:∀ ks:List Nat,nrm m (List.replicate (aa m) 0) ks (List.replicate (aa m) 0)=List.replicate (aa m) 0:=fun ks=>by
  induction ks with
  | nil=>rfl
  | cons j ks ih =>
   show nrm m _ ks (mu m _ (ap m j _))=_;rw [az,D.w.j6,ih]
 have hl:=D.len;have hd:=D.w.d1;unfold Nm.N;cases js with
 | nil=>simp at hl;omega
 | cons j ks =>
  show nrm m _ ks (mu m _ (ap m j _))=_;rw [az,D.w.j6,key]
theorem Nm.iff (D:Nm m js) {a:List Int} (ha:a.length=aa m):(D.N a).getD 0 0=0↔a=List.replicate (aa m) 0:=by
 constructor
 ·intro z;refine D.zero ha ?_;rw [D.norm a,z];refine ext_get (by rw [cR,bw D.w.d1,List.length_replicate]) fun i hi=>?_
  rw [cR,bw D.w.d1] at hi;rw [sm_get,Int.zero_mul,List.getD,List.getElem?_replicate,if_pos hi];rfl
 ·rintro rfl;rw [D.uV,List.getD,List.getElem?_replicate,if_pos (show 0<aa m from D.w.d1)];rfl
theorem Nm.mul (D:Nm m js) (a b:List Int):(D.N (mu m a b)).getD 0 0=(D.N a).getD 0 0 * (D.N b).getD 0 0:=by
 have e:D.N (mu m a b)=mu m (D.N a) (D.N b):=by
  rw [← qv D.w a b js D.hom,D.w.dP (bw D.w.d1)]
 have g:∀ t:Int,(sm t (aW (aa m))).getD 0 0=t:=fun t=>by rw [sm_get,fK D.w.d1,if_pos rfl,Int.mul_one]
 rw [e,D.norm a,D.norm b,D.w.hZ,D.w.jC,D.w.dP (bw D.w.d1),sm_get,g,g]
end
section
def hE (c r:List Int):List Int:=List.zipWith (fun x y=>x - r.getLastD 0 * y) (0 :: r.dropLast) c
def cH (c:List Int) (d:Nat):Nat→List Int
 | 0=>aW d
 | k+1=>hE c (cH c d k)
theorem mT {c:List Int} {d:Nat} (h1:1≤d) (hc:c.length=d+1):∀ k,(cH c d k).length=d
 | 0=>bw h1
 | k+1=>by
  have:=mT h1 hc k;show (hE c (cH c d k)).length=d;unfold hE;rw [List.length_zipWith,List.length_cons,List.length_dropLast,this,hc];omega
theorem iG {c:List Int} {d:Nat} (h1:1≤d) (hc:c.length=d+1):∀ k i,i<d→(cH c d k).getD i 0=Xp c d k i
 | 0,i,_=>fK h1 i
 | k+1,i,hi=>by
  have hl:=mT h1 hc k;have ih:=iG h1 hc k;show (hE c (cH c d k)).getD i 0=dh c d (Xp c d k) i;unfold hE dh;rw [← ih (d - 1) (by omega),List.getD,List.getElem?_zipWith,List.getElem?_eq_getElem (show i<c.length by omega)]
  have hlast:(cH c d k).getLastD 0=(cH c d k).getD (d - 1) 0:=by
   rw [List.getLastD_eq_getLast?,List.getLast?_eq_getElem?,hl,List.getD]
  have hci:c.getD i 0=c[i]'(by omega):=by rw [List.getD,List.getElem?_eq_getElem (show i<c.length by omega)];rfl
  rw [hlast,hci]
  by_cases z:i=0
  ·subst z;rw [if_pos rfl];rfl
  ·obtain ⟨j,rfl⟩:∃ j,i=j+1:=⟨i - 1,by omega⟩
   rw [if_neg z,← ih (j+1 - 1) (by omega),List.getElem?_cons_succ,List.getElem?_eq_getElem (show j<(cH c d k).dropLast.length by rw [List.length_dropLast];omega),List.getElem_dropLast]
   show _ - _=_;have hj:(cH c d k).getD j 0=(cH c d k)[j]'(by omega):=by rw [List.getD,List.getElem?_eq_getElem (show j<(cH c d k).length by omega)];rfl
   rw [show j+1 - 1=j from rfl,hj]
def tbG (c:List Int):Nat→List Int→List (List Int)
 | 0,_=>[]
 | n+1,r=>r :: tbG c n (hE c r)
theorem oy {c:List Int} {d:Nat}:∀ (n o k:Nat),k<n→(tbG c n (cH c d o)).getD k []=cH c d (o+k)
 | n+1,o,0,_=>rfl
 | n+1,o,k+1,h=>by
  show (tbG c n (cH c d (o+1))).getD k []=_;rw [oy n (o+1) k (by omega),show o+1+k=o+(k+1) by omega]
def tbX (m:Nat):List (List Int):=tbG (aQ m) m (aW (aa m))
def Xt (t:List (List Int)) (m k i:Nat):Int:=(t.getD (k % m) []).getD i 0
theorem gh {m:Nat} (w:Wl m) (k:Nat) {i:Nat} (hi:i<aa m):Xt (tbX m) m k i=Xw m k i:=by
 unfold Xt tbX;rw [show aW (aa m)=cH (aQ m) (aa m) 0 from rfl,oy m 0 _ (Nat.mod_lt _ w.m1),Nat.zero_add,iG w.d1 w.W.len _ i hi];exact w.mod (Nat.mod_mod k m) hi
def ax (m:Nat):Prop:=cH (aQ m) (aa m) m=aW (aa m)
instance (m:Nat):Decidable (ax m):=inferInstanceAs (Decidable (_=_))
theorem aA {m:Nat} (h1:1≤m) (h2:m≤60) (h:ax m):Wl m:=by
 have ok:=(fg m (by omega)).resolve_left (by omega)
 have d1:=(vg m (by omega)).resolve_left (by omega)
 have W:=gc ok.1;refine ⟨h1,d1,ok.2.1,W,fun i hi=>?_⟩;have e:=iG d1 W.len m i hi;rw [show cH (aQ m) (aa m) m=aW (aa m) from h,fK d1] at e;exact e.symm
def bK (m M J:Nat):Prop:=J * m % M=0∧∀ i,i<aa M→pr (aQ m) (fun k=>Xt (tbX M) M (J * k) i)=0
instance (m M J:Nat):Decidable (bK m M J):=inferInstanceAs (Decidable (_∧_))
theorem bD {m M J:Nat} (a:Wl m) (b:Wl M) (h:bK m M J):Hom 0 m M J:=⟨a,b,h.1,fun i hi=>by
 rw [← ay (aQ m) (g:=fun k=>Xt (tbX M) M (J * k) i) fun k _=>gh b _ hi,h.2 i hi];exact Int.dvd_zero 0⟩
def aw (m:Nat):List Nat:=((List.range m).map (·+1)).filter fun j=>Nat.gcd m j == 1
def b6 (m:Nat):Prop:=(∀ j∈aw m,bK m m j∧(((aw m).map fun i=>j * i).map fun i=>i % m).isPerm ((aw m).map fun i=>i % m)=true∧(aw m).any (fun i=>i * j % m == 1 % m)=true) ∧
 (∀ k,k<aa m→∀ i,i<aa m→1≤i→sj (aw m) (fun j=>Xt (tbX m) m (j * k) i)=0)∧(aw m).length=aa m
instance (m:Nat):Decidable (b6 m):=inferInstanceAs (Decidable (_∧_))
theorem mC {f g:Nat→Int}:∀ js:List Nat,(∀ j∈js,f j=g j)→sj js f=sj js g
 | [],_=>rfl
 | j :: js,h=>by
  show f j+sj js f=g j+sj js g;rw [h j List.mem_cons_self,mC js fun j hj=>h j (List.mem_cons_of_mem _ hj)]
def bG (m p n e:Nat) (q q' u:List Int):Prop:=(2≤p∧m % n=0∧q.length=aa m∧q'.length=aa m∧u.length=aa m∧mu m q q'=sm p (aW (aa m))∧(Nat.repeat (mu m q) e (aW (aa m)))=sm p u) ∧
 (∀ i,i<aa n→pr (aQ m) (fun k=>Xt (tbX n) n k i) % (p:Int)=0) ∧
 (∀ k,k<aa m→∀ t,t<aa m→(pr q' (fun s=>Xt (tbX m) m (k+s) t) - Sm (fun i=>Xt (tbX n) n k i * pr q' (fun s=>Xt (tbX m) m (i+s) t)) (aa n)) % (p:Int)=0) ∧
 (∀ r∈iM p (aa n),∀ s∈iM p (aa n),(mu n r s).all (fun x=>x % (p:Int) == 0)=true→r=List.replicate (aa n) 0∨s=List.replicate (aa n) 0)
instance (m p n e:Nat) (q q' u:List Int):Decidable (bG m p n e q q' u):=inferInstanceAs (Decidable (_∧_))
theorem yC {m p n e:Nat} {q q' u:List Int} (a:Wl m) (b:Wl n) (h:bG m p n e q q' u):Dom m p n e q q' u:=by
 obtain ⟨⟨p2,mn,l1,l2,l3,h1,h2⟩,h3,h4,h5⟩:=h;refine ⟨a,b,p2,mn,l1,l2,l3,h1,h2,fun i hi=>?_,fun k hk t ht=>?_,fun r hr s hs z=>h5 r hr s hs ?_⟩
 ·rw [← ay (aQ m) (g:=fun k=>Xt (tbX n) n k i) fun k _=>gh b _ hi];exact Int.dvd_of_emod_eq_zero (h3 i hi)
 ·have:=Int.dvd_of_emod_eq_zero (h4 k hk t ht)
  rwa [ay q' (h:=fun s=>Xw m (k+s) t) fun s _=>gh a _ ht,br (aa n) (g:=fun i=>Xw n k i * pr q' (fun s=>Xw m (i+s) t)) fun i hi=>by
   rw [gh b _ hi,ay q' (h:=fun s=>Xw m (i+s) t) fun s _=>gh a _ ht]] at this
 ·rw [List.all_eq_true];intro x hx;obtain ⟨i,hi,rfl⟩:=List.getElem_of_mem hx;have:=z i (by rw [b.bW] at hi;exact hi)
  rw [List.getD,List.getElem?_eq_getElem hi] at this;exact beq_iff_eq.mpr (Int.emod_eq_zero_of_dvd this)
theorem bR {m p n e:Nat} {q q' u:List Int} (a:Wl m) (b:Wl n) (h:b6 m) (d:bG m p n e q q' u):Nm m (aw m):=by
 obtain ⟨h1,h2,h3⟩:=h;refine ⟨a,fun j hj=>bD a a (h1 j hj).1,fun j hj=>List.isPerm_iff.mp (h1 j hj).2.1,fun k hk i hi i1=>?_,fun j hj=>?_,h3,⟨p,n,e,q,q',u,yC a b d⟩⟩
 ·rw [← mC _ (f:=fun j=>Xt (tbX m) m (j * k) i) fun j _=>gh a _ hi];exact h2 k hk i hi i1
 ·obtain ⟨i,hi,e⟩:=List.any_eq_true.mp (h1 j hj).2.2;exact ⟨i,hi,beq_iff_eq.mp e⟩
end
section
theorem zL:ax 1:=by decide +kernel
theorem zy:ax 2:=by decide +kernel
theorem yN:ax 3:=by decide +kernel
theorem Ax:ax 4:=by decide +kernel
theorem yL:ax 5:=by decide +kernel
theorem AR:ax 6:=by decide +kernel
theorem Aw:ax 7:=by decide +kernel
theorem z7:ax 8:=by decide +kernel
theorem AE:ax 9:=by decide +kernel
theorem yc:ax 10:=by decide +kernel
theorem wz:ax 11:=by decide +kernel
theorem xJ:ax 12:=by decide +kernel
theorem wO:ax 13:=by decide +kernel
theorem xk:ax 14:=by decide +kernel
theorem xr:ax 15:=by decide +kernel
theorem vO:ax 16:=by decide +kernel
theorem xQ:ax 17:=by decide +kernel
theorem v7:ax 18:=by decide +kernel
theorem wB:ax 19:=by decide +kernel
theorem xO:ax 20:=by decide +kernel
theorem ye:ax 21:=by decide +kernel
theorem yA:ax 22:=by decide +kernel
theorem yi:ax 23:=by decide +kernel
theorem xa:ax 24:=by decide +kernel
theorem xT:ax 25:=by decide +kernel
theorem wy:ax 26:=by decide +kernel
theorem wF:ax 27:=by decide +kernel
theorem wZ:ax 28:=by decide +kernel
theorem xy:ax 29:=by decide +kernel
theorem xH:ax 30:=by decide +kernel
theorem wu:ax 31:=by decide +kernel
theorem wa:ax 32:=by decide +kernel
theorem wq:ax 33:=by decide +kernel
theorem wH:ax 34:=by decide +kernel
theorem wk:ax 35:=by decide +kernel
theorem yu:ax 36:=by decide +kernel
theorem wG:ax 37:=by decide +kernel
theorem xj:ax 38:=by decide +kernel
theorem vQ:ax 39:=by decide +kernel
theorem xE:ax 40:=by decide +kernel
theorem xl:ax 41:=by decide +kernel
theorem vW:ax 42:=by decide +kernel
theorem wj:ax 43:=by decide +kernel
theorem xM:ax 44:=by decide +kernel
theorem yg:ax 45:=by decide +kernel
theorem yo:ax 46:=by decide +kernel
theorem vV:ax 47:=by decide +kernel
theorem wo:ax 48:=by decide +kernel
theorem xN:ax 49:=by decide +kernel
theorem xX:ax 50:=by decide +kernel
theorem xh:ax 51:=by decide +kernel
theorem wM:ax 52:=by decide +kernel
theorem w6:ax 53:=by decide +kernel
theorem xI:ax 54:=by decide +kernel
theorem vY:ax 55:=by decide +kernel
theorem xi:ax 56:=by decide +kernel
theorem wV:ax 57:=by decide +kernel
theorem xn:ax 58:=by decide +kernel
theorem yb:ax 59:=by decide +kernel
theorem wU:ax 60:=by decide +kernel
theorem aF:∀ m,m<61→m=0∨Wl m
 | 0,_=>.inl rfl
 | 1,_=>.inr (aA (by decide) (by decide) zL)
 | 2,_=>.inr (aA (by decide) (by decide) zy)
 | 3,_=>.inr (aA (by decide) (by decide) yN)
 | 4,_=>.inr (aA (by decide) (by decide) Ax)
 | 5,_=>.inr (aA (by decide) (by decide) yL)
 | 6,_=>.inr (aA (by decide) (by decide) AR)
 | 7,_=>.inr (aA (by decide) (by decide) Aw)
 | 8,_=>.inr (aA (by decide) (by decide) z7)
 | 9,_=>.inr (aA (by decide) (by decide) AE)
 | 10,_=>.inr (aA (by decide) (by decide) yc)
 | 11,_=>.inr (aA (by decide) (by decide) wz)
 | 12,_=>.inr (aA (by decide) (by decide) xJ)
 | 13,_=>.inr (aA (by decide) (by decide) wO)
 | 14,_=>.inr (aA (by decide) (by decide) xk)
 | 15,_=>.inr (aA (by decide) (by decide) xr)
 | 16,_=>.inr (aA (by decide) (by decide) vO)
 | 17,_=>.inr (aA (by decide) (by decide) xQ)
 | 18,_=>.inr (aA (by decide) (by decide) v7)
 | 19,_=>.inr (aA (by decide) (by decide) wB)
 | 20,_=>.inr (aA (by decide) (by decide) xO)
 | 21,_=>.inr (aA (by decide) (by decide) ye)
 | 22,_=>.inr (aA (by decide) (by decide) yA)
 | 23,_=>.inr (aA (by decide) (by decide) yi)
 | 24,_=>.inr (aA (by decide) (by decide) xa)
 | 25,_=>.inr (aA (by decide) (by decide) xT)
 | 26,_=>.inr (aA (by decide) (by decide) wy)
 | 27,_=>.inr (aA (by decide) (by decide) wF)
 | 28,_=>.inr (aA (by decide) (by decide) wZ)
 | 29,_=>.inr (aA (by decide) (by decide) xy)
 | 30,_=>.inr (aA (by decide) (by decide) xH)
 | 31,_=>.inr (aA (by decide) (by decide) wu)
 | 32,_=>.inr (aA (by decide) (by decide) wa)
 | 33,_=>.inr (aA (by decide) (by decide) wq)
 | 34,_=>.inr (aA (by decide) (by decide) wH)
 | 35,_=>.inr (aA (by decide) (by decide) wk)
 | 36,_=>.inr (aA (by decide) (by decide) yu)
 | 37,_=>.inr (aA (by decide) (by decide) wG)
 | 38,_=>.inr (aA (by decide) (by decide) xj)
 | 39,_=>.inr (aA (by decide) (by decide) vQ)
 | 40,_=>.inr (aA (by decide) (by decide) xE)
 | 41,_=>.inr (aA (by decide) (by decide) xl)
 | 42,_=>.inr (aA (by decide) (by decide) vW)
 | 43,_=>.inr (aA (by decide) (by decide) wj)
 | 44,_=>.inr (aA (by decide) (by decide) xM)
 | 45,_=>.inr (aA (by decide) (by decide) yg)
 | 46,_=>.inr (aA (by decide) (by decide) yo)
 | 47,_=>.inr (aA (by decide) (by decide) vV)
 | 48,_=>.inr (aA (by decide) (by decide) wo)
 | 49,_=>.inr (aA (by decide) (by decide) xN)
 | 50,_=>.inr (aA (by decide) (by decide) xX)
 | 51,_=>.inr (aA (by decide) (by decide) xh)
 | 52,_=>.inr (aA (by decide) (by decide) wM)
 | 53,_=>.inr (aA (by decide) (by decide) w6)
 | 54,_=>.inr (aA (by decide) (by decide) xI)
 | 55,_=>.inr (aA (by decide) (by decide) vY)
 | 56,_=>.inr (aA (by decide) (by decide) xi)
 | 57,_=>.inr (aA (by decide) (by decide) wV)
 | 58,_=>.inr (aA (by decide) (by decide) xn)
 | 59,_=>.inr (aA (by decide) (by decide) yb)
 | 60,_=>.inr (aA (by decide) (by decide) wU)
 | n+61,h=>absurd h (by omega)
theorem zF:b6 1:=by decide +kernel
theorem AF:bG 1 2 1 1 [2] [1] [1]:=by decide +kernel
theorem zD:b6 2:=by decide +kernel
theorem yX:bG 2 2 1 1 [2] [1] [1]:=by decide +kernel
theorem AL:b6 3:=by decide +kernel
theorem An:bG 3 3 1 2 [1,-1] [2,1] [0,-1]:=by decide +kernel
theorem zv:b6 4:=by decide +kernel
theorem zm:bG 4 2 1 2 [1,-1] [1,1] [0,-1]:=by decide +kernel
theorem z9:b6 5:=by decide +kernel
theorem yZ:bG 5 5 1 4 [1,-1,0,0] [4,3,2,1] [0,-1,1,-1]:=by decide +kernel
theorem Ag:b6 6:=by decide +kernel
theorem zO:bG 6 3 2 2 [2,-1] [1,1] [1,-1]:=by decide +kernel
theorem Ad:b6 7:=by decide +kernel
theorem yS:bG 7 7 1 6 [1,-1,0,0,0,0] [6,5,4,3,2,1] [0,-1,2,-3,2,-1]:=by decide +kernel
theorem y9:b6 8:=by decide +kernel
theorem zq:bG 8 2 1 4 [1,-1,0,0] [1,1,1,1] [0,-2,3,-2]:=by decide +kernel
theorem yR:b6 9:=by decide +kernel
theorem AB:bG 9 3 1 6 [1,-1,0,0,0,0] [2,2,2,1,1,1] [0,-2,5,-7,5,-2]:=by decide +kernel
theorem xu:b6 10:=by decide +kernel
theorem vR:bG 10 5 2 4 [1,0,-1,0] [2,1,1,2] [-1,2,-2,1]:=by decide +kernel
theorem yt:b6 12:=by decide +kernel
theorem wJ:bG 12 2 3 2 [1,0,0,-1] [1,0,0,1] [0,0,0,-1]:=by decide +kernel
theorem xf:b6 14:=by decide +kernel
theorem ya:bG 14 7 2 6 [1,0,-1,0,0,0] [3,1,2,2,1,3] [3,-5,2,-2,5,-3]:=by decide +kernel
theorem xb:b6 15:=by decide +kernel
theorem xG:bG 15 5 3 4 [1,0,0,-1,0,0,0,0] [3,0,1,2,0,0,1,1] [1,0,-1,0,0,0,2,-1]:=by decide +kernel
theorem wx:b6 16:=by decide +kernel
theorem x4:bG 16 2 1 8 [1,-1,0,0,0,0,0,0] [1,1,1,1,1,1,1,1] [0,-4,14,-28,35,-28,14,-4]:=by decide +kernel
theorem xt:b6 18:=by decide +kernel
theorem wY:bG 18 3 2 6 [1,0,-1,0,0,0] [1,-1,1,1,2,1] [7,2,-7,-7,5,5]:=by decide +kernel
theorem xK:b6 20:=by decide +kernel
theorem wR:bG 20 2 5 2 [1,0,0,0,0,-1,0,0] [1,0,0,0,0,1,0,0] [0,0,0,0,0,-1,0,0]:=by decide +kernel
theorem xA:b6 24:=by decide +kernel
theorem xV:bG 24 2 3 4 [1,0,0,-1,0,0,0,0] [1,-1,0,1,0,1,1,0] [0,2,0,-2,0,-2,3,0]:=by decide +kernel
theorem yd:b6 30:=by decide +kernel
theorem vL:bG 30 5 6 4 [1,0,0,0,0,0,-1,0] [4,0,-2,-1,0,0,3,2] [0,0,-1,1,0,0,-1,1]:=by decide +kernel
def b3:List Nat:=[1,2,3,4,5,6,7,8,9,10,12,14,15,16,18,20,24,30]
theorem A9:Nm 1 (aw 1):=bR ((aF 1 (by decide)).resolve_left (by decide)) ((aF 1 (by decide)).resolve_left (by decide)) zF AF
theorem Be:Nm 2 (aw 2):=bR ((aF 2 (by decide)).resolve_left (by decide)) ((aF 1 (by decide)).resolve_left (by decide)) zD yX
theorem Bw:Nm 3 (aw 3):=bR ((aF 3 (by decide)).resolve_left (by decide)) ((aF 1 (by decide)).resolve_left (by decide)) AL An
theorem A1:Nm 4 (aw 4):=bR ((aF 4 (by decide)).resolve_left (by decide)) ((aF 1 (by decide)).resolve_left (by decide)) zv zm
theorem Bt:Nm 5 (aw 5):=bR ((aF 5 (by decide)).resolve_left (by decide)) ((aF 1 (by decide)).resolve_left (by decide)) z9 yZ
theorem AV:Nm 6 (aw 6):=bR ((aF 6 (by decide)).resolve_left (by decide)) ((aF 2 (by decide)).resolve_left (by decide)) Ag zO
theorem A8:Nm 7 (aw 7):=bR ((aF 7 (by decide)).resolve_left (by decide)) ((aF 1 (by decide)).resolve_left (by decide)) Ad yS
theorem A4:Nm 8 (aw 8):=bR ((aF 8 (by decide)).resolve_left (by decide)) ((aF 1 (by decide)).resolve_left (by decide)) y9 zq
theorem Bs:Nm 9 (aw 9):=bR ((aF 9 (by decide)).resolve_left (by decide)) ((aF 1 (by decide)).resolve_left (by decide)) yR AB
theorem yG:Nm 10 (aw 10):=bR ((aF 10 (by decide)).resolve_left (by decide)) ((aF 2 (by decide)).resolve_left (by decide)) xu vR
theorem zu:Nm 12 (aw 12):=bR ((aF 12 (by decide)).resolve_left (by decide)) ((aF 3 (by decide)).resolve_left (by decide)) yt wJ
theorem yV:Nm 14 (aw 14):=bR ((aF 14 (by decide)).resolve_left (by decide)) ((aF 2 (by decide)).resolve_left (by decide)) xf ya
theorem zH:Nm 15 (aw 15):=bR ((aF 15 (by decide)).resolve_left (by decide)) ((aF 3 (by decide)).resolve_left (by decide)) xb xG
theorem Aj:Nm 16 (aw 16):=bR ((aF 16 (by decide)).resolve_left (by decide)) ((aF 1 (by decide)).resolve_left (by decide)) wx x4
theorem Ar:Nm 18 (aw 18):=bR ((aF 18 (by decide)).resolve_left (by decide)) ((aF 2 (by decide)).resolve_left (by decide)) xt wY
theorem zc:Nm 20 (aw 20):=bR ((aF 20 (by decide)).resolve_left (by decide)) ((aF 5 (by decide)).resolve_left (by decide)) xK wR
theorem AH:Nm 24 (aw 24):=bR ((aF 24 (by decide)).resolve_left (by decide)) ((aF 3 (by decide)).resolve_left (by decide)) xA xV
theorem zA:Nm 30 (aw 30):=bR ((aF 30 (by decide)).resolve_left (by decide)) ((aF 6 (by decide)).resolve_left (by decide)) yd vL
theorem eO {m:Nat} (h:m∈b3):Nm m (aw m):=by
 unfold b3 at h;simp only [List.mem_cons,List.mem_nil_iff,or_false] at h;rcases h with rfl|rfl|rfl|rfl|rfl|rfl|rfl|rfl|rfl|rfl|rfl|rfl|rfl|rfl|rfl|rfl|rfl|rfl
 ·exact A9
 ·exact Be
 ·exact Bw
 ·exact A1
 ·exact Bt
 ·exact AV
 ·exact A8
 ·exact A4
 ·exact Bs
 ·exact yG
 ·exact zu
 ·exact yV
 ·exact zH
 ·exact Aj
 ·exact Ar
 ·exact zc
 ·exact AH
 ·exact zA
theorem Bk:∀ w,w<31→w=0∨bK 2 (2 * w) w:=by decide +kernel
theorem Bd:∀ w,w<21→w=0∨bK 3 (3 * w) w:=by decide +kernel
theorem Bo:∀ w,w<16→w=0∨bK 4 (4 * w) w:=by decide +kernel
theorem Bf:∀ w,w<13→w=0∨bK 5 (5 * w) w:=by decide +kernel
theorem By:∀ w,w<11→w=0∨bK 6 (6 * w) w:=by decide +kernel
theorem A3:∀ w,w<9→w=0∨bK 7 (7 * w) w:=by decide +kernel
theorem Bv:∀ w,w<8→w=0∨bK 8 (8 * w) w:=by decide +kernel
theorem Bc:∀ w,w<7→w=0∨bK 9 (9 * w) w:=by decide +kernel
theorem zR:∀ w,w<7→w=0∨bK 10 (10 * w) w:=by decide +kernel
theorem AO:∀ w,w<6→w=0∨bK 12 (12 * w) w:=by decide +kernel
theorem zo:∀ w,w<5→w=0∨bK 14 (14 * w) w:=by decide +kernel
theorem z8:∀ w,w<5→w=0∨bK 15 (15 * w) w:=by decide +kernel
theorem yK:∀ w,w<4→w=0∨bK 16 (16 * w) w:=by decide +kernel
theorem yT:∀ w,w<4→w=0∨bK 18 (18 * w) w:=by decide +kernel
theorem yM:∀ w,w<4→w=0∨bK 20 (20 * w) w:=by decide +kernel
theorem zK:∀ w,w<3→w=0∨bK 24 (24 * w) w:=by decide +kernel
theorem Aq:∀ w,w<3→w=0∨bK 30 (30 * w) w:=by decide +kernel
end
section
def Bnd (A:Nat) (l:List Int):Prop:=∀ x∈l,x.natAbs≤2 ^ A
theorem jt {A B:Nat}:∀ (l:List Int) (g:Nat→Int),(∀ x∈l,x.natAbs≤A)→(∀ k,k<l.length→(g k).natAbs≤B)→(pr l g).natAbs≤l.length * (A * B)
 | [],_,_,_=>by simp [pr]
 | x :: l,g,h1,h2=>by
  have a1:(x * g 0).natAbs≤A * B:=by rw [Int.natAbs_mul];exact Nat.mul_le_mul (h1 x List.mem_cons_self) (h2 0 (by simp))
  have a2:=jt l (fun k=>g (k+1)) (fun y hy=>h1 y (List.mem_cons_of_mem _ hy)) fun k hk=>h2 (k+1) (by simpa using hk)
  show (x * g 0+pr l _).natAbs≤(l.length+1) * (A * B);rw [Nat.succ_mul];have:=Int.natAbs_add_le (x * g 0) (pr l fun k=>g (k+1));omega
theorem oR {A d:Nat} {f:Nat→Int} (h:∀ i,i<d→(f i).natAbs≤2 ^ A):Bnd A (aP d f):=fun x hx=>by
 unfold aP at hx;obtain ⟨i,hi,rfl⟩:=List.mem_map.mp hx;exact h i (List.mem_range.mp hi)
theorem le8 {n A B C:Nat} (hn:n≤8) (h:A+B+3≤C):n * (2 ^ A * 2 ^ B)≤2 ^ C:=by
 have h1:n * (2 ^ A * 2 ^ B)≤2 ^ 3 * (2 ^ A * 2 ^ B):=Nat.mul_le_mul_right _ (by omega)
 have h2:2 ^ 3 * (2 ^ A * 2 ^ B)=2 ^ (3+(A+B)):=by rw [← Nat.pow_add,← Nat.pow_add]
 have h3:2 ^ (3+(A+B))≤2 ^ C:=Nat.pow_le_pow_right (by decide) (by omega)
 omega
theorem iW {M J A B:Nat} (hX:∀ k i,i<aa M→(Xw M k i).natAbs≤2 ^ B) {a:List Int} (ha:a.length≤8) (h:Bnd A a):Bnd (A+B+3) (ap M J a) :=
 oR fun i hi=>Nat.le_trans (jt a _ h fun k _=>hX _ i hi) (le8 ha (Nat.le_refl _))
theorem rY {m A B:Nat} (w:Wl m) (hX:∀ k i,i<aa m→(Xw m k i).natAbs≤2 ^ 0) {a b:List Int} (ha:a.length≤8) (hb:b.length≤8) (h1:Bnd A a) (h2:Bnd B b):Bnd (A+B+6) (mu m a b):=by
 rw [w.mu];exact oR fun i hi=>Nat.le_trans (jt a _ h1 fun p _=>Nat.le_trans (jt b _ h2 fun q _=>hX _ i hi) (le8 (C:=B+3) hb (by omega))) (le8 ha (by omega))
theorem n5 {d:Nat}:Bnd 0 (aW d):=fun x hx=>by
 rcases List.mem_cons.mp hx with z|z
 ·rw [z];decide
 ·rw [List.eq_of_mem_replicate z];decide
theorem j2 {m A:Nat} (w:Wl m) (d8:aa m≤8) (hX:∀ k i,i<aa m→(Xw m k i).natAbs≤2 ^ 0) {a:List Int} (ha:a.length≤8) (h:Bnd A a):∀ (js:List Nat) (R:Nat) (r:List Int),r.length=aa m→Bnd R r→Bnd (R+js.length * (A+9)) (nrm m a js r)
 | [],R,r,_,hb=>by rw [List.length_nil,Nat.zero_mul,Nat.add_zero];exact hb
 | j :: js,R,r,hr,hb=>by
  have h1:=rY w hX (by omega) (by rw [cu];exact d8) hb (iW (J:=j) hX ha h)
  have:=j2 w d8 hX ha h js _ _ w.bW h1;rw [List.length_cons,Nat.succ_mul,show R+(js.length * (A+9)+(A+9))=R+(A+0+3)+6+js.length * (A+9) by omega]
  exact this
theorem Bnd.mono {A B:Nat} {l:List Int} (h:Bnd A l) (hab:A≤B):Bnd B l:=fun x hx=>Nat.le_trans (h x hx) (Nat.pow_le_pow_right (by decide) hab)
theorem iz {c:List Int} {d:Nat} (hd:1≤d) (hs:df c=true):∀ k i,i<d→(Xp c d k i).natAbs≤2 ^ (10 * k)
 | 0,i,_=>by show (if i=0 then (1:Int) else 0).natAbs≤1;split <;> decide
 | k+1,i,hi=>by
  have h1:=iz hd hs k (d - 1) (by omega)
  have h2:(if i=0 then (0:Int) else Xp c d k (i - 1)).natAbs≤2 ^ (10 * k):=by
   split
   ·exact Nat.zero_le _
   ·exact iz hd hs k (i - 1) (by omega)
  have h3:(c.getD i 0).natAbs≤1000:=by have:=kX hs i;omega
  show ((if i=0 then (0:Int) else Xp c d k (i - 1)) - Xp c d k (d - 1) * c.getD i 0).natAbs≤_;have h4:=Int.natAbs_sub_le (if i=0 then (0:Int) else Xp c d k (i - 1)) (Xp c d k (d - 1) * c.getD i 0);have h5:(Xp c d k (d - 1) * c.getD i 0).natAbs≤2 ^ (10 * k) * 1000:=by rw [Int.natAbs_mul];exact Nat.mul_le_mul h1 h3
  have h6:2 ^ (10 * (k+1))=2 ^ (10 * k) * 1024:=by rw [Nat.mul_succ,Nat.pow_add]
  omega
theorem Wl.AG {M:Nat} (w:Wl M) (h:M≤60) (k i:Nat) (hi:i<aa M):(Xw M k i).natAbs≤2 ^ 600:=by
 rw [← w.mod (Nat.mod_mod k M) hi];have:=Nat.mod_lt k w.m1;exact Nat.le_trans (iz w.d1 w.W.sm _ i hi) (Nat.pow_le_pow_right (by decide) (by omega))
def w4 (m:Nat):Prop:=∀ k,k<m→∀ i,i<aa m→(Xt (tbX m) m k i).natAbs≤1
instance (m:Nat):Decidable (w4 m):=inferInstanceAs (Decidable (∀ k,_))
theorem gS:∀ m∈b3,w4 m∧aa m≤8∧1≤m∧m≤60∧∀ j∈aw m,m - j % m∈aw m:=by decide +kernel
theorem i4 {m:Nat} (h:m∈b3) (k i:Nat) (hi:i<aa m):(Xw m k i).natAbs≤2 ^ 0:=by
 have w:=(eO h).w;rw [← w.mod (Nat.mod_mod k m) hi,← gh w _ hi];exact (gS m h).1 _ (Nat.mod_lt _ w.m1) i hi
theorem y6 {M:Nat} (h1:1≤M) (h2:M≤60):Wl M:=(aF M (by omega)).resolve_left (by omega)
theorem tH {m w:Nat} (h:m∈b3) (h1:1≤w) (h2:m * w≤60):Hom 0 m (m * w) w:=by
 have a:=(eO h).w;have b:Wl (m * w):=y6 (Nat.mul_pos a.m1 h1) h2;unfold b3 at h;simp only [List.mem_cons,List.mem_nil_iff,or_false] at h;rcases h with rfl|rfl|rfl|rfl|rfl|rfl|rfl|rfl|rfl|rfl|rfl|rfl|rfl|rfl|rfl|rfl|rfl|rfl
 ·have c1:aQ 1=[-1,1]:=by decide +kernel
  refine ⟨a,b,by rw [Nat.mul_comm];exact Nat.mod_self _,fun i hi=>?_⟩
  rw [c1];show (0:Int) ∣ -1 * Xw (1 * w) (w * 0) i+(1 * Xw (1 * w) (w * (0+1)) i+0);rw [b.mod (j:=w * (0+1)) (k:=w * 0) (by rw [Nat.zero_add,Nat.mul_one,Nat.mul_zero,Nat.one_mul,Nat.mod_self,Nat.zero_mod]) hi]
  exact ⟨0,by omega⟩
 ·exact bD a b ((Bk w (by omega)).resolve_left (by omega))
 ·exact bD a b ((Bd w (by omega)).resolve_left (by omega))
 ·exact bD a b ((Bo w (by omega)).resolve_left (by omega))
 ·exact bD a b ((Bf w (by omega)).resolve_left (by omega))
 ·exact bD a b ((By w (by omega)).resolve_left (by omega))
 ·exact bD a b ((A3 w (by omega)).resolve_left (by omega))
 ·exact bD a b ((Bv w (by omega)).resolve_left (by omega))
 ·exact bD a b ((Bc w (by omega)).resolve_left (by omega))
 ·exact bD a b ((zR w (by omega)).resolve_left (by omega))
 ·exact bD a b ((AO w (by omega)).resolve_left (by omega))
 ·exact bD a b ((zo w (by omega)).resolve_left (by omega))
 ·exact bD a b ((z8 w (by omega)).resolve_left (by omega))
 ·exact bD a b ((yK w (by omega)).resolve_left (by omega))
 ·exact bD a b ((yT w (by omega)).resolve_left (by omega))
 ·exact bD a b ((yM w (by omega)).resolve_left (by omega))
 ·exact bD a b ((zK w (by omega)).resolve_left (by omega))
 ·exact bD a b ((Aq w (by omega)).resolve_left (by omega))
theorem vH {m J:Nat} (h:m∈b3) {j:Nat} (hj:j∈aw m) (e:J % m=j % m):Hom 0 m m J:=by
 have D:=eO h;refine ⟨D.w,D.w,Nat.mul_mod_left J m,fun i hi=>?_⟩;have:=(D.hom j hj).good i hi
 rwa [ay (aQ m) (h:=fun k=>Xw m (J * k) i) fun k _=>D.w.mod (by rw [Nat.mul_mod,← e,← Nat.mul_mod]) hi] at this
end
section
variable {P:Program} {w:World} {K:PySem.W.Frag} {mg:Str→Option Value} {base:Heap}
def zsV (l:List Int):List V:=l.map V.int
theorem o9 {H:Hp}:∀ {l:List Int},Paired (Rep.is K H) (zsV l) l
 | []=>.nil
 | x :: l=>.cons rfl o9
theorem aE {H:Hp} {p:Addr} {l:List Int} (h:H p=some (.lst (zsV l))):At K H (.ref p) l:=⟨p,_,rfl,SqL.of h,o9⟩
theorem uC {H:Hp}:∀ {xs:List V} {l:List Int},Paired (Rep.is K H) xs l→xs=zsV l
 | _,_,.nil=>rfl
 | _,_,.cons h t=>by
  have h':=h;rw [uC t];cases (show _=V.int _ from h');rfl
theorem sT {H:Hp} {v:V} {l:List Int} (h:At K H v l):∃ p,v=.ref p∧SqL K H p (zsV l):=by
 obtain ⟨p,xs,rfl,hS,hP⟩:=h;rw [uC hP] at hS;exact ⟨p,rfl,hS⟩
theorem vy {H:Hp} {v:V} {Q:VK} {l:List Int} (h:At K H v l) (q:∀ p,H p=none→Q (.ref p) (upd H p (.lst (zsV l)))):uJ K [v] H Q:=by
 obtain ⟨p,rfl,hS⟩:=sT h;exact ⟨p,_,rfl,.inl hS,q⟩
theorem lW {H:Hp} {v:V} {Q:VK} {l:List Int} {a:Int} {n:Nat} {c:Int} (h:At K H v l) (e:a=(n:Int)) (hn:l[n]?=some c) (q:Q (.int c) H):kl K v (.int a) H Q:=g6 h e hn q
def jf:Sp:=fun vs H Q _=>∃ (m:Nat),vs=[.int (m:Int)]∧1≤m∧m≤60∧Q .non H
theorem jh (T:Txt K mg):aK P w K mg base CX0 1 T.cN.f T.cN.fd ["many"] jf:=by
 refine T.cN.ok jB (fun vs H Q E h=>?_) (fun cdv A outer s H vs Q E hr h=>?_)
 ·obtain ⟨m,rfl,_⟩:=h;rfl
 obtain ⟨m,rfl,m1,m2,q⟩:=h;refine ⟨_,(aq (bQ (PW.pt (mi (a7 uf (pv 0) ak (aV _)) (mY (a7 pJ (pv 0) (vA (v:=.int 60) rfl T.lG ⟨_,rfl⟩) (aV _))))) (aq nh) bj)),?_⟩;walk_at "1";refine cA (fun c=>absurd c (by omega)) (fun _=>?_)
 walk_at "rx";refine cA (fun c=>absurd c (by omega)) (fun _=>?_)
 walk_at "rx";exact q
def pV (K:PySem.W.Frag):Sp:=fun vs H Q _=>∃ (v u:V) (p d:List Int),vs=[v,u]∧At K H v p∧At K H u d∧d≠[]∧df d=true∧p.length≤1000 ∧
 ∀ t a b H',ar H H'→H' t=some (.tup [.ref a,.ref b])→H a=none→H b=none→a≠b→H' a=some (.lst (zsV (cF p d).1))→H' b=some (.lst (zsV (cF p d).2))→Q (.ref t) H'
theorem i5 (T:Txt K mg):aK P w K mg base CX0 1 T.dO.f T.dO.fd ["polynomial","divider"] (pV K):=by
 refine T.dO.ok cj (fun vs H Q E h=>?_) (fun cdv A outer s H vs Q E hr h=>?_)
 ·obtain ⟨v,u,p,d,rfl,_⟩:=h;rfl
 obtain ⟨v,u,p,d,rfl,hv,hu,dn,ds,pl,q⟩:=h;have dp:=List.length_pos_iff.mpr dn;refine ⟨_,(ah (aI (i:=2) cj.nd rfl (Or.inl rfl) (av dv (bb (bB K rfl) rfl T.cT PySem.boot_len (paF (pv 1) ae)) ak))
   (ah (aI (i:=3) cj.nd rfl (Or.inl rfl) (qo (pq K rfl) rfl T.rN PyProof.Rows.boot_list (paF (pv 0) ae)))
   (ah (aI (i:=4) cj.nd rfl (Or.inl rfl) (cE ae))
   (ah (nK PassesOwn.never (a7 pJ (bb (bB K rfl) rfl T.cT PySem.boot_len (paF (pv 3) ae)) (pv 2) (aV _)) (ah (aI (i:=5) cj.nd rfl (Or.inl rfl) (vw K rfl PySem.F.plainAttrs_list PySem.F.slot_list_pop PySem.F.type_list_pop yz (pv 3)))
   (ah (oJ (wb K rfl PySem.F.plainAttrs_list PySem.F.slot_list_append PySem.F.type_list_append kW (pv 4) (paF (pv 5) ae)))
   (ah (aI (i:=6) cj.nd rfl (Or.inl rfl) (av dv (bb (bB K rfl) rfl T.cT PySem.boot_len (paF (pv 3) ae)) (pv 2)))
   (aq (dW PassesOwn.never rfl (fY rfl T.eF (paF (pv 2) ae)) (bf (i:=7) cj.nd rfl (Or.inl rfl)) (aq (jJ (av dv (cz (bY K rfl) (pv 3) (av bH (pv 6) (pv 7)) (fun _ _=>rfl)) (av dR (pv 5) (cz (bY K rfl) (pv 1) (pv 7) (fun _ _=>rfl)))) (nr (pv 3) (av bH (pv 6) (pv 7)) set_list)))))))))
   (aq (aJ (qP (paF (qf K rfl rfl rfl T.rN rfl T.pO (paF (pv 4) ae)) (paF (pv 3) ae))))))))),?_⟩
 walk_at "rx";refine vy hv fun a fa=>?_;walk_at "2";refine ⟨small (by show 0≤1000;decide),fun b hb=>?_⟩
 have ab:a≠b:=fun z=>by rw [← z,ai] at hb;cases hb
 have fb:H b=none:=by rw [ag ab.symm] at hb;exact hb
 have e1:((d.length:Int) - ((1:Nat):Int))=((d.length - 1:Nat):Int):=by omega
 rw [e1];walk_at "rx";refine mq (fun m σ' H'=>ar H H'∧∃ (L tk:List Int) (x y z:Option V),m=L.length∧H' a=some (.lst (zsV L))∧H' b=some (.lst (zsV tk))∧dN d (L.length+1 - d.length) L tk=cF p d∧L.length+tk.length≤p.length ∧
   σ'=[some v,some u,some (.int ((d.length - 1:Nat):Int)),some (.ref a),some (.ref b),x,y,z]) p.length
  ⟨fun c o z=>by rw [ag (ao z fb),ag (ao z fa)];exact z,p,[],none,none,none,rfl,by rw [ag ab];exact ai,ai,rfl,by simp,rfl⟩ ?_
 rintro m σ' H2 ⟨s2,L,tk,x,y,z,rfl,ha,hb2,hgo,hle,rfl⟩;have aL:At K H2 (.ref a) L:=aE ha;walk_at "rx";refine cA (fun c=>?_) (fun c=>?_)
 ·have hl:d.length≤L.length:=by omega
  have ln:L≠[]:=fun z=>by rw [z] at hl;simp at hl;exact dn hl
  refine ⟨fun σ3 H3=>ar H H3∧∃ (x y z:Option V),H3 a=some (.lst (zsV (bE d L)))∧H3 b=some (.lst (zsV (tk++[L.getLastD 0])))∧σ3=[some v,some u,some (.int ((d.length - 1:Nat):Int)),some (.ref a),some (.ref b),x,y,z],fun σ3 H3 zz=>?_,?_⟩
  ·obtain ⟨z1,x3,y3,z3,z4,z5,z6⟩:=zz;have e:=fm dn hl;refine ⟨L.length - 1,by omega,z1,bE d L,_,x3,y3,z3,e.symm,z4,z5,?_,?_,z6⟩
   ·rw [← hgo,e,show L.length+1 - d.length=(L.length - 1+1 - d.length)+1 by omega]
    rfl
   ·rw [e,List.length_append];show L.length - 1+(tk.length+1)≤_;omega
  have lp:0<L.length:=List.length_pos_iff.mpr ln;walk_at "rx";refine ⟨.inl ⟨rfl,_,SqL.of ha⟩,?_⟩;refine ⟨a,zsV L,.int (L.getLastD 0),rfl,rfl,ha,?_,?_⟩
  ·unfold zsV;rw [List.length_map,List.getElem?_map,List.getLastD_eq_getLast?,List.getLast?_eq_getElem?];rw [List.getElem?_eq_getElem (by omega)]
   rfl
  have ed:(zsV L).dropLast=zsV L.dropLast:=by unfold zsV;rw [List.map_dropLast]
  rw [ed];walk_at "rx";have hb3:(upd H2 a (.lst (zsV L.dropLast))) b=some (.lst (zsV tk)):=by rw [ag ab.symm];exact hb2
  refine ⟨.inl ⟨rfl,_,SqL.of hb3⟩,?_⟩;walk_at "rx";refine ⟨b,zsV tk,_,rfl,rfl,hb3,Nat.lt_of_le_of_lt (show (zsV tk).length≤1000 by unfold zsV;rw [List.length_map];omega) (by rw [sizeLine_eq];decide),?_⟩
  have ha4:(upd (upd H2 a (.lst (zsV L.dropLast))) b (.lst (zsV tk++[.int (L.getLastD 0)]))) a=some (.lst (zsV L.dropLast)):=by rw [ag ab];exact ai
  have hb4:(upd (upd H2 a (.lst (zsV L.dropLast))) b (.lst (zsV tk++[.int (L.getLastD 0)]))) b=some (.lst (zsV (tk++[L.getLastD 0]))):=by
   rw [ai];unfold zsV;rw [List.map_append];rfl
  have s4:ar H (upd (upd H2 a (.lst (zsV L.dropLast))) b (.lst (zsV tk++[.int (L.getLastD 0)]))):=fun c o z=>by
   rw [ag (ao z fb),ag (ao z fa)];exact s2 _ _ z
  generalize upd (upd H2 a (.lst (zsV L.dropLast))) b (.lst (zsV tk++[.int (L.getLastD 0)]))=H4 at ha4 hb4 s4;have aL4:At K H4 (.ref a) L.dropLast:=aE ha4;walk_at "rx";have e2:((L.dropLast.length:Int) - ((d.length - 1:Nat):Int))=((L.length - d.length:Nat):Int):=by rw [List.length_dropLast];omega
  rw [e2];walk_at "rx";refine tq (n:=d.length - 1) rfl (by omega) (fun j σ3 H3=>ar H H3∧∃ x,H3 a=some (.lst (zsV (cZ (L.getLastD 0) d (L.length - d.length) j L.dropLast)))∧H3 b=some (.lst (zsV (tk++[L.getLastD 0])))∧σ3=[some v,some u,some (.int ((d.length - 1:Nat):Int)),some (.ref a),some (.ref b),some (.int (L.getLastD 0)),some (.int ((L.length - d.length:Nat):Int)),x])
   ⟨s4,_,by rw [qc];exact ha4,hb4,rfl⟩ ?_ ?_
  ·rintro j σ3 H5 hj ⟨s5,x5,ha5,hb5,rfl⟩;have aL5:=aE (K:=K) ha5;have aD5:=Rep.mono s5 hu;have hjl:L.length - d.length+j<L.dropLast.length:=by rw [List.length_dropLast];omega
   have hdj:d[j]?=some (d.getD j 0):=by simp [List.getD,List.getElem?_eq_getElem (show j<d.length by omega)]
   have sm:=kX ds j;walk_at "rx";refine lW aL5 rfl (sA hjl) ?_;walk_at "rx";refine lW aD5 rfl hdj ?_;refine iD (.inr ⟨by omega,by omega⟩) ?_
   walk_at "rx";refine mF ha5 rfl (by unfold zsV;rw [List.length_map,ll];exact hjl) ?_
   have ha6:(upd H5 a (.lst ((zsV (cZ (L.getLastD 0) d (L.length - d.length) j L.dropLast)).set (L.length - d.length+j) (.int (L.dropLast.getD (L.length - d.length+j) 0 - L.getLastD 0 * d.getD j 0))))) a=some (.lst (zsV (cZ (L.getLastD 0) d (L.length - d.length) (j+1) L.dropLast))):=by
    rw [ai,← qD hjl];unfold zsV;rw [List.map_set]
   exact ⟨fun c o z=>by rw [ag (ao z fa)];exact s5 _ _ z,_,ha6,by rw [ag ab.symm];exact hb5,rfl⟩
  ·rintro σ3 H5 ⟨s5,x5,ha5,hb5,rfl⟩;rw [pB dn hl] at ha5;exact ⟨s5,_,_,_,ha5,hb5,rfl⟩
 ·have e0:L.length+1 - d.length=0:=by omega
  rw [e0] at hgo;have g1:tk.reverse=(cF p d).1:=congrArg Prod.fst hgo;have g2:L=(cF p d).2:=congrArg Prod.snd hgo;walk_at "rx";refine md ?_;walk_at "rx";refine rP ?_;walk_at "rx";refine ⟨b,_,rfl,SqL.of hb2,fun c hc=>?_⟩;have er:(zsV tk).reverse=zsV (cF p d).1:=by rw [← g1];unfold zsV;rw [List.map_reverse]
  rw [er];walk_at "rx";refine ⟨small (by show 2≤1000;decide),fun t ht=>?_⟩
  have ca:c≠a:=fun z=>by rw [z,ha] at hc;cases hc
  have tc:c≠t:=fun z=>by rw [← z,ai] at ht;cases ht
  have ta:a≠t:=fun z=>by rw [← z,ag ca.symm,ha] at ht;cases ht
  refine q t c a _ (fun c' o z=>?_) ai (s2.free hc) fa ca ?_ ?_
  ·have h1:c'≠c:=ao (s2 _ _ z) hc;have h2:c'≠t:=fun e=>by rw [← e,ag h1,s2 _ _ z] at ht;cases ht
   rw [ag h2,ag h1];exact s2 _ _ z
  ·rw [ag tc];exact ai
  ·rw [ag ta,ag ca.symm,← g2];exact ha
structure CF (H:Hp) (f:Addr) (fs:List (Nat×List Int)) (ps:List Addr):Prop where
 top:H f=some (.dK (b9 (fs.map (·.1)) ps))
 len:ps.length=fs.length
 nd:(fs.map (·.1)).Nodup
 row:∀ (i:Nat) (p:Addr) (x:Nat×List Int),ps[i]?=some p→fs[i]?=some x→H p=some (.lst (zsV x.2))
theorem sG {F:List Nat} {ps:List Addr} {i:Nat} {x:Key×V} (h:(b9 F ps)[i]?=some x):∃ k p,F[i]?=some k∧ps[i]?=some p∧x=(nk k,.ref p):=by
 unfold b9 at h;rw [List.getElem?_map] at h;obtain ⟨y,hy,rfl⟩:=Option.map_eq_some_iff.mp h;obtain ⟨h1,h2⟩:=List.getElem?_zip_eq_some.mp hy;exact ⟨y.1,y.2,h1,h2,rfl⟩
def kg (K:PySem.W.Frag):Sp:=fun vs H Q _=>∃ (f:Addr) (m:Nat) (fs:List (Nat×List Int)) (ps:List Addr),vs=[.int (m:Int),.ref f]∧CF H f fs ps∧1≤m∧m≤60∧(∀ x∈fs,x.2≠[]∧df x.2=true∧1≤x.1) ∧
 ∀ a H',H a=none→ar H H'→H' a=some (.lst (zsV (l6 m fs)))→Q (.ref a) H'
theorem hU (k:Nat) (a:Int):(List.replicate k [V.int a]).flatten=zsV (List.replicate k a):=by
 unfold zsV
 induction k with
 | zero=>rfl
 | succ k ih=>rw [List.replicate_succ,List.flatten_cons,ih,List.replicate_succ];rfl
theorem jR (T:Txt K mg):aK P w K mg base CX0 2 T.cV.f T.cV.fd ["many","found"] (kg K):=by
 refine T.cV.ok cM (fun vs H Q E h=>?_) (fun cdv A outer s H vs Q E hr h=>?_)
 ·obtain ⟨f,m,fs,ps,rfl,_⟩:=h;rfl
 obtain ⟨f,m,fs,ps,rfl,cf,m1,m2,hx,q⟩:=h;refine ⟨_,(ah (aI (i:=2) cM.nd rfl (Or.inl rfl) (av mx (av mx (cE (paF (uG qz ak) ae)) (av fM (cE (paF ak ae)) (av dv (pv 0) ak))) (cE (paF ak ae))))
   (ah (vC P w 1 rfl rfl (dW PassesOwn.never rfl (vG P w rfl rfl (pv 1)) (bf (i:=3) cM.nd rfl (Or.inl rfl)) (aq (bQ (a7 dz (av bM (pv 0) (pv 3)) ak (aV _)) (aq (aI (i:=2) cM.nd rfl (Or.inl rfl) (cz (ig K rfl) (bo T.dO (i5 T) (hr.mono (by decide)) rfl (paF (pv 2) (paF (sY P w rfl rfl (pv 1) (pv 3) (fun _ _=>rfl)) ae))) ak (fun _ _=>rfl)))) bj))))
   (aq (uO P w 1 rfl rfl (aJ (pv 2)))))),?_⟩
 walk_at "2";refine ⟨small (by show 1≤1000;decide),fun p1 hp1=>?_⟩
 walk_at "2";refine ⟨small (by show 1≤1000;decide),fun p2 hp2=>?_⟩
 walk_at "rx";refine ⟨p2,_,_,rfl,rfl,ai,by omega,by omega,?_,fun p3 hp3=>?_⟩
 ·rw [sizeLine_eq];show 1 * _≤_;omega
 rw [show ((m:Int) - ((1:Nat):Int)).toNat=m - 1 by omega,hU]
 have n21:p2≠p1:=fun z=>by rw [z,ai] at hp2;cases hp2
 have n31:p3≠p1:=fun z=>by rw [z,ag n21.symm,ai] at hp3;cases hp3
 have h3:(upd (upd (upd H p1 (.lst [.int (-((1:Nat):Int))])) p2 (.lst [.int ((0:Nat):Int)])) p3 (.lst (zsV (List.replicate (m - 1) ((0:Nat):Int))))) p1=some (.lst (zsV [-1])):=by
  rw [ag n31.symm,ag n21.symm,ai];rfl
 have h33:(upd (upd (upd H p1 (.lst [.int (-((1:Nat):Int))])) p2 (.lst [.int ((0:Nat):Int)])) p3 (.lst (zsV (List.replicate (m - 1) ((0:Nat):Int))))) p3=some (.lst (zsV (List.replicate (m - 1) 0))):=ai;have s3:ar H (upd (upd (upd H p1 (.lst [.int (-((1:Nat):Int))])) p2 (.lst [.int ((0:Nat):Int)])) p3 (.lst (zsV (List.replicate (m - 1) ((0:Nat):Int))))):=(aD hp1 _).trans ((aD hp2 _).trans (aD hp3 _));generalize upd (upd (upd H p1 (.lst [.int (-((1:Nat):Int))])) p2 (.lst [.int ((0:Nat):Int)])) p3 (.lst (zsV (List.replicate (m - 1) ((0:Nat):Int))))=H3 at h3 h33 s3;refine ⟨p1,p3,_,_,rfl,rfl,h3,h33,?_,fun p4 hp4=>?_⟩
 ·unfold zsV;rw [sizeLine_eq];simp;omega
 have h4:(upd H3 p4 (.lst (zsV [-1]++zsV (List.replicate (m - 1) 0)))) p4=some (.lst (zsV ([-1]++List.replicate (m - 1) 0))):=by rw [ai];unfold zsV;rw [List.map_append]
 have s4:=s3.trans (aD hp4 (.lst (zsV [-1]++zsV (List.replicate (m - 1) 0))));generalize upd H3 p4 (.lst (zsV [-1]++zsV (List.replicate (m - 1) 0)))=H4 at h4 s4;walk_at "2";refine ⟨small (by show 1≤1000;decide),fun p5 hp5=>?_⟩
 have n54:p4≠p5:=fun z=>by rw [← z,h4] at hp5;cases hp5
 refine ⟨p4,p5,_,_,rfl,rfl,by rw [ag n54];exact h4,ai,?_,fun a ha=>?_⟩
 ·unfold zsV;rw [sizeLine_eq];simp;omega
 have h6:(upd (upd H4 p5 (.lst [.int ((1:Nat):Int)])) a (.lst (zsV ([-1]++List.replicate (m - 1) 0)++[.int ((1:Nat):Int)]))) a=some (.lst (zsV ([-1]++List.replicate (m - 1) 0++[1]))):=by
  have e:zsV ([-1]++List.replicate (m - 1) 0++[1])=zsV ([-1]++List.replicate (m - 1) 0)++[.int ((1:Nat):Int)]:=List.map_append;rw [ai,e]
 have s6:=s4.trans ((aD hp5 (.lst [.int ((1:Nat):Int)])).trans (aD ha (.lst (zsV ([-1]++List.replicate (m - 1) 0)++[.int ((1:Nat):Int)]))));have fa:H a=none:=(s4.trans (aD hp5 (.lst [.int ((1:Nat):Int)]))).free ha;generalize upd (upd H4 p5 (.lst [.int ((1:Nat):Int)])) a (.lst (zsV ([-1]++List.replicate (m - 1) 0)++[.int ((1:Nat):Int)]))=H6 at h6 s6;walk_at "rx";have fa':a≠f:=fun z=>by rw [z,cf.top] at fa;cases fa
 refine ⟨f,_,rfl,s6 _ _ cf.top,fun ep=>?_⟩;have hf7:(upd H6 f (DE P w f (b9 (fs.map (·.1)) ps) ep)) f=some (DE P w f (b9 (fs.map (·.1)) ps) ep):=ai;have k7:∀ c o,c≠f→H c=some o→(upd H6 f (DE P w f (b9 (fs.map (·.1)) ps) ep)) c=some o:=fun c o hc z=>by rw [ag hc];exact s6 _ _ z
 have h7:(upd H6 f (DE P w f (b9 (fs.map (·.1)) ps) ep)) a=some (.lst (zsV ([-1]++List.replicate (m - 1) 0++[1]))):=by rw [ag fa'];exact h6
 generalize upd H6 f (DE P w f (b9 (fs.map (·.1)) ps) ep)=H7 at hf7 k7 h7;walk_at "rx";refine vJ ?_;walk_at "rx";have zl:(b9 (fs.map (·.1)) ps).length=fs.length:=by unfold b9;rw [List.length_map,List.length_zip,List.length_map,cf.len];omega
 refine vB hf7 (fun i σ' H'=>H' f=some (DE P w f (b9 (fs.map (·.1)) ps) ep)∧(∀ c o,c≠f→H c=some o→H' c=some o)∧∃ (a:Addr) (x:Option V),H a=none∧H' a=some (.lst (zsV (fS m (fs.take i) ([-1]++List.replicate (m - 1) 0++[1]))))∧(fS m (fs.take i) ([-1]++List.replicate (m - 1) 0++[1])).length≤100∧σ'=[some (.int (m:Int)),some (.ref f),some (.ref a),x])
  ⟨hf7,k7,a,_,fa,h7,by simp [fS];omega,rfl⟩ (fun i σ' H' z=>z.1) ?_ ?_
 ·rintro i x σ' H8 hxi ⟨hf8,k8,a8,y8,fa8,ha8,hl8,rfl⟩;obtain ⟨k,p,hk,hp,rfl⟩:=sG hxi;rw [List.getElem?_map] at hk;obtain ⟨fx,hfx,rfl⟩:=Option.map_eq_some_iff.mp hk;obtain ⟨c1,c2,c3⟩:=hx fx (List.mem_of_getElem? hfx);have hrow:=cf.row i p fx hp hfx;have pf:p≠f:=fun z=>by rw [z,cf.top] at hrow;cases hrow
  have hp8:=k8 p _ pf hrow;have et:fs.take (i+1)=fs.take i++[fx]:=by rw [List.take_add_one,hfx];rfl
  show cg 3 (.int (fx.1:Int)) _ _ _;walk_at "1";have hst:=o4 m (fs.take i) fx ([-1]++List.replicate (m - 1) 0++[1]);refine cA (fun c=>?_) (fun c=>?_)
  ·rw [if_pos c] at hst;walk_at "rx";refine r6 ?_;walk_at "rx";refine u7 hf8 (iP cf.nd (by rw [List.getElem?_map,hfx];rfl) hp) ?_
   walk_at "rx";refine ⟨_,_,_,_,rfl,aE ha8,aE hp8,c1,c2,by omega,fun t qa qb H9 s9 ht fqa fqb _ hqa _=>?_⟩
   walk_at "rx";refine lS ht (i:=0) rfl ?_;walk_at "rx";have fqa':H qa=none:=by
    cases z:H qa with
    | none=>rfl
    | some o =>
     by_cases e:qa=f
     ·rw [e,hf8] at fqa;cases fqa
     ·rw [k8 qa o e z] at fqa;cases fqa
   refine ⟨s9 _ _ hf8,fun c o hc z=>s9 _ _ (k8 c o hc z),qa,_,fqa',by rw [et,hst];exact hqa,by rw [et,hst];exact Nat.le_trans (sv c1) hl8,rfl⟩
  ·rw [if_neg c] at hst;walk_at "rx";exact ⟨hf8,k8,a8,_,fa8,by rw [et,hst];exact ha8,by rw [et,hst];exact hl8,rfl⟩
 ·rintro σ' H8 ⟨hf8,k8,a8,y8,fa8,ha8,hl8,rfl⟩;rw [zl,List.take_length] at ha8;walk_at "rx";have n8:a8≠f:=fun z=>by rw [z,cf.top] at fa8;cases fa8
  refine ⟨f,_,ep,rfl,hf8,?_⟩;walk_at "rx";refine q a8 _ fa8 (fun c o z=>?_) (by rw [ag n8];exact ha8)
  by_cases e:c=f
  ·rw [e] at z ⊢;rw [ai,← z,cf.top]
  ·rw [ag e];exact k8 c o e z
theorem eZ {m:Nat}:∀ {k:Nat} {x:Nat×List Int},x∈aZ m k→1≤x.1∧x.1≤k
 | 0,x,h=>by simp [aZ] at h
 | k+1,x,h=>by
  unfold aZ at h
  split at h
  ·rcases List.mem_append.mp h with z|z
   ·have:=eZ z;omega
   ·rw [List.mem_singleton.mp z];exact ⟨by omega,Nat.le_refl _⟩
  ·have:=eZ h;omega
theorem kR {m:Nat}:∀ {k j:Nat} {x:Nat×List Int},k≤j→x∈aZ m k→x∈aZ m j
 | k,0,x,h,z=>by
  have:k=0:=by omega
  rw [this] at z;exact z
 | k,j+1,x,h,z=>by
  rcases Nat.lt_or_ge k (j+1) with y|y
  ·have:=kR (show k≤j by omega) z
   unfold aZ
   split
   ·exact List.mem_append_left _ this
   ·exact this
  ·have:k=j+1:=by omega
   rw [← this];exact z
def qB (K:PySem.W.Frag):Sp:=fun vs H Q _=>∃ (m:Nat),vs=[.int (m:Int)]∧1≤m∧m≤60∧c8 m=true∧∀ a H',H a=none→ar H H'→H' a=some (.lst (zsV (aQ m)))→Q (.ref a) H'
theorem nM {m:Nat} (h:c8 m=true):∀ x∈aZ m m,x.2≠[]∧df x.2=true:=fun x hx=>by
 unfold c8 at h;simp only [Bool.and_eq_true] at h;have:=h.1.1.2;rw [List.all_eq_true] at this;have z:=this x hx;simp only [Bool.and_eq_true,decide_eq_true_eq] at z;refine ⟨fun e=>?_,z.1⟩;rw [e] at z;exact absurd z.2 (by decide)
theorem qt (T:Txt K mg):aK P w K mg base CX0 3 T.fU.f T.fU.fd ["many"] (qB K):=by
 refine T.fU.ok gW (fun vs H Q E h=>?_) (fun cdv A outer s H vs Q E hr h=>?_)
 ·obtain ⟨m,rfl,_⟩:=h;rfl
 obtain ⟨m,rfl,m1,m2,ok,q⟩:=h;refine ⟨_,(ah (oJ (bo T.cN (jh T) (hr.mono (by decide)) rfl (paF (pv 0) ae)))
   (ah (aI (i:=1) gW.nd rfl (Or.inl rfl) sU)
   (ah (dW PassesOwn.never rfl (gd rfl T.eF (paF ak (paF (av bH (pv 0) ak) ae))) (bf (i:=2) gW.nd rfl (Or.inl rfl)) (aq (bQ (a7 dz (av bM (pv 0) (pv 2)) ak (aV _)) (aq (vj (um hr) (pv 1) (pv 2) (bo T.cV (jR T) (hr.mono (by decide)) rfl (paF (pv 2) (paF (pv 1) ae))) rfl)) bj)))
   (aq (aJ (uW (um hr) (pv 1) (pv 0) (fun _ _=>rfl))))))),?_⟩
 walk_at "rx";refine ⟨m,rfl,m1,m2,?_⟩;walk_at "rx";refine vK fun f hf=>?_;walk_at "rx";refine jQ ?_;walk_at "rx";have f0:CF (upd H f (.dK [])) f [] []:=⟨ai,rfl,by simp,fun i p x e=>by simp at e⟩
 refine kY (lo:=1) (n:=m) rfl (by omega) (by omega) (fun i σ' H'=>ar H H'∧∃ (ps:List Addr) (x:Option V),CF H' f (aZ m i) ps∧(∀ p∈ps,H p=none)∧σ'=[some (.int (m:Int)),some (.ref f),x]) ⟨aD hf _,[],_,f0,by simp,rfl⟩ ?_ ?_
 ·rintro i σ' H2 hi ⟨s2,ps,x,cf,fps,rfl⟩;walk_at "1";have e1:1+i=i+1:=by omega
  rw [e1];have cl:(aZ m i).length≤i:=by
   have:∀ k,(aZ m k).length≤k:=fun k=>by
    induction k with
    | zero=>exact Nat.le_refl _
    | succ k ih =>
     unfold aZ
     split
     ·rw [List.length_append];show _+1≤_;omega
     ·omega
   exact this i
  refine cA (fun c=>?_) (fun c=>?_)
  ·have ec:aZ m (i+1)=aZ m i++[(i+1,l6 (i+1) (aZ m i))]:=by
    show (if m % (i+1)=0 then _ else _)=_;rw [if_pos c]
   walk_at "rx";refine uR ?_;walk_at "rx";refine ⟨f,i+1,aZ m i,ps,rfl,cf,by omega,by omega,fun x hx=>?_,fun a H3 fa s3 ha=>?_⟩
   ·have h1:=nM ok x (kR (by omega) hx)
    exact ⟨h1.1,h1.2,(eZ hx).1⟩
   walk_at "rx";have kn:i+1∉(aZ m i).map (·.1):=fun z=>by
    obtain ⟨x,hx,e⟩:=List.mem_map.mp z;have:=eZ hx;omega
   refine v5 (s3 _ _ cf.top) (Nat.le_trans tW (by rw [List.length_map];omega)) ?_
   rw [rj (by rw [List.length_map,cf.len]) kn]
   have af:a≠f:=fun z=>by rw [z,cf.top] at fa;cases fa
   refine ⟨fun c o z=>?_,ps++[a],_,⟨?_,?_,?_,fun j p x e1 e2=>?_⟩,fun p hp=>?_,rfl⟩
   ·rw [ag (ao z hf)];exact s3 _ _ (s2 _ _ z)
   ·rw [ai,ec,List.map_append];rfl
   ·rw [ec,List.length_append,List.length_append,cf.len];rfl
   ·rw [ec,List.map_append];exact n6 cf.nd kn
   ·rw [ec] at e2;have hl:=cf.len;rcases Nat.lt_or_ge j ps.length with z|z
    ·rw [List.getElem?_append_left z] at e1;rw [List.getElem?_append_left (by omega)] at e2
     have r:=cf.row j p x e1 e2;have pf:p≠f:=fun c=>by rw [c,cf.top] at r;cases r
     rw [ag pf];exact s3 _ _ r
    ·rw [List.getElem?_append_right z] at e1;rw [List.getElem?_append_right (by omega)] at e2
     have j0:j - ps.length=0:=by
      rcases Nat.eq_zero_or_pos (j - ps.length) with c|c
      ·exact c
      ·rw [List.getElem?_eq_none (by simp;omega)] at e1;cases e1
     rw [j0] at e1;rw [show j - (aZ m i).length=0 by omega] at e2
     cases e1;cases e2;rw [ag af];exact ha
   ·rcases List.mem_append.mp hp with z|z
    ·exact fps p z
    ·rw [List.mem_singleton.mp z];exact s2.free fa
  ·have ec:aZ m (i+1)=aZ m i:=by
    show (if m % (i+1)=0 then _ else _)=_;rw [if_neg c]
   walk_at "rx";exact ⟨s2,ps,_,by rw [ec];exact cf,fps,rfl⟩
 ·rintro σ' H2 ⟨s2,ps,x,cf,fps,rfl⟩;have ec:aZ m m=aZ m (m - 1)++[(m,aQ m)]:=by
   obtain ⟨k,rfl⟩:∃ k,m=k+1:=⟨m - 1,by omega⟩
   show (if (k+1) % (k+1)=0 then _ else _)=_;rw [if_pos (Nat.mod_self _)];rfl
  have hl:(aZ m m)[(aZ m (m - 1)).length]?=some (m,aQ m):=by rw [ec,List.getElem?_append_right (Nat.le_refl _)];simp
  have hlt:(aZ m (m - 1)).length<ps.length:=by rw [cf.len,ec,List.length_append];exact Nat.lt_succ_self _
  walk_at "rx";refine vz ?_;walk_at "rx";refine yn cf.top (iP cf.nd (j:=(aZ m (m - 1)).length) (by rw [List.getElem?_map,hl];rfl) (List.getElem?_eq_getElem hlt)) ?_
  exact q _ _ (fps _ (List.getElem_mem hlt)) s2 (cf.row _ _ _ (List.getElem?_eq_getElem hlt) hl)
def wfs (r:V) (m z:Int):List (Str×V):=[("rim",r),("spokes",.int m),("size",.int z)]
def dt (C:Addr) (H:Hp) (g:Addr) (m:Nat):Prop:=∃ dx r,H g=some (.ins C dx (wfs (.ref r) m ((aQ m).length - 1:Nat)))∧H r=some (.lst (zsV (aQ m)))
theorem dt.mono {C:Addr} {H H':Hp} {g m:Nat} (s:ar H H') (h:dt C H g m):dt C H' g m:=by
 obtain ⟨dx,r,h1,h2⟩:=h;exact ⟨dx,r,s _ _ h1,s _ _ h2⟩
def tp (C:Addr):Sp:=fun vs H Q _=>∃ (p dx:Addr) (m:Nat),vs=[.ref p,.int (m:Int)]∧H p=some (.ins C dx [])∧1≤m∧m≤60∧c8 m=true ∧
 ∀ r H',H r=none→H' p=some (.ins C dx (wfs (.ref r) m ((aQ m).length - 1:Nat)))→H' r=some (.lst (zsV (aQ m)))→(∀ a o,H a=some o→a≠p→H' a=some o)→Q .non H'
theorem iV (T:Txt K mg):aK P w K mg base CX0 4 T.j3 T.kE ["self","many"] (tp T.aC):=by
 refine T.vh.ok lH (fun vs H Q E h=>?_) (fun cdv A outer s H vs Q E hr h=>?_)
 ·obtain ⟨p,dx,m,rfl,_⟩:=h;rfl
 obtain ⟨p,dx,m,rfl,hp,m1,m2,ok,q⟩:=h;have W:=gc ok;refine ⟨_,(ah (jX K rfl (pv 0) (bo T.fU (qt T) (hr.mono (by decide)) rfl (paF (pv 1) ae)) rfl)
   (ah (jX K rfl (pv 0) (pv 1) rfl)
   (aq (jX K rfl (pv 0) (av dv (bb (bB K rfl) rfl T.cT PySem.boot_len (paF (cw K rfl (pv 0) rfl) ae)) ak) rfl)))),?_⟩
 walk_at "rx";refine ⟨m,rfl,m1,m2,ok,fun r H1 fr s1 hr1=>?_⟩;have rp:r≠p:=fun z=>by rw [z,hp] at fr;cases fr
 walk_at "rx";refine ⟨p,T.aC,dx,_,rfl,s1 _ _ hp,T.au,T.fj,(by show 0<1000;decide),?_⟩
 walk_at "rx";refine ⟨p,T.aC,dx,_,rfl,ai,T.au,T.bt,(by show 1<1000;decide),?_⟩
 walk_at "rx";refine ⟨p,T.aC,dx,_,_,rfl,ai,T.au,T.fj,rfl,?_⟩;walk_at "rx";refine uB (l:=aQ m) (aE (by rw [ag rp,ag rp];exact hr1)) ?_
 walk_at "rx";refine ⟨p,T.aC,dx,_,rfl,ai,T.au,T.gL,(by show 2<1000;decide),?_⟩
 have e:(((aQ m).length:Int) - ((1:Nat):Int))=(((aQ m).length - 1:Nat):Int):=by rw [W.len];omega
 rw [e];refine q r _ fr ai ?_ fun a o ha hne=>?_
 ·rw [ag rp,ag rp,ag rp];exact hr1
 ·rw [ag hne,ag hne,ag hne];exact s1 _ _ ha
def lJ (C:Addr) (K:PySem.W.Frag):Sp:=fun vs H Q _=>∃ (g:Addr) (v:V) (sp st:Int) (m:Nat) (l:List Int),vs=[.ref g,v,.int sp,.int st]∧dt C H g m∧1≤m∧m≤60∧cP m∧At K H v l∧l.length≤1000 ∧
 ∀ b H',H b=none→ar H H'→H' b=some (.lst (zsV (cF (aX m sp st l) (aQ m)).2))→Q (.ref b) H'
theorem cU (T:Txt K mg):aK P w K mg base CX0 2 T.eM T.eS ["self","counts","step","start"] (lJ T.aC K):=by
 refine T.ng.ok ck (fun vs H Q E h=>?_) (fun cdv A outer s H vs Q E hr h=>?_)
 ·obtain ⟨g,v,sp,st,m,l,rfl,_⟩:=h;rfl
 obtain ⟨g,v,sp,st,m,l,rfl,hW,m1,m2,W,hv,hl,q⟩:=h;obtain ⟨dx,r,hg,hr'⟩:=id hW;refine ⟨_,(ah (aI (i:=4) ck.nd rfl (Or.inl rfl) (av fM (cE (paF ak ae)) (cw K rfl (pv 0) rfl)))
   (ah (dW PassesOwn.never rfl (iU K rfl rfl T.fi (paF (pv 1) ae)) (gU rfl (b2 (bf (i:=5) ck.nd rfl (Or.inl rfl)) (b2 (bf (i:=6) ck.nd rfl (Or.inl rfl)) fB))) (ah (aI (i:=7) ck.nd rfl (Or.inl rfl) (av bM (av bH (pv 3) (av dR (pv 2) (pv 5))) (cw K rfl (pv 0) rfl)))
   (aq (jJ (av bH (cz (bY K rfl) (pv 4) (pv 7) (fun _ _=>rfl)) (pv 6)) (nr (pv 4) (pv 7) set_list)))))
   (aq (aJ (cz (ig K rfl) (bo T.dO (i5 T) (hr.mono (by decide)) rfl (paF (pv 4) (paF (cw K rfl (pv 0) rfl) ae))) ak (fun _ _=>rfl)))))),?_⟩
 walk_at "2";refine ⟨small (by show 1≤1000;decide),fun p1 hp1=>?_⟩
 have s1:=aD hp1 (.lst [.int ((0:Nat):Int)]);walk_at "rx";refine ⟨g,T.aC,dx,_,_,rfl,s1 _ _ hg,T.au,T.bt,rfl,?_⟩;refine ⟨p1,_,_,rfl,rfl,ai,by omega,by omega,?_,fun a ha=>?_⟩
 ·rw [sizeLine_eq];show 1 * _≤_;omega
 rw [show ((m:Nat):Int).toNat=m by omega,hU]
 have fa:H a=none:=s1.free ha;have s2:=s1.trans (aD ha (.lst (zsV (List.replicate m ((0:Nat):Int)))));have h2:(upd (upd H p1 (.lst [.int ((0:Nat):Int)])) a (.lst (zsV (List.replicate m ((0:Nat):Int))))) a=some (.lst (zsV (aX m sp st []))):=ai;generalize upd (upd H p1 (.lst [.int ((0:Nat):Int)])) a (.lst (zsV (List.replicate m ((0:Nat):Int))))=H2 at s2 h2;walk_at "rx";refine jS (H₀:=H) hv (fun i σ' H'=>ar H H'∧∃ (x y z:Option V),H' a=some (.lst (zsV (aX m sp st (l.take i))))∧σ'=[some (.ref g),some v,some (.int sp),some (.int st),some (.ref a),x,y,z]) ⟨s2,_,_,_,h2,rfl⟩ (fun i σ' H' z=>z.1) ?_ ?_
 ·rintro i c w' σ' H3 H4 p hc hw ⟨s3,x,y,z,h3,rfl⟩ hp hH4 s4;cases (show w'=V.int c from hw);have h4:=s4 _ _ h3;have s04:=s3.trans s4;have hil:i<l.length:=(List.getElem?_eq_some_iff.mp hc).1;have pl:=oO (show 0<m by omega) sp st i
  have hll:=dS m sp st (l.take i);walk_at "rx";refine iD (.inr ⟨by omega,by omega⟩) ?_
  walk_at "rx";refine ⟨g,T.aC,dx,_,_,rfl,s04 _ _ hg,T.au,T.bt,rfl,?_⟩;refine cI (by omega) ?_
  rw [← c6 (show 0<m by omega)]
  walk_at "rx";refine lW (aE h4) rfl (show (aX m sp st (l.take i))[bS m sp st i]?=some ((aX m sp st (l.take i)).getD (bS m sp st i) 0) by
   rw [List.getD,List.getElem?_eq_getElem (by omega)];rfl) ?_
  walk_at "rx";refine mF h4 rfl (by unfold zsV;rw [List.length_map,hll];exact pl) ?_
  have et:l.take (i+1)=l.take i++[c]:=by rw [List.take_add_one,hc];rfl
  have hlen:(l.take i).length=i:=by rw [List.length_take];omega
  refine ⟨fun b o zz=>by rw [ag (ao zz fa)];exact s04 _ _ zz,_,_,_,?_,rfl⟩
  rw [ai,et,eA,hlen];unfold zsV;rw [List.map_set]
 ·rintro σ' H3 ⟨s3,x,y,z,h3,rfl⟩;rw [List.take_length] at h3;walk_at "rx";refine ⟨g,T.aC,dx,_,_,rfl,s3 _ _ hg,T.au,T.fj,rfl,?_⟩;walk_at "rx";refine ⟨_,_,_,_,rfl,aE h3,aE (s3 _ _ hr'),W.ne,W.sm,by rw [dS];omega,fun t qa qb H4 s4 ht _ fqb _ _ hqb=>?_⟩
  walk_at "rx";refine lS ht (i:=1) rfl ?_;exact q qb H4 (s3.free fqb) (s3.trans s4) hqb
def jL (C:Addr) (K:PySem.W.Frag):Sp:=fun vs H Q _=>∃ (g:Addr) (v:V) (m:Nat) (l:List Int),vs=[.ref g,v]∧dt C H g m∧1≤m∧m≤60∧cP m∧At K H v l∧l.length≤1000 ∧
 ∀ b H',H b=none→ar H H'→H' b=some (.lst (zsV (aO m l)))→Q (.ref b) H'
theorem jH (T:Txt K mg):aK P w K mg base CX0 3 T.dI T.dC ["self","counts"] (jL T.aC K):=by
 refine T.kH.ok jF (fun vs H Q E h=>?_) (fun cdv A outer s H vs Q E hr h=>?_)
 ·obtain ⟨g,v,m,l,rfl,_⟩:=h;rfl
 obtain ⟨g,v,m,l,rfl,hW,m1,m2,W,hv,hl,q⟩:=h;obtain ⟨dx,r,hg,hr'⟩:=id hW;refine ⟨_,(aq (aJ (aB (pv 0) T.au T.de (cU T) (hr.mono (by decide)) T.du (paF (pv 1) (paF ak (paF ak ae)))))),?_⟩
 walk_at "rx";refine aG ?_;walk_at "rx";refine ⟨g,dx,_,rfl,hg,rfl,?_⟩;walk_at "rx";exact ⟨g,v,1,0,m,l,rfl,hW,m1,m2,W,hv,hl,q⟩
end
section
variable {P:Program} {w:World} {K:PySem.W.Frag} {mg:Str→Option Value} {base:Heap}
def m7 (K:PySem.W.Frag):Sp:=fun vs H Q _=>∃ i:Int,vs=[.int i]∧Q (.bl true) H
theorem eT (T:Txt K mg):aK P w K mg base CX0 1 T.cx.f T.cx.fd ["_law_found"] (m7 K):=by
 refine T.cx.ok nJ (fun vs H Q E h=>?_) (fun cdv A outer s H vs Q E hr h=>?_)
 ·obtain ⟨i,rfl,_⟩:=h;rfl
 obtain ⟨i,rfl,q⟩:=h;refine ⟨_,(aq (aJ (rW (bb (gE K rfl) rfl T.gN PyProof.Rows.boot_isinstance (paF (pv 0) (paF (ox (v:=.ty "int") rfl T.AI PyProof.Rows.boot_int rfl) ae))) (rg (vT (bb (gE K rfl) rfl T.gN PyProof.Rows.boot_isinstance (paF (pv 0) (paF (ox (v:=.ty "bool") rfl T.wN PyProof.Rows.boot_bool rfl) ae)))))))),?_⟩;walk_at "rx";refine rA (b:=true) (.int i) rfl ?_;walk_at "rx";refine rA (b:=false) (.int i) rfl ?_;walk_at "rx";exact q
def qN (K:PySem.W.Frag):Sp:=fun vs H Q _=>∃ (v:V) (ns:List Int) (k:Nat),vs=[v,.int (k:Int)]∧At K H v ns∧∀ z:Int,Q (.int z) H
theorem rf (T:Txt K mg):aK P w K mg base CX0 1 T.fV.f T.fV.fd ["_law_script","_law_k"] (qN K):=by
 refine T.fV.ok qw (fun vs H Q E h=>?_) (fun cdv A outer s H vs Q E hr h=>?_)
 ·obtain ⟨v,ns,k,rfl,_⟩:=h;rfl
 obtain ⟨v,ns,k,rfl,hv,q⟩:=h;refine ⟨_,(ah (bQ (a7 uf (pv 1) (bb (bB K rfl) rfl T.cT PySem.boot_len (paF (pv 0) ae)) (aV _)) (aq (aJ (cz (bY K rfl) (pv 0) (pv 1) (fun _ _=>rfl)))) bj)
   (aq (aJ ak))),?_⟩
 walk_at "1";refine cA (fun c=>?_) (fun c=>?_)
 ·walk_at "rx";refine g6 hv rfl (List.getElem?_eq_getElem c) ?_;exact q _
 ·walk_at "rx";exact q _
end
section
variable {P:Program} {w:World} {K:PySem.W.Frag} {mg:Str→Option Value} {base:Heap}
def jA (C:Addr) (K:PySem.W.Frag):Sp:=fun vs H Q _=>∃ (g:Addr) (v:V) (m:Nat) (l:List Int),vs=[.ref g,v]∧dt C H g m∧1≤m∧m≤60∧cP m∧At K H v l∧l.length≤1000 ∧
 ∀ b H',H b=none→ar H H'→H' b=some (.lst (zsV (aO m (aX m (-1) 0 l))))→Q (.ref b) H'
theorem jw (T:Txt K mg):aK P w K mg base CX0 3 T.dD T.dH ["self","one"] (jA T.aC K):=by
 refine T.j4.ok i9 (fun vs H Q E h=>?_) (fun cdv A outer s H vs Q E hr h=>?_)
 ·obtain ⟨g,v,m,l,rfl,_⟩:=h;rfl
 obtain ⟨g,v,m,l,rfl,hW,m1,m2,W,hv,hl,q⟩:=h;obtain ⟨dx,r,hg,hr'⟩:=id hW;refine ⟨_,(aq (aJ (aB (pv 0) T.au T.de (cU T) (hr.mono (by decide)) T.du (paF (pv 1) (paF (uG qz ak) (paF ak ae)))))),?_⟩
 walk_at "rx";refine aG ?_;walk_at "rx";refine ⟨g,dx,_,rfl,hg,rfl,?_⟩;walk_at "rx";refine ⟨g,v,-1,0,m,l,rfl,hW,m1,m2,W,hv,hl,fun b H' fb s2 hb=>?_⟩;rw [kq] at hb;exact q b H' fb s2 hb
def lL (K:PySem.W.Frag):Sp:=fun vs H Q _=>∃ (g v u:V) (l r:List Int),vs=[g,v,u]∧At K H v l∧At K H u r∧l.length=r.length∧l.length≤1000 ∧
 ∀ b H',H b=none→ar H H'→H' b=some (.lst (zsV (List.zipWith (·+·) l r)))→Q (.ref b) H'
theorem tT {l r:List Int} {i:Nat} {x y:Int} (hx:l[i]?=some x) (hy:r[i]?=some y):(List.zipWith (·+·) l r).take (i+1)=(List.zipWith (·+·) l r).take i++[x+y]:=by
 rw [List.take_add_one,List.getElem?_zipWith,hx,hy];rfl
theorem qX {H:Hp} {v u:V} {l r:List Int} {σ:St} {Q:VK} {own:List Str} {te:TE} (hv:At K H v l) (hu:At K H u r) (he:l.length=r.length) (hz:l.length≤1000)
  (h0:∃ a b,bI own [] σ=[a,b])
  (go:∀ (x y:Int) (H2:Hp) (R:V→Hp→Prop),R (.int (x+y)) H2→te [some (.int x),some (.int y)] H2 R) (hq:∀ b H',H b=none→ar H H'→H' b=some (.lst (zsV (List.zipWith (·+·) l r)))→Q (.ref b) H') :
  oU K [v,u] H (eB own [] (kA K 2 (c9 (cg 0) (c9 (cg 1) j8))) tS te σ Q):=by
 obtain ⟨p,rfl,hS⟩:=sT hv;obtain ⟨p2,rfl,hS2⟩:=sT hu;obtain ⟨a0,b0,h0⟩:=h0;have zl:(zsV l).length=l.length:=by unfold zsV;rw [List.length_map]
 have zr:(zsV r).length=r.length:=by unfold zsV;rw [List.length_map]
 refine tO (by omega) (by omega) (fun d i σ' H' zs=>ar H H'∧zs=zsV ((List.zipWith (·+·) l r).take i)∧∃ a b,σ'=[a,b]) (fun d i σ' H' zs z=>z.1.seq hS) (fun d i σ' H' zs z=>z.1.seq hS2) hS hS2
  (fun d i σ' H' zs hi z=>by rw [z.2.1];unfold zsV;rw [List.length_map,List.length_take];omega) (fun d hd=>⟨aD hd _,by simp [zsV],_,_,h0⟩) ?_ ?_
 ·rintro d i x y σ' H' H2 zs R R0 hd hx hy ⟨s1,rfl,a1,b1,rfl⟩ hzs s2 hR hR0;unfold zsV at hx hy;rw [List.getElem?_map] at hx hy;obtain ⟨x',hx',rfl⟩:=Option.map_eq_some_iff.mp hx;obtain ⟨y',hy',rfl⟩:=Option.map_eq_some_iff.mp hy;refine jK ?_;refine nA ?_;refine go _ _ _ _ (hR _ _ _ (s2 _ _ hzs) ⟨fun b o zz=>by rw [ag (ao zz hd)];exact s2 _ _ (s1 _ _ zz),?_,_,_,rfl⟩)
  rw [tT hx' hy'];unfold zsV;rw [List.map_append];rfl
 ·rintro d σ' H' zs hd hzs ⟨s1,rfl,_⟩;rw [zl,List.take_of_length_le (by simp;omega)] at hzs
  exact hq d H' hd s1 hzs
theorem cm (T:Txt K mg):aK P w K mg base CX0 1 T.eJ T.eP ["self","one","other"] (lL K):=by
 refine T.m5.ok lO (fun vs H Q E h=>?_) (fun cdv A outer s H vs Q E hr h=>?_)
 ·obtain ⟨g,v,u,l,r,rfl,_⟩:=h;rfl
 obtain ⟨g,v,u,l,r,rfl,hv,hu,he,hl,q⟩:=h;refine ⟨_,(aq (aJ (ki rfl e5 (vF K rfl rfl T.Aa (paF (pv 1) (paF (pv 2) ae))) (fun _ _ _ _=>⟨(vZ K rfl (i:=0) (j:=1) rfl e5.nd rfl (Or.inl rfl) rfl (Or.inl rfl)),ic,(av bH (pv 0) (pv 1))⟩)))),?_⟩;walk_at "rx";refine zG ?_;walk_at "rx";refine qX hv hu he hl ?_ (fun x y H2 R hR=>?_) q
 ·exact ⟨_,_,rfl⟩
 walk_at "rx";exact hR
def kz (K:PySem.W.Frag):Sp:=fun vs H Q _=>∃ (g v:V) (l:List Int) (c:Int),vs=[g,v]∧At K H v l∧l[0]?=some c∧l.length≤1000 ∧
 ∀ H',ar H H'→Q (if fO l=true then .int c else .non) H'
theorem fD (T:Txt K mg):aK P w K mg base CX0 1 T.ee T.dY ["self","one"] (kz K):=by
 refine T.lE.ok j5 (fun vs H Q E h=>?_) (fun cdv A outer s H vs Q E hr h=>?_)
 ·obtain ⟨g,v,l,c,rfl,_⟩:=h;rfl
 obtain ⟨g,v,l,c,rfl,hv,hc,hl,q⟩:=h;refine ⟨_,(ah (bQ (gH (bb (rF K rfl rfl) rfl T.zp PyProof.Rows.boot_any (paF (ki rfl eU (mN K rfl (iR (iT K rfl) (pv 1) (fz ak) u9)) (fun _ _ _ _=>⟨(bf (i:=0) eU.nd rfl (Or.inl rfl)),ic,(eG pS (pv 0) ak (aV _))⟩)) ae))) (aq (aJ wc)) bj)
   (aq (aJ (cz (bY K rfl) (pv 1) ak (fun _ _=>rfl))))),?_⟩
 walk_at "1";refine jY hv fun p H1 s1 hp a1=>?_;have a2:At K H1 (.ref p) (l.drop 1):=by rw [← sC l];exact a1
 refine tV (β:=Bool) a2 (by simp;omega) (fun i=>((l.drop 1).map fun x=>!decide (x=0)).take i) (fun σ'=>∃ y,σ'=[y]) rfl (fun i hi=>by rw [List.length_take];omega) ⟨_,rfl⟩ ?_ ?_
 ·rintro i x w' σ2 H2 d' R' R0 hx hs hw ⟨y,rfl⟩ hR' hR0 hd';cases (show w'=V.int x from hw);walk_at "rx";refine hR' _ _ (!decide (x=0)) _ ⟨_,rfl⟩ (ar.refl _) rfl ?_;rw [List.take_add_one,List.getElem?_map,hx];rfl
 intro d2 H2 s2 h2;have h2':At K H2 (.ref d2) ((l.drop 1).map fun x=>!decide (x=0)):=by
  have z:At K H2 (.ref d2) (((l.drop 1).map fun x=>!decide (x=0)).take (l.drop 1).length):=h2;rw [List.take_of_length_le (by simp)] at z
  exact z
 walk_at "rx";refine yE h2' ?_;have ea:((l.drop 1).map fun x=>!decide (x=0)).any id=!fO l:=by
  unfold fO;rw [List.any_map,List.not_all_eq_any_not];rfl
 rw [ea];walk_at "rx";have q':=q H2 (s1.trans s2);cases hb:fO l with
 | true =>
  rw [hb,if_pos rfl] at q';refine gP ?_;walk_at "rx";refine g6 (Rep.mono (s1.trans s2) hv) rfl hc ?_;exact q'
 | false =>
  rw [hb,if_neg Bool.false_ne_true] at q';refine nA ?_;walk_at "rx";exact q'
end
section
variable {P:Program} {w:World} {K:PySem.W.Frag} {mg:Str→Option Value} {base:Heap}
def iK (l:List Int):Prop:=∀ x∈l,x.natAbs<Bg
theorem iK.at {l:List Int} (h:iK l) {i:Nat} {x:Int} (e:l[i]?=some x):x.natAbs<Bg:=h x (List.mem_of_getElem? e)
theorem xW {l:List Int} {i:Nat} (h:i<l.length):l[i]?=some (l.getD i 0):=by rw [List.getD,List.getElem?_eq_getElem h];rfl
def km (C:Addr) (K:PySem.W.Frag):Sp:=fun vs H Q _=>∃ (g:Addr) (v u:V) (m:Nat) (a b:List Int),vs=[.ref g,v,u]∧dt C H g m∧1≤m∧m≤60∧cP m∧At K H v a∧At K H u b∧a.length≤400∧b.length≤400∧iK a∧iK b ∧
 ∀ r H',H r=none→ar H H'→H' r=some (.lst (zsV (aO m (bh m a b))))→Q (.ref r) H'
theorem bN (T:Txt K mg):aK P w K mg base CX0 4 T.d3 T.dX ["self","one","other"] (km T.aC K):=by
 refine T.lI.ok bO (fun vs H Q E h=>?_) (fun cdv A outer s H vs Q E hr h=>?_)
 ·obtain ⟨g,v,u,m,a,b,rfl,_⟩:=h;rfl
 obtain ⟨g,v,u,m,a,b,rfl,hW,m1,m2,W,hv,hu,la,lb,sa,sb,q⟩:=h;obtain ⟨dx,r,hg,hr'⟩:=id hW;refine ⟨_,(ah (aI (i:=3) bO.nd rfl (Or.inl rfl) (av fM (cE (paF ak ae)) (av bH (bb (bB K rfl) rfl T.cT PySem.boot_len (paF (pv 1) ae)) (bb (bB K rfl) rfl T.cT PySem.boot_len (paF (pv 2) ae)))))
   (ah (dW PassesOwn.never rfl (iU K rfl rfl T.fi (paF (pv 1) ae)) (gU rfl (b2 (bf (i:=4) bO.nd rfl (Or.inl rfl)) (b2 (bf (i:=5) bO.nd rfl (Or.inl rfl)) fB))) (aq (dW PassesOwn.never rfl (iU K rfl rfl T.fi (paF (pv 2) ae)) (gU rfl (b2 (bf (i:=6) bO.nd rfl (Or.inl rfl)) (b2 (bf (i:=7) bO.nd rfl (Or.inl rfl)) fB))) (aq (jJ (av bH (cz (bY K rfl) (pv 3) (av bH (pv 4) (pv 6)) (fun _ _=>rfl)) (av oN (pv 5) (pv 7))) (nr (pv 3) (av bH (pv 4) (pv 6)) set_list))))))
   (aq (aJ (aB (pv 0) T.au T.ku (jH T) (hr.mono (by decide)) T.ky (paF (pv 3) ae)))))),?_⟩
 walk_at "2";refine ⟨small (by show 1≤1000;decide),fun p1 hp1=>?_⟩
 have s1:=aD hp1 (.lst [.int ((0:Nat):Int)]);have hv1:=Rep.mono s1 hv;have hu1:=Rep.mono s1 hu;walk_at "rx";refine ⟨p1,_,_,rfl,rfl,ai,by omega,by omega,?_,fun t ht=>?_⟩
 ·rw [sizeLine_eq];show 1 * _≤_;omega
 rw [show (((a.length+b.length:Nat)):Int).toNat=a.length+b.length by omega,hU]
 have ft:H t=none:=s1.free ht;have s2:=s1.trans (aD ht (.lst (zsV (List.replicate (a.length+b.length) ((0:Nat):Int)))));have h2:(upd (upd H p1 (.lst [.int ((0:Nat):Int)])) t (.lst (zsV (List.replicate (a.length+b.length) ((0:Nat):Int))))) t=some (.lst (zsV (aP (a.length+b.length) (pst id a b 0 0)))):=by
  rw [sk];exact ai
 generalize upd (upd H p1 (.lst [.int ((0:Nat):Int)])) t (.lst (zsV (List.replicate (a.length+b.length) ((0:Nat):Int))))=H2 at s2 h2;walk_at "rx";refine jS (H₀:=H) hv (fun i σ' H'=>ar H H'∧∃ (x y z z2:Option V),H' t=some (.lst (zsV (aP (a.length+b.length) (pst id a b i 0))))∧σ'=[some (.ref g),some v,some u,some (.ref t),x,y,z,z2]) ⟨s2,_,_,_,_,h2,rfl⟩ (fun i σ' H' z=>z.1) ?_ ?_
 ·rintro i c w' σ' H3 H4 p hc hw ⟨s3,x,y,z,z2,h3,rfl⟩ hp hH4 s4;cases (show w'=V.int c from hw);have h4:=s4 _ _ h3;have s04:=s3.trans s4;have hil:i<a.length:=(List.getElem?_eq_some_iff.mp hc).1;walk_at "rx";refine jS (H₀:=H) hu (fun k σ' H'=>ar H H'∧∃ (z z2:Option V),H' t=some (.lst (zsV (aP (a.length+b.length) (pst id a b i k))))∧σ'=[some (.ref g),some v,some u,some (.ref t),some (.int (i:Int)),some (.int c),z,z2]) ⟨s04,_,_,h4,rfl⟩ (fun i σ' H' z=>z.1) ?_ ?_
  ·rintro k e w2 σ2 H5 H6 p2 he hw2 ⟨s5,z,z2,h5,rfl⟩ hp2 hH6 s6;cases (show w2=V.int e from hw2);have h6:=s6 _ _ h5;have hkl:k<b.length:=(List.getElem?_eq_some_iff.mp he).1;have hrl:(aP (a.length+b.length) (pst id a b i k)).length=a.length+b.length:=bL;walk_at "rx";refine lW (aE h6) rfl (xW (show i+k<_ by omega)) ?_
   walk_at "rx";refine iD ⟨sa.at hc,sb.at he⟩ ?_;walk_at "rx";refine mF h6 rfl (by unfold zsV;rw [List.length_map,hrl];omega) ?_
   refine ⟨fun b o zz=>by rw [ag (ao zz ft)];exact s6 _ _ (s5 _ _ zz),_,_,?_,rfl⟩
   rw [ai,← tI (pl:=id) hc he (show i+k<_ by omega)]
   unfold zsV;rw [List.map_set];rfl
  ·rintro σ2 H5 ⟨s5,z,z2,h5,rfl⟩;rw [vE] at h5;exact ⟨s5,_,_,_,_,h5,rfl⟩
 ·rintro σ' H3 ⟨s3,x,y,z,z2,h3,rfl⟩;rw [vx] at h3;walk_at "rx";refine aG ?_;walk_at "rx";refine ⟨g,dx,_,rfl,s3 _ _ hg,rfl,?_⟩;walk_at "rx";exact ⟨g,_,m,lR a b,rfl,hW.mono s3,m1,m2,W,aE h3,by show (aP _ _).length≤_;rw [bL];omega,fun r H' fr s hr=>q r H' (s3.free fr) (s3.trans s) (by rw [← sy (by omega)];exact hr)⟩
def oV (m:Nat) (j:Int):Prop:=∀ d:Nat,2≤d→d≤m→m % d=0→j % (d:Int)≠0
def kC (C:Addr) (K:PySem.W.Frag):Sp:=fun vs H Q _=>∃ (g:Addr) (v:V) (j:Int) (m:Nat) (l:List Int),vs=[.ref g,v,.int j]∧dt C H g m∧1≤m∧m≤60∧cP m∧At K H v l∧l.length≤1000∧oV m j ∧
 ∀ b H',H b=none→ar H H'→H' b=some (.lst (zsV (aO m (aX m j 0 l))))→Q (.ref b) H'
theorem aN (T:Txt K mg):aK P w K mg base CX0 3 T.d5 T.d7 ["self","one","j"] (kC T.aC K):=by
 refine T.lA.ok fR (fun vs H Q E h=>?_) (fun cdv A outer s H vs Q E hr h=>?_)
 ·obtain ⟨g,v,j,m,l,rfl,_⟩:=h;rfl
 obtain ⟨g,v,j,m,l,rfl,hW,m1,m2,W,hv,hl,nc,q⟩:=h;obtain ⟨dx,r,hg,hr'⟩:=id hW;refine ⟨_,(ah (dW PassesOwn.never rfl (gd rfl T.eF (paF ak (paF (av bH (cw K rfl (pv 0) rfl) ak) ae))) (bf (i:=3) fR.nd rfl (Or.inl rfl)) (aq (bQ (PW.pt (wC (a7 dz (av bM (cw K rfl (pv 0) rfl) (pv 3)) ak (aV _)) (vv (a7 dz (av bM (pv 2) (pv 3)) ak (aV _))))) (aq nh) bj)))
   (aq (aJ (aB (pv 0) T.au T.de (cU T) (hr.mono (by decide)) T.du (paF (pv 1) (paF (pv 2) (paF ak ae))))))),?_⟩
 walk_at "rx";refine jQ ?_;walk_at "rx";refine ⟨g,T.aC,dx,_,_,rfl,hg,T.au,T.bt,rfl,?_⟩;walk_at "rx";refine kY (lo:=2) (n:=m - 1) rfl (by omega) (by omega) (fun i σ' H'=>H'=H∧∃ x:Option V,σ'=[some (.ref g),some v,some (.int j),x]) ⟨rfl,_,rfl⟩ ?_ ?_
 ·rintro i σ' H2 hi ⟨rfl,x,rfl⟩;walk_at "1";refine ⟨g,T.aC,dx,_,_,rfl,hg,T.au,T.bt,rfl,?_⟩;walk_at "rx";refine cA (fun c=>?_) (fun c=>?_)
  ·walk_at "rx";refine cI (by omega) ?_
   walk_at "rx";refine cA (fun c2=>absurd c2 (nc (2+i) (by omega) (by omega) c)) (fun _=>?_)
   walk_at "rx";exact ⟨rfl,_,rfl⟩
  ·walk_at "rx";exact ⟨rfl,_,rfl⟩
 ·rintro σ' H2 ⟨rfl,x,rfl⟩;walk_at "rx";refine aG ?_;walk_at "rx";refine ⟨g,dx,_,rfl,hg,rfl,?_⟩;walk_at "rx";refine ⟨g,v,j,0,m,l,rfl,hW,m1,m2,W,hv,hl,fun b H' fb s2 hb=>?_⟩;rw [kq] at hb;exact q b H' fb s2 hb
def kG (C:Addr) (K:PySem.W.Frag):Sp:=fun vs H Q _=>∃ (g:Addr) (v:V) (b m:Nat) (l:List Int),vs=[.ref g,v,.int (b:Int)]∧dt C H g m∧1≤m∧1≤b∧b≤60∧m * b≤60∧At K H v l∧l.length≤1000 ∧
 ∀ r H',H r=none→ar H H'→H' r=some (.lst (zsV (aO (m * b) (aX (m * b) b 0 l))))→Q (.ref r) H'
theorem cK (T:Txt K mg):aK P w K mg base CX0 6 T.dZ T.d6 ["self","one","many"] (kG T.aC K):=by
 refine T.lK.ok kx (fun vs H Q E h=>?_) (fun cdv A outer s H vs Q E hr h=>?_)
 ·obtain ⟨g,v,b,m,l,rfl,_⟩:=h;rfl
 obtain ⟨g,v,b,m,l,rfl,hW,m1,b1,b4,mb,hv,hl,q⟩:=h;obtain ⟨dx,r,hg,hr'⟩:=id hW;have mb1:1≤m * b:=Nat.mul_pos (by omega) (by omega)
 have m60:m≤60:=Nat.le_trans (Nat.le_mul_of_pos_right m (by omega)) mb
 have okm:=(fg (m * b) (by omega)).resolve_left (by omega)
 have W:=gc okm.1;refine ⟨_,(aq (aJ (aB (iS T.j7 (iV T) (hr.mono (by decide)) rfl T.jT T.kF .nil jN (paF (av dR (cw K rfl (pv 0) rfl) (pv 2)) ae)) T.au T.de (cU T) (hr.mono (by decide)) T.du (paF (pv 1) (paF (pv 2) (paF ak ae)))))),?_⟩
 walk_at "rx";refine aG ?_;walk_at "rx";refine ⟨g,T.aC,dx,_,_,rfl,hg,T.au,T.bt,rfl,?_⟩;walk_at "rx";intro x1 dx1 hx1 hdx1 hne1;refine ⟨x1,dx1,m * b,rfl,ai,mb1,mb,okm.1,fun r1 H1 fr1 hg1 hr1 k1=>⟨rfl,?_⟩⟩;have s1:ar H H1:=fun c o z=>k1 c o (by rw [ag (ao z hx1),ag (ao z hdx1)];exact z) (ao z hx1)
 refine ⟨x1,dx1,_,rfl,hg1,rfl,?_⟩;walk_at "rx";refine ⟨x1,v,(b:Int),0,m * b,l,rfl,⟨dx1,r1,hg1,hr1⟩,mb1,mb,W,Rep.mono s1 hv,hl,fun r2 H' fr2 s2 hr2=>?_⟩;rw [kq] at hr2;exact q r2 H' (s1.free fr2) (s1.trans s2) hr2
end
section
variable {P:Program} {w:World} {K:PySem.W.Frag} {mg:Str→Option Value} {base:Heap}
def lC (K:PySem.W.Frag):Sp:=fun vs H Q _=>∃ (v:V) (ns:List Int) (k:Nat),vs=[v,.int (k:Int)]∧At K H v ns∧ns.length≤1000∧k≤100000∧∀ z:Int,z.natAbs<2 ^ 100→Q (.int z) H
theorem gx (T:Txt K mg):aK P w K mg base CX0 1 T.cB.f T.cB.fd ["_law_script","_law_at_here"] (lC K):=by
 refine T.cB.ok cq (fun vs H Q E h=>?_) (fun cdv A outer s H vs Q E hr h=>?_)
 ·obtain ⟨v,ns,k,rfl,_⟩:=h;rfl
 obtain ⟨v,ns,k,rfl,hv,hl,hk,q⟩:=h;refine ⟨_,(ah (bQ (a7 dz (bb (bB K rfl) rfl T.cT PySem.boot_len (paF (pv 0) ae)) ak (aV _)) (aq (aJ ak)) bj)
   (ah (aI (i:=2) cq.nd rfl (Or.inl rfl) (cz (bY K rfl) (pv 0) (av bM (pv 1) (bb (bB K rfl) rfl T.cT PySem.boot_len (paF (pv 0) ae))) (fun _ _=>rfl)))
   (ah (aI (i:=3) cq.nd rfl (Or.inl rfl) (av bM (av dR (av fC (pv 2) ak) (av bH ak (av dR (pv 1) (pv 1)))) (av yh ak ak)))
   (ah (bQ (a7 dz (av bM (av bH (pv 2) (pv 1)) ak) ak (aV _)) (aq (aI (i:=3) cq.nd rfl (Or.inl rfl) (av bM (pv 3) ak))) bj)
   (ah (bQ (a7 dz (av bM (av bH (pv 2) (pv 1)) ak) ak (aV _)) (aq (aI (i:=3) cq.nd rfl (Or.inl rfl) ak)) bj)
   (ah (bQ (a7 dz (av bM (pv 2) ak) ak (aV _)) (aq (aJ (av dv ak (pv 3)))) bj)
   (aq (aJ (pv 3))))))))),?_⟩
 walk_at "1";refine cA (fun c=>?_) (fun c=>?_)
 ·walk_at "rx";exact q _ (by decide)
 ·walk_at "rx";have hm:=Nat.mod_lt k (show 0<ns.length by omega)
  refine g6 hv rfl (List.getElem?_eq_getElem hm) ?_;walk_at "rx";have hkk:k * k≤100000 * 100000:=Nat.mul_le_mul hk hk;generalize ns[k % ns.length]=c0;refine i7 (by decide) (by decide) ?_
  walk_at "rx";refine iD (.inr ⟨by omega,by omega⟩) ?_
  walk_at "rx";refine iD ⟨by decide,by decide,by decide⟩ ?_
  refine cI (by decide) ?_
  walk_at "rx";have hz0:0≤c0 / ((2:Nat):Int) * (((1+k * k:Nat)):Int) % ((10:Nat):Int) ^ ((30:Nat):Int).toNat∧c0 / ((2:Nat):Int) * (((1+k * k:Nat)):Int) % ((10:Nat):Int) ^ ((30:Nat):Int).toNat<10 ^ 30 :=
   ⟨Int.emod_nonneg _ (by decide),Int.emod_lt_of_pos _ (by decide)⟩
  revert hz0
  generalize c0 / ((2:Nat):Int) * (((1+k * k:Nat)):Int) % ((10:Nat):Int) ^ ((30:Nat):Int).toNat=z0;intro hz0;refine ug (fun σ' H'=>H'=H∧∃ z:Int,(0≤z∧z<10 ^ 30)∧σ'=[some v,some (.int (k:Int)),some (.int c0),some (.int z)]) (fun N hN=>?_) ?_
  ·walk_at "rx";refine cI (by decide) ?_
   walk_at "rx";refine cA (fun _=>?_) (fun _=>?_)
   ·walk_at "rx";refine cI (by decide) ?_
    walk_at "rx";exact hN _ _ ⟨rfl,_,⟨Int.emod_nonneg _ (by decide),by omega⟩,rfl⟩
   ·walk_at "rx";exact hN _ _ ⟨rfl,z0,hz0,rfl⟩
  rintro σ' H' ⟨rfl,z1,hz1,rfl⟩;walk_at "rx";refine ug (fun σ' H''=>H''=H'∧∃ z:Int,(0≤z∧z<10 ^ 30)∧σ'=[some v,some (.int (k:Int)),some (.int c0),some (.int z)]) (fun N hN=>?_) ?_
  ·walk_at "rx";refine cI (by decide) ?_
   walk_at "rx";refine cA (fun _=>?_) (fun _=>?_)
   ·walk_at "rx";exact hN _ _ ⟨rfl,((0:Nat):Int),by decide,rfl⟩
   ·walk_at "rx";exact hN _ _ ⟨rfl,z1,hz1,rfl⟩
  rintro σ' H'' ⟨rfl,z2,hz2,rfl⟩;walk_at "1";refine cI (by decide) ?_
  walk_at "rx";refine cA (fun _=>?_) (fun _=>?_)
  ·walk_at "rx";exact q _ (by omega)
  ·walk_at "rx";exact q _ (by omega)
theorem sJ {a b:Nat}:Nat.gcd a b=Nat.gcd b (a % b):=by rw [Nat.gcd_comm a b,Nat.gcd_rec b a,Nat.gcd_comm]
def ly:Sp:=fun vs H Q _=>∃ (a b:Nat),vs=[.int (a:Int),.int (b:Int)]∧a≤1000∧b≤1000∧Q (.int (Nat.gcd a b:Nat)) H
theorem lM (T:Txt K mg):aK P w K mg base CX0 1 T.dB.f T.dB.fd ["_law_one","_law_other"] ly:=by
 refine T.dB.ok gB (fun vs H Q E h=>?_) (fun cdv A outer s H vs Q E hr h=>?_)
 ·obtain ⟨a,b,rfl,_⟩:=h;rfl
 obtain ⟨a,b,rfl,ha,hb,q⟩:=h;refine ⟨_,(ah (nK PassesOwn.never (a7 pJ (pv 1) ak (aV _)) (aq (wg (i:=0) (j:=1) rfl gB.nd rfl rfl (by decide) rfl rfl (paF (pv 1) (paF (av bM (pv 0) (pv 1)) ae)) rfl)))
   (aq (aJ (pv 0)))),?_⟩
 walk_at "rx";refine mq (fun m σ' H'=>H'=H∧∃ c d:Nat,m=d∧c≤1000∧d≤1000∧Nat.gcd c d=Nat.gcd a b∧σ'=[some (.int (c:Int)),some (.int (d:Int))]) b ⟨rfl,a,b,rfl,ha,hb,rfl,rfl⟩ ?_;rintro m σ' H' ⟨rfl,c,d,rfl,hc,hd,e,rfl⟩;walk_at "rx";refine cA (fun c1=>?_) (fun c1=>?_)
 ·have hm:=Nat.mod_lt c (show 0<m by omega)
  refine ⟨fun σ3 H3=>H3=H'∧σ3=[some (.int (m:Int)),some (.int ((c % m:Nat):Int))],fun σ3 H3 z=>?_,?_⟩
  ·obtain ⟨rfl,rfl⟩:=z;exact ⟨c % m,hm,rfl,m,c % m,rfl,hd,by omega,sJ.symm.trans e,rfl⟩
  walk_at "rx";exact ⟨rfl,rfl⟩
 ·walk_at "rx";obtain rfl:m=0:=by omega
  rw [Nat.gcd_zero_right] at e;rw [e];exact q
def eK (m:Nat):List Int:=(aw m).map fun (j:Nat)=>(j:Int)
def nB:Sp:=fun vs H Q _=>∃ m:Nat,vs=[.int (m:Int)]∧m≤60∧∀ d H',H d=none→ar H H'→H' d=some (.lst (zsV (eK m)))→Q (.ref d) H'
theorem dA (T:Txt K mg):aK P w K mg base CX0 2 T.bX.f T.bX.fd ["_law_many"] nB:=by
 refine T.bX.ok mr (fun vs H Q E h=>?_) (fun cdv A outer s H vs Q E hr h=>?_)
 ·obtain ⟨m,rfl,_⟩:=h;rfl
 obtain ⟨m,rfl,hm,q⟩:=h;refine ⟨_,(aq (aJ (ki rfl fA (gd rfl T.eF (paF ak (paF (av bH (pv 0) ak) ae))) (fun _ _ _ _=>⟨(bf (i:=0) fA.nd rfl (Or.inl rfl)),(ve (a7 dz (bo T.dB (lM T) (hr.mono (by decide)) rfl (paF (pv 1) (paF (pv 0) ae))) ak (aV _))),(pv 0)⟩)))),?_⟩
 walk_at "rx";refine jQ ?_;walk_at "rx";refine nX (lo:=1) (n:=m) rfl (by omega) (by omega) (fun d i σ' H' ys=>ar H H'∧ys=zsV ((((List.range i).map (·+1)).filter fun j=>Nat.gcd m j == 1).map fun (j:Nat)=>(j:Int))∧∃ x,σ'=[x,some (.int (m:Int))])
  (fun d i σ' H' ys hi z=>by rw [z.2.1];unfold zsV;rw [List.length_map,List.length_map];exact Nat.le_trans (List.length_filter_le _ _) (by simp)) (fun d hd=>⟨aD hd _,rfl,_,rfl⟩) ?_ ?_
 ·rintro d i σ' H' ys R R0 hd hi ⟨s1,rfl,x,rfl⟩ hys hR hR0;have e:((List.range (i+1)).map (·+1)).filter (fun j=>Nat.gcd m j == 1)=((List.range i).map (·+1)).filter (fun j=>Nat.gcd m j == 1)++[i+1].filter (fun j=>Nat.gcd m j == 1):=by
   rw [List.range_succ,List.map_append,List.filter_append];rfl
  walk_at "rx";refine ⟨m,1+i,rfl,by omega,by omega,?_⟩
  walk_at "rx";refine cA (fun c=>?_) (fun c=>?_)
  ·walk_at "rx";have g1:(Nat.gcd m (i+1) == 1)=true:=beq_iff_eq.mpr (by rw [Nat.add_comm i 1];omega)
   refine hR _ _ _ hys ⟨fun b o z=>by rw [ag (ao z hd)];exact s1 _ _ z,?_,_,rfl⟩
   rw [e,show [i+1].filter (fun j=>Nat.gcd m j == 1)=[i+1] from List.filter_cons_of_pos (p:=fun j=>Nat.gcd m j == 1) g1];unfold zsV;rw [List.map_append,List.map_append,Nat.add_comm 1 i];rfl
  ·have g1:¬ (Nat.gcd m (i+1) == 1)=true:=fun z=>c (by have:=beq_iff_eq.mp z;rw [Nat.add_comm i 1] at this;omega)
   refine hR0 _ _ hys ⟨s1,?_,_,rfl⟩;rw [e,show [i+1].filter (fun j=>Nat.gcd m j == 1)=[] from List.filter_cons_of_neg (p:=fun j=>Nat.gcd m j == 1) g1,List.append_nil]
 ·rintro d σ' H' ys hd hys ⟨s1,rfl,_⟩;exact q d H' hd s1 hys
end
section
variable {P:Program} {w:World} {K:PySem.W.Frag} {mg:Str→Option Value} {base:Heap}
theorem b8 {A:Nat} {l:List Int} (h:Bnd A l) (hA:A≤1999):iK l:=fun x hx=>by
 have h1:=h.mono hA x hx;have h2:2 ^ 1999<Bg:=Nat.pow_lt_pow_right (by decide) (by decide)
 omega
theorem dJ {m:Nat} {z:Int} (h:Nat.gcd m z.natAbs=1):oV m z:=fun d h2 _ h3 h4=>by
 have d1:d ∣ m:=Nat.dvd_of_mod_eq_zero h3;have d2:d ∣ z.natAbs:=Int.ofNat_dvd_left.mp (Int.dvd_of_emod_eq_zero h4);have:=Nat.dvd_gcd d1 d2;rw [h] at this;have:=Nat.le_of_dvd (by decide) this
 omega
theorem eY {m j:Nat} (h:j∈aw m):Nat.gcd m j=1:=beq_iff_eq.mp (List.mem_filter.mp h).2
theorem ow {t:Int} {d:Nat}:fO (sm t (aW d))=true:=by
 unfold fO sm aW;rw [List.map_cons,List.drop_succ_cons,List.drop_zero,List.all_eq_true];intro x hx;obtain ⟨y,hy,rfl⟩:=List.mem_map.mp hx;rw [List.eq_of_mem_replicate hy,Int.mul_zero];rfl
theorem oK {t:Int} {d:Nat}:(sm t (aW d))[0]?=some t:=by unfold sm aW;simp
def iI (C:Addr) (K:PySem.W.Frag):Sp:=fun vs H Q _=>∃ (g:Addr) (v:V) (m A:Nat) (a:List Int),vs=[.ref g,v]∧dt C H g m∧m∈b3∧At K H v a∧a.length=aa m∧Bnd A a∧A≤206 ∧
 ∀ (t:Addr) H' (x y:Int),ar H H'→H' t=some (.tup [.int x,.int y])→y=(nrm m a (aw m) (aW (aa m))).getD 0 0→Q (.ref t) H'
theorem c4 (T:Txt K mg):aK P w K mg base CX0 6 T.bJ.f T.bJ.fd ["_law_wheel","_law_one"] (iI T.aC K):=by
 refine T.bJ.ok bq (fun vs H Q E h=>?_) (fun cdv A outer s H vs Q E hr h=>?_)
 ·obtain ⟨g,v,m,B,a,rfl,_⟩:=h;rfl
 obtain ⟨g,v,m,B,a,rfl,hW,hm,hv,la,hB,hB2,q⟩:=h;have D:=eO hm;obtain ⟨_,d8,m1,m2,_⟩:=gS m hm;have d1:=D.w.d1;have W:=D.w.W;refine ⟨_,(ah (aI (i:=2) bq.nd rfl (Or.inl rfl) (av fM (cE (paF ak ae)) (bb (bB K rfl) rfl T.cT PySem.boot_len (paF (pv 1) ae))))
   (ah (aI (i:=3) bq.nd rfl (Or.inl rfl) (av mx (cE (paF ak ae)) (av fM (cE (paF ak ae)) (av dv (bb (bB K rfl) rfl T.cT PySem.boot_len (paF (pv 1) ae)) ak))))
   (ah (dW PassesOwn.never rfl (mN K rfl (bo T.bX (dA T) (hr.mono (by decide)) rfl (paF (cw K rfl (pv 0) rfl) ae))) (bf (i:=4) bq.nd rfl (Or.inl rfl)) (ah (aI (i:=5) bq.nd rfl (Or.inl rfl) (aB (pv 0) T.au T.aU (aN T) (hr.mono (by decide)) T.aT (paF (pv 1) (paF (pv 4) ae))))
   (ah (aI (i:=2) bq.nd rfl (Or.inl rfl) (aB (pv 0) T.au T.cG (cm T) (hr.mono (by decide)) T.cD (paF (pv 2) (paF (pv 5) ae))))
   (aq (aI (i:=3) bq.nd rfl (Or.inl rfl) (aB (pv 0) T.au T.bT (bN T) (hr.mono (by decide)) T.bU (paF (pv 3) (paF (pv 5) ae))))))))
   (aq (aJ (qP (paF (aB (pv 0) T.au T.gy (fD T) (hr.mono (by decide)) T.gv (paF (pv 2) ae)) (paF (aB (pv 0) T.au T.gy (fD T) (hr.mono (by decide)) T.gv (paF (pv 3) ae)) ae)))))))),?_⟩
 walk_at "2";refine ⟨small (by show 1≤1000;decide),fun p1 hp1=>?_⟩
 have s1:=aD hp1 (.lst [.int ((0:Nat):Int)]);have k1:(upd H p1 (.lst [.int ((0:Nat):Int)])) p1=some (.lst [.int ((0:Nat):Int)]):=ai;generalize upd H p1 (.lst [.int ((0:Nat):Int)])=H1 at s1 k1;have hv1:=Rep.mono s1 hv;walk_at "rx";refine ⟨p1,_,_,rfl,rfl,k1,by omega,by omega,?_,fun t ht=>?_⟩
 ·rw [sizeLine_eq];show 1 * _≤_;omega
 rw [show ((a.length:Nat):Int).toNat=aa m by omega,hU]
 have s2:=s1.trans (aD ht (.lst (zsV (List.replicate (aa m) ((0:Nat):Int)))));have k2:(upd H1 t (.lst (zsV (List.replicate (aa m) ((0:Nat):Int))))) t=some (.lst (zsV (List.replicate (aa m) 0))):=ai;generalize upd H1 t (.lst (zsV (List.replicate (aa m) ((0:Nat):Int))))=H2 at s2 k2;walk_at "2";refine ⟨small (by show 1≤1000;decide),fun p3 hp3=>?_⟩
 have s3:=aD hp3 (.lst [.int ((1:Nat):Int)]);have k3:(upd H2 p3 (.lst [.int ((1:Nat):Int)])) p3=some (.lst [.int ((1:Nat):Int)]):=ai;generalize upd H2 p3 (.lst [.int ((1:Nat):Int)])=H3 at s3 k3;walk_at "2";refine ⟨small (by show 1≤1000;decide),fun p4 hp4=>?_⟩
 have s4:=aD hp4 (.lst [.int ((0:Nat):Int)]);have k4:(upd H3 p4 (.lst [.int ((0:Nat):Int)])) p4=some (.lst [.int ((0:Nat):Int)]):=ai;generalize upd H3 p4 (.lst [.int ((0:Nat):Int)])=H4 at s4 k4;have hv4:=Rep.mono (s2.trans (s3.trans s4)) hv;walk_at "rx";refine ⟨p4,_,_,rfl,rfl,k4,by omega,by omega,?_,fun p5 hp5=>?_⟩
 ·rw [sizeLine_eq];show 1 * _≤_;omega
 rw [show (((a.length:Nat):Int) - ((1:Nat):Int)).toNat=aa m - 1 by omega,hU]
 have s5:=aD hp5 (.lst (zsV (List.replicate (aa m - 1) ((0:Nat):Int))));have k5:(upd H4 p5 (.lst (zsV (List.replicate (aa m - 1) ((0:Nat):Int))))) p5=some (.lst (zsV (List.replicate (aa m - 1) ((0:Nat):Int)))):=ai;generalize upd H4 p5 (.lst (zsV (List.replicate (aa m - 1) ((0:Nat):Int))))=H5 at s5 k5;refine ⟨p3,p5,_,_,rfl,rfl,s5 _ _ (s4 _ _ k3),k5,?_,fun p6 hp6=>?_⟩
 ·unfold zsV;rw [sizeLine_eq];simp;omega
 have s6:=(s2.trans (s3.trans (s4.trans s5))).trans (aD hp6 (.lst ([V.int ((1:Nat):Int)]++zsV (List.replicate (aa m - 1) ((0:Nat):Int)))));have k6:(upd H5 p6 (.lst ([V.int ((1:Nat):Int)]++zsV (List.replicate (aa m - 1) ((0:Nat):Int))))) p6=some (.lst (zsV (aW (aa m)))):=ai;have k6':(upd H5 p6 (.lst ([V.int ((1:Nat):Int)]++zsV (List.replicate (aa m - 1) ((0:Nat):Int))))) t=some (.lst (zsV (List.replicate (aa m) 0))):=(aD hp6 _) _ _ (s5 _ _ (s4 _ _ (s3 _ _ k2)));generalize upd H5 p6 (.lst ([V.int ((1:Nat):Int)]++zsV (List.replicate (aa m - 1) ((0:Nat):Int))))=H6 at s6 k6 k6';obtain ⟨dx,rr,hg,_⟩:=id hW;walk_at "rx";refine ⟨g,T.aC,dx,_,_,rfl,s6 _ _ hg,T.au,T.bt,rfl,?_⟩;walk_at "rx";refine ⟨m,rfl,m2,fun pm H7 fpm s7 k7=>?_⟩;have s07:=s6.trans s7;walk_at "rx";have totL:∀ js:List Nat,(tot m a js (List.replicate (aa m) 0)).length=aa m:=fun js=>(ik (m:=m) a js _ List.length_replicate).1;have nrmL:∀ js:List Nat,(nrm m a js (aW (aa m))).length=aa m:=fun js=>hV D.w a js _ (bw d1);refine tm (H₀:=H7) (aE k7) (fun i σ' H'=>ar H7 H'∧∃ (pt pn:Addr) (x y:Option V),H' pt=some (.lst (zsV (tot m a ((aw m).take i) (List.replicate (aa m) 0))))∧H' pn=some (.lst (zsV (nrm m a ((aw m).take i) (aW (aa m)))))∧σ'=[some (.ref g),some v,some (.ref pt),some (.ref pn),x,y])
  ⟨ar.refl _,t,p6,_,_,s7 _ _ k6',s7 _ _ k6,rfl⟩ (fun i σ' H' z=>z.1) ?_ ?_
 ·rintro i j w' σ' H8 hj hw ⟨s8,pt,pn,x,y,kt,kn,rfl⟩;cases (show w'=V.int j from hw);unfold eK at hj;rw [List.getElem?_map] at hj;obtain ⟨j,hj',rfl⟩:=Option.map_eq_some_iff.mp hj;have hjm:j∈aw m:=List.mem_of_getElem? hj';have s08:=s07.trans s8;have hg8:=s08 _ _ hg;walk_at "rx";refine aG ?_;walk_at "rx";refine ⟨g,dx,_,rfl,hg8,rfl,?_⟩;walk_at "rx";refine ⟨g,v,j,m,a,rfl,hW.mono s08,m1,m2,W,Rep.mono s08 hv,by omega,dJ (by rw [Int.natAbs_natCast];exact eY hjm),fun pf H9 fpf s9 k9=>?_⟩
  rw [D.w.lay (j:Int) rfl a] at k9;have s09:=s08.trans s9;walk_at "rx";refine aG ?_;walk_at "rx";refine ⟨g,dx,_,rfl,s9 _ _ hg8,rfl,?_⟩;walk_at "rx";refine ⟨_,_,_,_,_,rfl,aE (s9 _ _ kt),aE k9,by rw [totL,cu],by rw [totL];omega,fun pt' H10 fpt s10 k10=>?_⟩
  walk_at "rx";refine aG ?_;walk_at "rx";refine ⟨g,dx,_,rfl,s10 _ _ (s9 _ _ hg8),rfl,?_⟩;walk_at "rx";have hb1:Bnd (0+((aw m).take i).length * (B+9)) (nrm m a ((aw m).take i) (aW (aa m))):=j2 D.w d8 (i4 hm) (by omega) hB _ 0 _ (bw d1) n5
  have hlt:((aw m).take i).length≤8:=by
   have:=D.len;rw [List.length_take];omega
  have hmul:((aw m).take i).length * (B+9)≤8 * 215:=Nat.mul_le_mul hlt (by omega)
  refine ⟨g,_,_,m,_,_,rfl,(hW.mono s09).mono s10,m1,m2,W,aE (s10 _ _ (s9 _ _ kn)),aE (s10 _ _ k9),by rw [nrmL];omega,by rw [cu];omega,b8 hb1 (by omega),b8 (iW (J:=j) (i4 hm) (by omega) hB) (by omega),fun pn' H11 fpn s11 k11=>?_⟩
  walk_at "rx";have et:(aw m).take (i+1)=(aw m).take i++[j]:=by rw [List.take_add_one,hj'];rfl
  refine ⟨s8.trans (s9.trans (s10.trans s11)),pt',pn',_,_,?_,?_,rfl⟩
  ·rw [et];unfold tot at k10 ⊢;rw [List.foldl_append];exact s11 _ _ k10
  ·rw [et];unfold nrm at k11 ⊢;rw [List.foldl_append];exact k11
 ·rintro σ' H8 ⟨s8,pt,pn,x,y,kt,kn,rfl⟩;have ml:(eK m).length=(aw m).length:=List.length_map _;rw [ml,List.take_length] at kt kn;rw [D.tot la] at kt;have en:nrm m a (aw m) (aW (aa m))=_:=D.norm a;rw [en] at kn;have s08:=s07.trans s8;have hg8:=s08 _ _ hg;walk_at "rx";refine md ?_;walk_at "rx";refine aG ?_;walk_at "rx";refine ⟨g,dx,_,rfl,hg8,rfl,?_⟩;walk_at "rx";refine ⟨_,_,_,_,rfl,aE kt,oK,by rw [cR,bw d1];omega,fun H9 s9=>?_⟩
  rw [if_pos ow];walk_at "rx";refine aG ?_;walk_at "rx";refine ⟨g,dx,_,rfl,s9 _ _ hg8,rfl,?_⟩;walk_at "rx";refine ⟨_,_,_,_,rfl,aE (s9 _ _ kn),oK,by rw [cR,bw d1];omega,fun H10 s10=>?_⟩
  rw [if_pos ow];walk_at "rx";refine ⟨small (by show 2≤1000;decide),fun u hu=>?_⟩
  exact q u _ _ _ ((s08.trans (s9.trans s10)).trans (aD hu _)) ai rfl
end
section
variable {P:Program} {w:World} {K:PySem.W.Frag} {mg:Str→Option Value} {base:Heap}
theorem n9 {a b:List Int} {d:Nat} (h1:a.length=d) (h2:b.length=d):(List.zipWith (fun x y=>x+y) a b).length=d:=by rw [List.length_zipWith,h1,h2,Nat.min_self]
def nU (C:Addr) (K:PySem.W.Frag):Sp:=fun vs H Q _=>∃ (g:Addr) (v u:V) (m i j:Nat) (a b:List Int),vs=[.ref g,v,u,.int (i:Int),.int (-(j:Int))]∧dt C H g m∧m∈b3∧At K H v a∧At K H u b∧a.length=aa m∧b.length=aa m∧Bnd 100 a∧Bnd 100 b∧i∈aw m∧j∈aw m∧∀ H',ar H H'→Q (.bl true) H'
theorem nY (T:Txt K mg):aK P w K mg base CX0 6 T.ez.f T.ez.fd ["_law_wheel","_law_one","_law_other","_law_i","_law_j"] (nU T.aC K):=by
 refine T.ez.ok fu (fun vs H Q E h=>?_) (fun cdv A outer s H vs Q E hr h=>?_)
 ·obtain ⟨g,v,u,m,i,j,a,b,rfl,_⟩:=h;rfl
 obtain ⟨g,v,u,m,i,j,a,b,rfl,hW,hm,hv,hu,la,lb,hA,hB,hi,hj,q⟩:=h;have D:=eO hm;obtain ⟨_,d8,m1,m2,neg⟩:=gS m hm;have d1:=D.w.d1;have W:=D.w.W;obtain ⟨dx,rr,hg,_⟩:=id hW;have ci:oV m (i:Int):=dJ (by rw [Int.natAbs_natCast];exact eY hi)
 have il:i≤m:=by
  have:=(List.mem_filter.mp hi).1;obtain ⟨x,hx,rfl⟩:=List.mem_map.mp this;have:=List.mem_range.mp hx;omega
 have jl:j≤m:=by
  have:=(List.mem_filter.mp hj).1;obtain ⟨x,hx,rfl⟩:=List.mem_map.mp this;have:=List.mem_range.mp hx;omega
 have lz:(List.zipWith (fun x y=>x+y) a b).length=aa m:=n9 la lb;have lp:∀ J c,(ap m J c).length=aa m:=fun J c=>cu;have ey:∀ c,aO m (aX m (i:Int) 0 c)=ap m i c:=fun c=>D.w.lay (i:Int) rfl c;have bp:∀ c,c.length=aa m→Bnd 100 c→iK (ap m i c):=fun c lc hc=>b8 (iW (J:=i) (i4 hm) (by omega) hc) (by omega)
 refine ⟨_,(ah (aI (i:=5) fu.nd rfl (Or.inl rfl) (aB (pv 0) T.au T.bT (bN T) (hr.mono (by decide)) T.bU (paF (pv 1) (paF (pv 2) ae))))
   (ah (bQ (a7 (fH K rfl Int hr.units) (aB (pv 0) T.au T.aU (aN T) (hr.mono (by decide)) T.aT (paF (pv 5) (paF (pv 3) ae))) (aB (pv 0) T.au T.bT (bN T) (hr.mono (by decide)) T.bU (paF (aB (pv 0) T.au T.aU (aN T) (hr.mono (by decide)) T.aT (paF (pv 1) (paF (pv 3) ae))) (paF (aB (pv 0) T.au T.aU (aN T) (hr.mono (by decide)) T.aT (paF (pv 2) (paF (pv 3) ae))) ae))) (aV _)) (aq (aJ e8)) bj)
   (ah (aI (i:=6) fu.nd rfl (Or.inl rfl) (aB (pv 0) T.au T.cG (cm T) (hr.mono (by decide)) T.cD (paF (aB (pv 0) T.au T.aU (aN T) (hr.mono (by decide)) T.aT (paF (pv 1) (paF (pv 3) ae))) (paF (aB (pv 0) T.au T.aU (aN T) (hr.mono (by decide)) T.aT (paF (pv 2) (paF (pv 3) ae))) ae))))
   (ah (bQ (a7 (fH K rfl Int hr.units) (aB (pv 0) T.au T.aU (aN T) (hr.mono (by decide)) T.aT (paF (aB (pv 0) T.au T.cG (cm T) (hr.mono (by decide)) T.cD (paF (pv 1) (paF (pv 2) ae))) (paF (pv 3) ae))) (pv 6) (aV _)) (aq (aJ e8)) bj)
   (ah (bQ (PW.pt (mi (a7 (fH K rfl Int hr.units) (aB (pv 0) T.au T.aU (aN T) (hr.mono (by decide)) T.aT (paF (pv 1) (paF ak ae))) (pv 1) (aV _)) (mY (a7 (fH K rfl Int hr.units) (aB (pv 0) T.au T.aU (aN T) (hr.mono (by decide)) T.aT (paF (pv 1) (paF (av dv ak ak) ae))) (aB (pv 0) T.au T.kr (jw T) (hr.mono (by decide)) T.jZ (paF (pv 1) ae)) (aV _))))) (aq (aJ e8)) bj)
   (aq (aJ (eG (j9 K rfl Int hr.units) (aB (pv 0) T.au T.aU (aN T) (hr.mono (by decide)) T.aT (paF (aB (pv 0) T.au T.aU (aN T) (hr.mono (by decide)) T.aT (paF (pv 1) (paF (pv 3) ae))) (paF (pv 4) ae))) (aB (pv 0) T.au T.aU (aN T) (hr.mono (by decide)) T.aT (paF (pv 1) (paF (av dR (pv 3) (pv 4)) ae))) (aV _))))))))),?_⟩
 walk_at "rx";refine aG ?_;walk_at "rx";refine ⟨g,dx,_,rfl,hg,rfl,?_⟩;walk_at "rx";refine ⟨g,_,_,m,a,b,rfl,hW,m1,m2,W,hv,hu,by omega,by omega,b8 hA (by omega),b8 hB (by omega),fun p1 H1 f1 s1 k1=>?_⟩
 walk_at "1";refine aG ?_;walk_at "rx";refine ⟨g,dx,_,rfl,s1 _ _ hg,rfl,?_⟩;walk_at "rx";refine ⟨g,_,_,m,_,rfl,hW.mono s1,m1,m2,W,aE k1,by rw [show aO m (bh m a b)=mu m a b from rfl,D.w.bW];omega,ci,fun p2 H2 f2 s2 k2=>?_⟩
 rw [ey,show aO m (bh m a b)=mu m a b from rfl,(D.hom i hi).lP] at k2;have t2:=s1.trans s2;walk_at "rx";refine aG ?_;walk_at "rx";refine ⟨g,dx,_,rfl,t2 _ _ hg,rfl,?_⟩;walk_at "4";refine aG ?_;walk_at "rx";refine ⟨g,dx,_,rfl,t2 _ _ hg,rfl,?_⟩;walk_at "rx";refine ⟨g,_,_,m,a,rfl,hW.mono t2,m1,m2,W,Rep.mono t2 hv,by omega,ci,fun p3 H3 f3 s3 k3=>?_⟩
 rw [ey] at k3;have t3:=t2.trans s3;walk_at "rx";refine aG ?_;walk_at "rx";refine ⟨g,dx,_,rfl,t3 _ _ hg,rfl,?_⟩;walk_at "rx";refine ⟨g,_,_,m,b,rfl,hW.mono t3,m1,m2,W,Rep.mono t3 hu,by omega,ci,fun p4 H4 f4 s4 k4=>?_⟩
 rw [ey] at k4;have t4:=t3.trans s4;walk_at "rx";refine ⟨g,_,_,m,_,_,rfl,hW.mono t4,m1,m2,W,aE (s4 _ _ k3),aE k4,by rw [lp];omega,by rw [lp];omega,bp a la hA,bp b lb hB,fun p5 H5 f5 s5 k5=>?_⟩
 have t5:=t4.trans s5;walk_at "rx";refine i8 (aE ((s3.trans (s4.trans s5)) _ _ k2)) (aE k5) ?_;walk_at "3";refine aG ?_;walk_at "rx";refine ⟨g,dx,_,rfl,t5 _ _ hg,rfl,?_⟩;walk_at "4";refine aG ?_;walk_at "rx";refine ⟨g,dx,_,rfl,t5 _ _ hg,rfl,?_⟩;walk_at "rx";refine ⟨g,_,_,m,a,rfl,hW.mono t5,m1,m2,W,Rep.mono t5 hv,by omega,ci,fun p6 H6 f6 s6 k6=>?_⟩
 rw [ey] at k6;have t6:=t5.trans s6;walk_at "rx";refine aG ?_;walk_at "rx";refine ⟨g,dx,_,rfl,t6 _ _ hg,rfl,?_⟩;walk_at "rx";refine ⟨g,_,_,m,b,rfl,hW.mono t6,m1,m2,W,Rep.mono t6 hu,by omega,ci,fun p7 H7 f7 s7 k7=>?_⟩
 rw [ey] at k7;have t7:=t6.trans s7;walk_at "rx";refine ⟨_,_,_,_,_,rfl,aE (s7 _ _ k6),aE k7,by rw [lp,lp],by rw [lp];omega,fun p8 H8 f8 s8 k8=>?_⟩
 have t8:=t7.trans s8;walk_at "1";refine aG ?_;walk_at "rx";refine ⟨g,dx,_,rfl,t8 _ _ hg,rfl,?_⟩;walk_at "4";refine aG ?_;walk_at "rx";refine ⟨g,dx,_,rfl,t8 _ _ hg,rfl,?_⟩;walk_at "rx";refine ⟨_,_,_,a,b,rfl,Rep.mono t8 hv,Rep.mono t8 hu,by omega,by omega,fun p9 H9 f9 s9 k9=>?_⟩
 have t9:=t8.trans s9;walk_at "rx";refine ⟨g,_,_,m,_,rfl,hW.mono t9,m1,m2,W,aE k9,by rw [show List.zipWith (·+·) a b=List.zipWith (fun x y=>x+y) a b from rfl,lz];omega,ci,fun pa Ha fa sa ka=>?_⟩
 rw [ey,show List.zipWith (·+·) a b=List.zipWith (fun x y=>x+y) a b from rfl,oq (by omega)] at ka
 have ta:=t9.trans sa;walk_at "rx";refine i8 (aE ka) (aE ((s9.trans sa) _ _ k8)) ?_;walk_at "rx";refine fG (fun c=>absurd rfl c) (fun _=>?_);walk_at "1";refine aG ?_;walk_at "rx";refine ⟨g,dx,_,rfl,ta _ _ hg,rfl,?_⟩;walk_at "rx";refine ⟨g,_,_,m,a,rfl,hW.mono ta,m1,m2,W,Rep.mono ta hv,by omega,dJ (Nat.gcd_one_right m),fun pb Hb fb sb kb=>?_⟩
 rw [D.w.lay ((1:Nat):Int) (J:=1) rfl a,rl la] at kb;have tb':=ta.trans sb;walk_at "rx";refine i8 (aE kb) (Rep.mono tb' hv) ?_;walk_at "3";refine aG ?_;walk_at "rx";refine ⟨g,dx,_,rfl,tb' _ _ hg,rfl,?_⟩;walk_at "rx";refine ⟨g,_,_,m,a,rfl,hW.mono tb',m1,m2,W,Rep.mono tb' hv,by omega,dJ (Nat.gcd_one_right m),fun pc Hc fc sc kc=>?_⟩
 have tc:=tb'.trans sc;walk_at "rx";refine aG ?_;walk_at "rx";refine ⟨g,dx,_,rfl,tc _ _ hg,rfl,?_⟩;walk_at "rx";refine ⟨g,_,m,a,rfl,hW.mono tc,m1,m2,W,Rep.mono tc hv,by omega,fun pd Hd fd sd kd=>?_⟩
 have td:=tc.trans sd;walk_at "rx";rw [show ((0:Nat):Int) - ((1:Nat):Int)=-1 by decide] at kc
 refine i8 (aE (sd _ _ kc)) (aE kd) ?_;walk_at "3";refine aG ?_;walk_at "rx";refine ⟨g,dx,_,rfl,td _ _ hg,rfl,?_⟩;walk_at "4";refine aG ?_;walk_at "rx";refine ⟨g,dx,_,rfl,td _ _ hg,rfl,?_⟩;walk_at "rx";refine ⟨g,_,_,m,a,rfl,hW.mono td,m1,m2,W,Rep.mono td hv,by omega,ci,fun pe He fe se ke=>?_⟩
 rw [ey] at ke;have te:=td.trans se;walk_at "rx";have gj:=eY hj;have jm:=Nat.mod_lt j (show 0<m by omega)
 have ej:((m - j % m:Nat):Int) % m=-(j:Int) % m:=by
  have e0:=Nat.div_add_mod j m;have e1:((m - j % m:Nat):Int) - -(j:Int)=((m * (1+j / m):Nat):Int):=by rw [Nat.mul_add,Nat.mul_one];omega
  refine Int.emod_eq_emod_iff_emod_sub_eq_zero.mpr ?_;rw [e1,Int.natCast_mul];exact Int.mul_emod_right _ _
 refine ⟨g,_,_,m,_,rfl,hW.mono te,m1,m2,W,aE ke,by rw [lp];omega,dJ (by rw [Int.natAbs_neg,Int.natAbs_natCast];exact gj),fun pf Hf ff sf kf=>?_⟩
 rw [D.w.lay (-(j:Int)) (J:=m - j % m) ej,(vH hm (neg j hj) rfl).pj] at kf;have tf:=te.trans sf;walk_at "rx";refine aG ?_;walk_at "rx";refine ⟨g,dx,_,rfl,tf _ _ hg,rfl,?_⟩;walk_at "rx";refine iD (.inl ⟨by omega,by omega⟩) ?_
 walk_at "rx";refine ⟨g,_,_,m,a,rfl,hW.mono tf,m1,m2,W,Rep.mono tf hv,by omega,dJ (by rw [Int.natAbs_mul,Int.natAbs_neg,Int.natAbs_natCast,Int.natAbs_natCast];exact Nat.Coprime.mul_right (eY hi) gj),fun ph Hh fh sh kh=>?_⟩
 rw [D.w.lay ((i:Int) * -(j:Int)) (J:=(m - j % m) * i) (by rw [Int.natCast_mul,Int.mul_comm,Int.mul_emod,ej,← Int.mul_emod])] at kh
 walk_at "rx";refine pQ (aE (sh _ _ kf)) (aE kh) ?_;walk_at "rx";rw [decide_eq_true rfl];exact q Hh (tf.trans sh)
def kD (C:Addr) (K:PySem.W.Frag):Sp:=fun vs H Q _=>∃ (g:Addr) (v u:V) (m n:Nat) (a b:List Int),vs=[.ref g,v,u,.int (n:Int)]∧dt C H g m∧m∈b3∧At K H v a∧At K H u b∧a.length=aa m∧b.length=aa m∧Bnd 100 a∧Bnd 100 b∧1≤n∧m * n≤60∧∀ H',ar H H'→Q (.bl true) H'
theorem ko (T:Txt K mg):aK P w K mg base CX0 8 T.cW.f T.cW.fd ["_law_wheel","_law_one","_law_other","_law_by"] (kD T.aC K):=by
 refine T.cW.ok cL (fun vs H Q E h=>?_) (fun cdv A outer s H vs Q E hr h=>?_)
 ·obtain ⟨g,v,u,m,n,a,b,rfl,_⟩:=h;rfl
 obtain ⟨g,v,u,m,n,a,b,rfl,hW,hm,hv,hu,la,lb,hA,hB,n1,mn,q⟩:=h;have D:=eO hm;obtain ⟨_,d8,m1,m2,_⟩:=gS m hm;have d1:=D.w.d1;have W:=D.w.W;have O:=tH hm n1 mn;have mb1:1≤m * n:=O.b.m1;have n60:n≤60:=Nat.le_trans (Nat.le_mul_of_pos_left n (by omega)) mn
 have okm:=(fg (m * n) (by omega)).resolve_left (by omega)
 have dM:=O.b.dm;obtain ⟨dx,rr,hg,_⟩:=id hW;have lz:(List.zipWith (fun x y=>x+y) a b).length=aa m:=n9 la lb;have lp:∀ J c,(ap (m * n) J c).length=aa (m * n):=fun J c=>cu;have ey:∀ c,aO (m * n) (aX (m * n) (n:Int) 0 c)=ap (m * n) n c:=fun c=>O.b.lay (n:Int) rfl c;have bp:∀ c,c.length=aa m→Bnd 100 c→iK (ap (m * n) n c):=fun c lc hc=>b8 (iW (J:=n) (O.b.AG mn) (by omega) hc) (by omega)
 refine ⟨_,(ah (aI (i:=4) cL.nd rfl (Or.inl rfl) (iS T.j7 (iV T) (hr.mono (by decide)) rfl T.jT T.kF .nil jN (paF (av dR (cw K rfl (pv 0) rfl) (pv 3)) ae)))
   (ah (aI (i:=5) cL.nd rfl (Or.inl rfl) (aB (pv 0) T.au T.cX (cK T) (hr.mono (by decide)) T.cY (paF (pv 1) (paF (pv 3) ae))))
   (ah (aI (i:=6) cL.nd rfl (Or.inl rfl) (aB (pv 0) T.au T.cX (cK T) (hr.mono (by decide)) T.cY (paF (pv 2) (paF (pv 3) ae))))
   (ah (bQ (a7 (fH K rfl Int hr.units) (aB (pv 0) T.au T.cX (cK T) (hr.mono (by decide)) T.cY (paF (aB (pv 0) T.au T.bT (bN T) (hr.mono (by decide)) T.bU (paF (pv 1) (paF (pv 2) ae))) (paF (pv 3) ae))) (aB (pv 4) T.au T.bT (bN T) (hr.mono (by decide)) T.bU (paF (pv 5) (paF (pv 6) ae))) (aV _)) (aq (aJ e8)) bj)
   (aq (aJ (eG (j9 K rfl Int hr.units) (aB (pv 0) T.au T.cX (cK T) (hr.mono (by decide)) T.cY (paF (aB (pv 0) T.au T.cG (cm T) (hr.mono (by decide)) T.cD (paF (pv 1) (paF (pv 2) ae))) (paF (pv 3) ae))) (aB (pv 4) T.au T.cG (cm T) (hr.mono (by decide)) T.cD (paF (pv 5) (paF (pv 6) ae))) (aV _)))))))),?_⟩
 walk_at "rx";refine ⟨g,T.aC,dx,_,_,rfl,hg,T.au,T.bt,rfl,?_⟩;walk_at "rx";intro x1 dx1 hx1 hdx1 hne1;refine ⟨x1,dx1,m * n,rfl,ai,mb1,mn,okm.1,fun r1 H1 fr1 hg1 hr1 k1=>⟨rfl,?_⟩⟩;have s1:ar H H1:=fun c o z=>k1 c o (by rw [ag (ao z hx1),ag (ao z hdx1)];exact z) (ao z hx1)
 have hW1:dt T.aC H1 x1 (m * n):=⟨dx1,r1,hg1,hr1⟩;walk_at "rx";refine aG ?_;walk_at "rx";refine ⟨g,dx,_,rfl,s1 _ _ hg,rfl,?_⟩;walk_at "rx";refine ⟨g,_,n,m,a,rfl,hW.mono s1,m1,n1,n60,mn,Rep.mono s1 hv,by omega,fun p2 H2 f2 s2 k2=>?_⟩
 rw [ey] at k2;have t2:=s1.trans s2;walk_at "rx";refine aG ?_;walk_at "rx";refine ⟨g,dx,_,rfl,t2 _ _ hg,rfl,?_⟩;walk_at "rx";refine ⟨g,_,n,m,b,rfl,hW.mono t2,m1,n1,n60,mn,Rep.mono t2 hu,by omega,fun p3 H3 f3 s3 k3=>?_⟩
 rw [ey] at k3;have t3:=t2.trans s3;walk_at "1";refine aG ?_;walk_at "rx";refine ⟨g,dx,_,rfl,t3 _ _ hg,rfl,?_⟩;walk_at "4";refine aG ?_;walk_at "rx";refine ⟨g,dx,_,rfl,t3 _ _ hg,rfl,?_⟩;walk_at "rx";refine ⟨g,_,_,m,a,b,rfl,hW.mono t3,m1,m2,W,Rep.mono t3 hv,Rep.mono t3 hu,by omega,by omega,b8 hA (by omega),b8 hB (by omega),fun p4 H4 f4 s4 k4=>?_⟩
 have t4:=t3.trans s4;walk_at "rx";refine ⟨g,_,n,m,_,rfl,hW.mono t4,m1,n1,n60,mn,aE k4,by rw [show aO m (bh m a b)=mu m a b from rfl,D.w.bW];omega,fun p5 H5 f5 s5 k5=>?_⟩
 rw [ey,show aO m (bh m a b)=mu m a b from rfl,O.lP] at k5;have u5:=s2.trans (s3.trans (s4.trans s5));walk_at "rx";refine aG ?_;walk_at "rx";refine ⟨x1,dx1,_,rfl,u5 _ _ hg1,rfl,?_⟩;walk_at "rx";refine ⟨x1,_,_,m * n,_,_,rfl,hW1.mono u5,mb1,mn,O.b.W,aE ((s3.trans (s4.trans s5)) _ _ k2),aE ((s4.trans s5) _ _ k3),by rw [lp];omega,by rw [lp];omega,bp a la hA,bp b lb hB,fun p6 H6 f6 s6 k6=>?_⟩
 have t6:=(t4.trans s5).trans s6;walk_at "rx";refine i8 (aE (s6 _ _ k5)) (aE k6) ?_;walk_at "3";refine aG ?_;walk_at "rx";refine ⟨g,dx,_,rfl,t6 _ _ hg,rfl,?_⟩;walk_at "4";refine aG ?_;walk_at "rx";refine ⟨g,dx,_,rfl,t6 _ _ hg,rfl,?_⟩;walk_at "rx";refine ⟨_,_,_,a,b,rfl,Rep.mono t6 hv,Rep.mono t6 hu,by omega,by omega,fun p7 H7 f7 s7 k7=>?_⟩
 have t7:=t6.trans s7;walk_at "rx";refine ⟨g,_,n,m,_,rfl,hW.mono t7,m1,n1,n60,mn,aE k7,by rw [show List.zipWith (·+·) a b=List.zipWith (fun x y=>x+y) a b from rfl,lz];omega,fun p8 H8 f8 s8 k8=>?_⟩
 rw [ey,show List.zipWith (·+·) a b=List.zipWith (fun x y=>x+y) a b from rfl,oq (by omega)] at k8
 have u8:=u5.trans (s6.trans (s7.trans s8));walk_at "rx";refine aG ?_;walk_at "rx";refine ⟨x1,dx1,_,rfl,u8 _ _ hg1,rfl,?_⟩;walk_at "rx";refine ⟨_,_,_,_,_,rfl,aE ((s3.trans (s4.trans (s5.trans (s6.trans (s7.trans s8))))) _ _ k2),aE ((s4.trans (s5.trans (s6.trans (s7.trans s8)))) _ _ k3),by rw [lp,lp],by rw [lp];omega,fun p9 H9 f9 s9 k9=>?_⟩
 walk_at "rx";refine pQ (aE (s9 _ _ k8)) (aE k9) ?_;walk_at "rx";rw [show (List.zipWith (·+·) (ap (m * n) n a) (ap (m * n) n b))=List.zipWith (fun x y=>x+y) (ap (m * n) n a) (ap (m * n) n b) from rfl,decide_eq_true rfl];exact q H9 ((t7.trans s8).trans s9)
end
section
variable {P:Program} {w:World} {K:PySem.W.Frag} {mg:Str→Option Value} {base:Heap}
theorem mz {A:Nat} {l:List Int} {z:Int} (h:Bnd A l) (hz:z.natAbs<2 ^ A):Bnd A (l++[z]):=fun x hx=>by
 rcases List.mem_append.mp hx with h1|h1
 ·exact h x h1
 ·rw [List.mem_singleton.mp h1];exact Nat.le_of_lt hz
theorem xS {σ:St} {H:Hp} {Q:St→Hp→Prop} {i j:Nat} {a:Addr} {x y:V} (h:H a=some (.tup [x,y])) (q:Q ((σ.set i (some x)).set j (some y)) H):kA K 2 (c9 (cg i) (c9 (cg j) j8)) (.ref a) σ H Q :=
 ⟨a,_,rfl,SqT.of h,rfl,_,_,rfl,_,_,rfl,rfl,q⟩
def lX (K:PySem.W.Frag):Sp:=fun vs H Q _=>∃ (a:Addr) (ns:List Int),vs=[.ref a]∧SqL K H a (ns.map V.int)∧ns.length≤63∧∀ H',Q (.bl true) H'
theorem x8 (T:Txt K mg):aK P w K mg base CX0 12 T.g4.f T.g4.fd ["_law_script"] (lX K):=by
 refine T.g4.ok b7 (fun vs H Q E h=>?_) (fun cdv A outer s H vs Q E hr h=>?_)
 ·obtain ⟨a,ns,rfl,_⟩:=h;rfl
 obtain ⟨a,ns,rfl,hS,h63,q⟩:=h;have hA:At K H (.ref a) ns:=⟨a,_,rfl,hS,o9⟩;refine ⟨_,(ah (aI (i:=1) b7.nd rfl (Or.inl rfl) (bo T.fV (rf T) (hr.mono (by decide)) rfl (paF (pv 0) (paF ak ae))))
   (ah (aI (i:=2) b7.nd rfl (Or.inl rfl) (cE (sO [1,2,3,4,5,6,7,8,9,10,12,14,15,16,18,20,24,30] (by decide +kernel)).out))
   (ah (aI (i:=3) b7.nd rfl (Or.inl rfl) (cz (bY K rfl) (pv 2) (av bM (pv 1) ak) (fun _ _=>rfl)))
   (ah (aI (i:=4) b7.nd rfl (Or.inl rfl) (iS T.j7 (iV T) (hr.mono (by decide)) rfl T.jT T.kF .nil jN (paF (pv 3) ae)))
   (ah (aI (i:=5) b7.nd rfl (Or.inr rfl) (cw K rfl (pv 4) rfl))
   (ah (bQ (a7 pS (pv 5) (bb (bB K rfl) rfl T.cT PySem.boot_len (paF (bo T.bX (dA T) (hr.mono (by decide)) rfl (paF (pv 3) ae)) ae)) (aV _)) (aq (aJ e8)) bj)
   (ah (i3 (i:=6) rfl b7.nd rfl (Or.inl rfl) m9 (fY rfl T.eF (paF (pv 5) ae)) (fun _ _ _ _=>⟨(bf (i:=0) m9.nd rfl (Or.inl rfl)),ic,(bo T.cB (gx T) (hr.mono (by decide)) rfl (paF (iR (iT K rfl) (pv 1) (fz ak) (fz ak)) (paF (pv 0) ae)))⟩) rfl)
   (ah (i3 (i:=7) rfl b7.nd rfl (Or.inl rfl) m3 (fY rfl T.eF (paF (pv 5) ae)) (fun _ _ _ _=>⟨(bf (i:=0) m3.nd rfl (Or.inl rfl)),ic,(bo T.cB (gx T) (hr.mono (by decide)) rfl (paF (iR (iT K rfl) (pv 1) (fz ak) (fz ak)) (paF (av bH (pv 2) (av dR ak (pv 0))) ae)))⟩) rfl)
   (ah (aI (i:=8) b7.nd rfl (Or.inl rfl) (cz (bY K rfl) (bo T.bX (dA T) (hr.mono (by decide)) rfl (paF (pv 3) ae)) (av bM (av fC (pv 1) ak) (pv 5)) (fun _ _=>rfl)))
   (ah (aI (i:=9) b7.nd rfl (Or.inl rfl) (av dv ak (cz (bY K rfl) (bo T.bX (dA T) (hr.mono (by decide)) rfl (paF (pv 3) ae)) (av bM (av fC (pv 1) ak) (pv 5)) (fun _ _=>rfl))))
   (ah (bQ (ja (gH (bo T.ez (nY T) (hr.mono (by decide)) rfl (paF (pv 4) (paF (pv 6) (paF (pv 7) (paF (pv 8) (paF (pv 9) ae)))))))) (aq (aJ e8)) bj)
   (ah (bQ (ja (gH (bo T.cW (ko T) (hr.mono (by decide)) rfl (paF (pv 4) (paF (pv 6) (paF (pv 7) (paF (av bH ak (av bM (av fC (pv 1) ak) (av fC ak (pv 3)))) ae))))))) (aq (aJ e8)) bj)
   (ah (jJ (bo T.bJ (c4 T) (hr.mono (by decide)) rfl (paF (pv 4) (paF (pv 6) ae))) (gU rfl (b2 (bf (i:=10) b7.nd rfl (Or.inl rfl)) (b2 (bf (i:=11) b7.nd rfl (Or.inl rfl)) fB))))
   (ah (bQ (PW.pt (mi (ja (gH (bo T.cx (eT T) (hr.mono (by decide)) rfl (paF (pv 10) ae)))) (mi (ja (gH (bo T.cx (eT T) (hr.mono (by decide)) rfl (paF (pv 11) ae)))) (mY (a7 pS (eG dz (pv 11) ak (aV _)) (eG (j9 K rfl Int hr.units) (pv 6) (av fM (cE (paF ak ae)) (pv 5)) (aV _)) (aV _)))))) (aq (aJ e8)) bj)
   (ah (aI (i:=12) b7.nd rfl (Or.inl rfl) (cz (ig K rfl) (bo T.bJ (c4 T) (hr.mono (by decide)) rfl (paF (pv 4) (paF (pv 7) ae))) ak (fun _ _=>rfl)))
   (aq (aJ (rW (bo T.cx (eT T) (hr.mono (by decide)) rfl (paF (pv 12) ae)) (rg (eG dz (cz (ig K rfl) (bo T.bJ (c4 T) (hr.mono (by decide)) rfl (paF (pv 4) (paF (aB (pv 4) T.au T.bT (bN T) (hr.mono (by decide)) T.bU (paF (pv 6) (paF (pv 7) ae))) ae))) ak (fun _ _=>rfl)) (av oN (pv 11) (pv 12)) (aV _))))))))))))))))))))),?_⟩
 walk_at "rx";refine ⟨_,ns,0,rfl,hA,fun z0=>?_⟩;walk_at "rx";refine u0 (K:=K) (l:=b3) (og b3) (by decide) fun d0 H0 _ s0 g0=>?_
 have hA0:=Rep.mono s0 hA;walk_at "rx";refine cI (by decide) ?_
 have hz0:=Int.emod_nonneg z0 (show ((18:Nat):Int)≠0 by decide)
 have hz1:=Int.emod_lt_of_pos z0 (show (0:Int)<((18:Nat):Int) by decide)
 walk_at "rx";have hlt:(z0 % ((18:Nat):Int)).toNat<b3.length:=by show _<18;omega
 refine Au g0.at (show z0 % ((18:Nat):Int)=(((z0 % ((18:Nat):Int)).toNat:Nat):Int) by omega) (List.getElem?_eq_getElem hlt) ?_
 have hm:b3[(z0 % ((18:Nat):Int)).toNat]∈b3:=List.getElem_mem hlt;generalize b3[(z0 % ((18:Nat):Int)).toNat]=m at hm;have D:=eO hm;obtain ⟨_,d8,m1,m2,_⟩:=gS m hm;have d1:=D.w.d1;have W:=D.w.W;have okm:=(fg m (by omega)).resolve_left (by omega)
 have ml:(eK m).length=aa m:=by unfold eK;rw [List.length_map];exact D.len
 walk_at "rx";intro g dx hx1 hdx1 hne1;refine ⟨g,dx,m,rfl,ai,m1,m2,okm.1,fun r1 H1 fr1 hg1 hr1 k1=>⟨rfl,?_⟩⟩;have s1:ar H0 H1:=fun c o z=>k1 c o (by rw [ag (ao z hx1),ag (ao z hdx1)];exact z) (ao z hx1)
 have hW1:dt T.aC H1 g m:=⟨dx,r1,hg1,hr1⟩;have hA1:=Rep.mono s1 hA0
 clear k1
 walk_at "rx";refine ⟨g,T.aC,dx,_,_,rfl,hg1,T.au,T.gL,rfl,?_⟩;rw [show (aQ m).length - 1=aa m by rw [W.len];rfl]
 walk_at "1";refine ⟨m,rfl,m2,fun p2 H2 f2 s2 k2=>?_⟩;have hA2:=Rep.mono s2 hA1;have hp2:=aE (K:=K) k2;walk_at "rx";rw [ml];refine fG (fun c=>absurd rfl c) (fun _=>?_);walk_at "rx";refine jM (n:=aa m) rfl (by omega) (fun d i σ' H' ys=>ar H2 H'∧∃ (x:Option V) (l:List Int),ys=zsV l∧l.length=i∧Bnd 100 l∧σ'=[x,some (.ref a)])
  (fun d i σ' H' ys hi ⟨_,x,l,e,e2,_⟩=>by rw [e];unfold zsV;rw [List.length_map,e2];exact Nat.le_refl _) (fun d hd=>⟨aD hd _,_,[],rfl,rfl,fun x hx=>absurd hx (List.not_mem_nil),rfl⟩) ?_ ?_
 ·rintro d i σ' H3 ys R R0 hd hi ⟨s3,x,l,rfl,hl,sl,rfl⟩ hys hR hR0;have hA3:=Rep.mono s3 hA2;walk_at "rx";refine jY hA3 fun p H4 s4 hp a4=>?_;walk_at "rx";refine ⟨_,_,i,rfl,a4,by unfold cut;simp;omega,by omega,fun z hz=>?_⟩
  refine hR _ _ _ (s4 _ _ hys) ⟨fun b o zz=>by rw [ag (ao zz hd)];exact s4 _ _ (s3 _ _ zz),_,l++[z],?_,by rw [List.length_append,hl];rfl,mz sl hz,rfl⟩
  unfold zsV;rw [List.map_append];rfl
 rintro c1 σ1 H3 ys fc1 hc1 ⟨s3,x,l1,rfl,hl1,sl1,rfl⟩;have hA3:=Rep.mono s3 hA2;walk_at "rx";refine jM (n:=aa m) rfl (by omega) (fun d i σ' H' ys=>ar H3 H'∧∃ (x:Option V) (l:List Int),ys=zsV l∧l.length=i∧Bnd 100 l∧σ'=[x,some (.ref a),some (.int (aa m:Int))])
  (fun d i σ' H' ys hi ⟨_,x,l,e,e2,_⟩=>by rw [e];unfold zsV;rw [List.length_map,e2];exact Nat.le_refl _) (fun d hd=>⟨aD hd _,_,[],rfl,rfl,fun x hx=>absurd hx (List.not_mem_nil),rfl⟩) ?_ ?_
 ·rintro d i σ' H4 ys R R0 hd hi ⟨s4,x,l,rfl,hl,sl,rfl⟩ hys hR hR0;have hA4:=Rep.mono s4 hA3;walk_at "rx";refine jY hA4 fun p H5 s5 hp a5=>?_;walk_at "rx";refine ⟨_,_,aa m+3 * i,rfl,a5,by unfold cut;simp;omega,by omega,fun z hz=>?_⟩
  refine hR _ _ _ (s5 _ _ hys) ⟨fun b o zz=>by rw [ag (ao zz hd)];exact s5 _ _ (s4 _ _ zz),_,l++[z],?_,by rw [List.length_append,hl];rfl,mz sl hz,rfl⟩
  unfold zsV;rw [List.map_append];rfl
 rintro c2 σ2 H4 ys fc2 hc2 ⟨s4,x',l2,rfl,hl2,sl2,rfl⟩;have one4:=s4 _ _ hc1;have t4:=s2.trans (s3.trans s4);have hW4:=hW1.mono t4;have hg4:=t4 _ _ hg1
 clear hA0 hA1 hA2 hA3 g0 hW1 hg1 hr1 hp2 k2
 have mget:∀ z:Int,∃ j:Nat,j∈aw m∧(eK m)[(z % ((aa m:Nat):Int)).toNat]?=some (j:Int):=fun z=>by
  have h1:=Int.emod_nonneg z (show ((aa m:Nat):Int)≠0 by omega)
  have h2:=Int.emod_lt_of_pos z (show (0:Int)<((aa m:Nat):Int) by omega)
  have h3:(z % ((aa m:Nat):Int)).toNat<(aw m).length:=by rw [D.len];omega
  refine ⟨_,List.getElem_mem h3,?_⟩;unfold eK;rw [List.getElem?_map,List.getElem?_eq_getElem h3];rfl
 walk_at "rx";refine ⟨m,rfl,m2,fun p5 H5 f5 s5 k5=>?_⟩;walk_at "rx";refine i7 (by decide) (by decide) ?_
 walk_at "rx";refine cI (by omega) ?_
 walk_at "rx";obtain ⟨i,hi,ei⟩:=mget (z0 / ((18:Nat):Int));have hi0:=Int.emod_nonneg (z0 / ((18:Nat):Int)) (show ((aa m:Nat):Int)≠0 by omega)
 refine g6 (aE k5) (show z0 / ((18:Nat):Int) % ((aa m:Nat):Int)=(((z0 / ((18:Nat):Int) % ((aa m:Nat):Int)).toNat:Nat):Int) by omega) ei ?_
 walk_at "rx";refine ⟨m,rfl,m2,fun p6 H6 f6 s6 k6=>?_⟩;walk_at "rx";refine i7 (by decide) (by decide) ?_
 walk_at "rx";refine cI (by omega) ?_
 walk_at "rx";obtain ⟨j,hj,ej⟩:=mget (z0 / ((144:Nat):Int));have hj0:=Int.emod_nonneg (z0 / ((144:Nat):Int)) (show ((aa m:Nat):Int)≠0 by omega)
 refine g6 (aE k6) (show z0 / ((144:Nat):Int) % ((aa m:Nat):Int)=(((z0 / ((144:Nat):Int) % ((aa m:Nat):Int)).toNat:Nat):Int) by omega) ej ?_
 walk_at "rx";rw [show ((0:Nat):Int) - (j:Int)=-(j:Int) by omega]
 have t6:=s5.trans s6;have one6:=t6 _ _ one4;have oth6:=t6 _ _ hc2;have hW6:=hW4.mono t6;have hg6:=t6 _ _ hg4
 clear one4 hc2 hW4 hg4 k5 k6
 walk_at "1";refine ⟨g,_,_,m,i,j,l1,l2,rfl,hW6,hm,aE one6,aE oth6,hl1,hl2,sl1,sl2,hi,hj,fun H7 s7=>?_⟩;walk_at "5";walk_at "1";refine i7 (by decide) (by decide) ?_
 walk_at "rx";have q1:1≤60 / m:=(Nat.le_div_iff_mul_le (by omega)).mpr (by omega)
 have q2:m * (60 / m)≤60:=Nat.mul_div_le 60 m;generalize 60 / m=wd at q1 q2;refine cI (by omega) ?_
 have hw0:=Int.emod_nonneg (z0 / ((1152:Nat):Int)) (show ((wd:Nat):Int)≠0 by omega)
 have hw1:=Int.emod_lt_of_pos (z0 / ((1152:Nat):Int)) (show (0:Int)<((wd:Nat):Int) by omega)
 generalize z0 / ((1152:Nat):Int) % ((wd:Nat):Int)=zw at hw0 hw1;walk_at "rx";rw [show ((1:Nat):Int)+zw=((1+zw.toNat:Nat):Int) by omega]
 refine ⟨g,_,_,m,1+zw.toNat,l1,l2,rfl,hW6.mono s7,hm,aE (s7 _ _ one6),aE (s7 _ _ oth6),hl1,hl2,sl1,sl2,by omega,Nat.le_trans (Nat.mul_le_mul_left m (by omega)) q2,fun H8 s8=>?_⟩
 walk_at "5";have t8:=s7.trans s8;have one8:=t8 _ _ one6;have oth8:=t8 _ _ oth6;have hW8:=hW6.mono t8;have hg8:=t8 _ _ hg6
 clear one6 oth6 hW6 hg6
 have nb:∀ (A:Nat) (l:List Int),l.length=aa m→Bnd A l→A≤206→((nrm m l (aw m) (aW (aa m))).getD 0 0).natAbs<Bg:=fun A l hl hb hA=>by
  have h1:=j2 D.w d8 (i4 hm) (by omega) hb (aw m) 0 _ (bw d1) n5
  have h2:(aw m).length * (A+9)≤8 * 215:=Nat.mul_le_mul (by rw [D.len];exact d8) (by omega)
  have hln:=hV D.w l (aw m) _ (bw d1);refine b8 h1 (by omega) _ ?_
  rw [List.getD,List.getElem?_eq_getElem (show 0<(nrm m l (aw m) (aW (aa m))).length by rw [hln];omega)]
  exact List.getElem_mem _
 walk_at "rx";refine ⟨g,_,m,100,l1,rfl,hW8,hm,aE one8,hl1,sl1,by omega,fun t9 H9 x9 N1 s9 k9 e1=>?_⟩
 walk_at "rx";refine xS k9 ?_;walk_at "1";refine ⟨x9,rfl,?_⟩;walk_at "5";walk_at "rx";refine ⟨N1,rfl,?_⟩;walk_at "5";walk_at "2";refine ⟨small (by show 1≤1000;decide),fun p10 hp10=>?_⟩
 have s10:=aD hp10 (.lst [.int ((0:Nat):Int)]);have k10:(upd H9 p10 (.lst [.int ((0:Nat):Int)])) p10=some (.lst [.int ((0:Nat):Int)]):=ai;generalize upd H9 p10 (.lst [.int ((0:Nat):Int)])=H10 at s10 k10;walk_at "rx";refine ⟨p10,_,_,rfl,rfl,k10,by omega,by omega,?_,fun p11 hp11=>?_⟩
 ·rw [sizeLine_eq];show 1 * _≤_;omega
 rw [show ((aa m:Nat):Int).toNat=aa m by omega,hU]
 have s11:=aD hp11 (.lst (zsV (List.replicate (aa m) ((0:Nat):Int))));have k11:(upd H10 p11 (.lst (zsV (List.replicate (aa m) ((0:Nat):Int))))) p11=some (.lst (zsV (List.replicate (aa m) 0))):=ai;generalize upd H10 p11 (.lst (zsV (List.replicate (aa m) ((0:Nat):Int))))=H11 at s11 k11;have t11:=s9.trans (s10.trans s11);refine pQ (aE (t11 _ _ one8)) (aE k11) ?_;walk_at "rx";refine zx ?_;have ed:decide (N1=((0:Nat):Int))=decide (l1=List.replicate (aa m) 0):=by
  refine decide_eq_decide.mpr ?_;rw [e1];exact D.iff hl1
 rw [ed,decide_eq_true rfl];walk_at "5";have t12:=t11;have hW12:=hW8.mono t11;walk_at "rx";refine ⟨g,_,m,100,l2,rfl,hW12,hm,aE (t11 _ _ oth8),hl2,sl2,by omega,fun t13 H13 x13 N2 s13 k13 e2=>?_⟩
 walk_at "rx";refine lS k13 rfl ?_;walk_at "rx";have t14:=t11.trans s13;refine ⟨N2,rfl,?_⟩;walk_at "rx";refine aG ?_;walk_at "rx";refine ⟨g,dx,_,rfl,t14 _ _ hg8,rfl,?_⟩;walk_at "rx";refine ⟨g,_,_,m,l1,l2,rfl,hW8.mono t14,m1,m2,W,aE (t14 _ _ one8),aE (t14 _ _ oth8),by omega,by omega,b8 sl1 (by omega),b8 sl2 (by omega),fun p15 H15 f15 s15 k15=>?_⟩
 have lm:(mu m l1 l2).length=aa m:=D.w.bW;walk_at "rx";refine ⟨g,_,m,206,mu m l1 l2,rfl,(hW8.mono t14).mono s15,hm,aE k15,lm,rY D.w (i4 hm) (by omega) (by omega) sl1 sl2,by omega,fun t16 H16 x16 N3 s16 k16 e3=>?_⟩
 walk_at "rx";refine lS k16 rfl ?_;walk_at "rx";refine iD ⟨by rw [e1];exact nb 100 l1 hl1 sl1 (by omega),by rw [e2];exact nb 100 l2 hl2 sl2 (by omega)⟩ ?_
 walk_at "rx";have ef:N3=N1 * N2:=by rw [e1,e2,e3];exact D.mul l1 l2
 rw [ef,decide_eq_true rfl];exact q _
end
theorem va {l:PySem.W.OpenLaw} {w:World} {K:PySem.W.Frag} {mg:Str→Option Value} {fa:Addr} (hfa:mg "law" = some (.ref fa)) (T:Txt K mg) (hb:∀ (s:Shared) (v:Value),BindsTo s T.g4.fd ⟨[v],[]⟩ [("_law_script",v)]) :
  ∃ fd:FuncData,(∀ (s:Shared) (v:Value),BindsTo s fd ⟨[v],[]⟩ [("_law_script",v)])∧∀ base:Heap,K.In base→base.Ns mainGlobals mg→aK l.prog w K mg base CX0 12 fa fd ["_law_script"] (lX K):=by
 refine ⟨T.g4.fd,hb,fun base _ _=>?_⟩;cases hfa.symm.trans T.g4.nm;exact x8 T
theorem walk {l:PySem.W.OpenLaw} {q:Program} {loose:List Str} {XP:(Str→Option Value)→Heap→Prop} {YP:World→Heap→Prop} {d:DefRec} {K:Params→PySem.W.Frag} (hn:l.most=some 63) (hdf:d.params.defaults=[])
  (hY:∀ (w:World) (h:Heap),YP w h→(K w.params).In h)
  (F:∀ (w:World) (mg:Str→Option Value) (fa:Addr) (h:Heap),(K w.params).In h→h.Ns mainGlobals mg→mg d.name=some (.ref fa) →
   ∃ fd:FuncData,(∀ (s:Shared) (u:Value),BindsTo s fd ⟨[u],[]⟩ [("_law_script",u)])∧∀ base:Heap,(K w.params).In base→base.Ns mainGlobals mg→aK l.prog w (K w.params) mg base CX0 12 fa fd ["_law_script"] (lX (K w.params))) :
  PySem.W.WalkO q loose XP YP l.row.toRowW d [] (fun f vs=>PySem.call f vs) :=
 L2.vo (n:=63) (k:=12) (x:="_law_script") (CX:=fun _=>CX0) (sp:=fun w=>lX (K w.params)) hn (by decide) hdf ⟨rfl,by decide,by decide⟩ hY F (fun _ _ a ns hl _ hS=>⟨a,ns,rfl,hS,hl,fun _=>rfl⟩) fun _ _ _ _ _ z=>z
end TB
theorem PySem.W.Fast.tw9267763143662642724 : True := True.intro
theorem PySem.W.Fast.tw2798109230851541817 : True := True.intro
theorem PySem.W.Fast.tw15425956914132852868 : True := True.intro
theorem PySem.W.Fast.tw6459183041451059760 : True := True.intro
theorem PySem.W.Fast.tw16772085412575548318 : True := True.intro
theorem PySem.W.Fast.tw9632649842450323956 : True := True.intro
theorem PySem.W.Fast.tw11291785400936180558 : True := True.intro
theorem PySem.W.Fast.tw3278147374826489375 : True := True.intro
theorem PySem.W.Fast.tw1884839743737760819 : True := True.intro
theorem PySem.W.Fast.tw8615300550550192558 : True := True.intro
theorem PySem.W.Fast.tw15696149752505025110 : True := True.intro
theorem PySem.W.Fast.tw10164418309054102261 : True := True.intro
theorem PySem.W.Fast.tw12870487643438332852 : True := True.intro
theorem PySem.W.Fast.tw2421519906727054315 : True := True.intro
theorem PySem.W.Fast.tw2712567395603687312 : True := True.intro
theorem PySem.W.Fast.tw12427819626478769911 : True := True.intro
theorem PySem.W.Fast.tw3761707030690444371 : True := True.intro
theorem PySem.W.Fast.tw9549422969540507242 : True := True.intro
theorem PySem.W.Fast.tw1990606075798533101 : True := True.intro
theorem PySem.W.Fast.tw2301123892095205465 : True := True.intro
theorem PySem.W.Fast.tw17654552890443728491 : True := True.intro
theorem PySem.W.Fast.tw6792609585856751856 : True := True.intro
theorem PySem.W.Fast.tw566955406953796671 : True := True.intro
theorem PySem.W.Fast.tw15352818020458355977 : True := True.intro
theorem PySem.W.Fast.tw2835008676261871058 : True := True.intro
open PySem PySem.W PyProof.Rows L2
set_option maxRecDepth 100000 in
set_option maxHeartbeats 0 in
theorem PySem.Challenge.cw_tracebook_k27_whole_moves_and_norms_holds : PySem.Challenge.rw_tracebook_k27_whole_moves_and_norms.Holds := by
 w_on;o_law;k_head;(case hw=>w_witness2)
 k_fill
 refine TB.walk (l:=PySem.Challenge.rw_tracebook_k27_whole_moves_and_norms) rfl rfl (fun w h Y=>PySem.W.kIn_of Y) ?F
 case F =>
  intro w mg fa h KX G hmg
  exact TB.va hmg ⟨df1 KX G,df1 KX G,df2 KX G,df2 KX G,df1 KX G,df2 KX G,df2 KX G,df2 KX G,df1 KX G,df2 KX G,df5 KX G,df4 KX G,df1 KX G,_,_,_,mgk KX G,A7,mkk,fnk,bd2,sD,sD,sD,_,_,e6,fnk,bd2,_,_,e6,fnk,bd4,_,_,e6,fnk,bd3,_,_,e6,fnk,bd3,_,_,e6,fnk,bd2,_,_,e6,fnk,bd3,_,_,e6,fnk,bd3,_,_,e6,fnk,bd2,_,mgk KX G,mgz KX G,mgz KX G,mgz KX G,mgz KX G,mgz KX G,mgz KX G,mgz KX G,mgz KX G,mgz KX G,mgz KX G⟩ fun s v=>.of_eq rfl
